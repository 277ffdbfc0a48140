import PyProof.Rows.All
import Wide.All
import OpenK.AllK
import Wide.FinOn
import Lean
import PyProof.EqAt
import PyProof.EqKinds
import PyProof.TupleCall
import KE.KRevIter
import PyProof.StationsW
import PyProof.ExcClass2
import PyProof.ExcInit
import PyProof.ExcBaseAll.ValueError
import PyProof.ExcArgsOwn
import OpenK.KMake
import KE.KIsAll
import PyProof.InstStoreFacts
import PyProof.FString2
import KE.KTryMore
import PyProof.NsDelKeeps
import PyProof.Rows.StrSplitJoin
import PyProof.StrLawsTight
import PyProof.ListMulRoad
import PyProof.ZipIter
import PyProof.TupleIter
import PyProof.WalksMore
import KE.KSortAsk
import KE.KSortTup
import KE.KDictLaws
import PyProof.NeKinds
import PyProof.EnumFor
import PyProof.EnumMake
import PyProof.DictItems
import PyProof.Draws
import PyProof.Rows.CallKwBuiltin
import PyProof.ReprHeadsTuple
import PyProof.StrLawsRepr
import PyProof.AttrMissHeap
import PyProof.Rows.SetFrom
import PyProof.DictRoadsH
import PyProof.Rows.Tup
import PyProof.FactsAll.dict_1
import PySem.Challenge.RW_codemend_k06_kids_in_and_out
set_option linter.all false
abbrev yyL:=List (PySem.Addr × PySem.Obj)
abbrev yyD (x:PySem.Str):Prop:=(x == ("__debug__":PySem.Str))=false
section
open PySem PySem.Spec PySem.Calls PyProof.Rows
def yA:=@wpAny_bind
def yB:=@Heap.get?_push_of_some
def yC:=@List.getElem?_eq_getElem
def yD:=@Nat.le_refl
def yE:=@List.length_map
def yF:=@wpAny_pure
def yG:=@List.getElem?_eq_some_iff
def yH:=@List.getElem?_map
def yI:=@Heap.lt_size
def yJ:=@Heap.get?_push_size
def yK:=@if_neg
def yL:=@List.mem_cons_of_mem
def yM:=@if_pos
def yN:=@absurd
def yO:=@Bool.false_ne_true
def yP:=@List.mem_cons
def yQ:=@List.size_toArray
def yR:=@List.mem_cons_self
def yS:=@List.mem_map
def yT:=@Nat.lt_of_lt_of_le
def yU:=@Nat.ne_of_lt
def yV:=@List.length_append
def yW:=@List.map_cons
def yX:=@List.mem_map_of_mem
def yY:=@List.lookup_cons
def yZ:=@List.getElem?_set_ne
def ya:=@PyProof.Rows.boot_isinstance
def yb:=@List.append_nil
def yc:=@List.mem_append_right
def yd:=@List.mem_singleton
def ye:=@List.mem_append
def yf:=@List.mem_of_getElem?
def yg:=@decide_eq_false
def yh:=@List.take_of_length_le
def yi:=@congrArg
def yj:=@Heap.get?_update_other
def ym:=@List.map_map
def yn:=@List.getElem?_append_left
def yo:=@List.length_cons
def yp:=@wpAny_mono
def yq:=@Nat.le_trans
def yr:=@Bool.and_eq_true
def yt:=@List.nodup_cons
def yu:=@Array.getElem?_eq_getElem
def yx:=@List.not_mem_nil
def yz:=@List.getElem?_append_right
def YA:=@PyProof.Rows.boot_tuple
def YB:=@Nat.zero_le
def YC:=@Array.length_toList
def YD:=@wpAny_newObj_type
def YE:=@decide_eq_true_eq
def YF:=@PySem.boot_len
def YG:=@List.getElem?_set_self
def YH:=@Option.isSome_iff_exists
def YI:=@List.map_congr_left
def YJ:=@List.length_take
def YK:=@wpAny_field
def YL:=@Bool.false_eq_true
def YM:=@List.nil_append
def YN:=@List.drop_eq_getElem_cons
def YO:=@List.filter_sublist
def YQ:=@List.map_append
def YR:=@List.find?_cons
def YS:=@List.dropLast_concat_getLast
def YT:=@wpAny_Call_Name_kw
def YU:=@wpAny_call_entry
def YV:=@PyProof.Rows.callWith_type1
def YW:=@wpAny_holding
def YX:=@Nat.lt_irrefl
def YY:=@Option.map_eq_some_iff
def YZ:=@List.drop_eq_nil_of_le
def Ya:=@List.append_assoc
def Yb:=@Array.getElem?_eq_some_iff
def Yc:=@Heap.get?_update_self
def Yd:=@Or.inr
def Ye:=@wpAny_seqItems
def Yf:=@List.take_succ
def Yg:=@List.mem_filter
def Yh:=@PySem.mem_of_lookup
def Yi:=@List.replicate_succ
def Yj:=@List.length_drop
def Yk:=@List.all_eq_true
def Yl:=@decide_eq_true
def Ym:=@Heap.size_push
def Yn:=@PySem.F.slot_tuple_iterator_next
def Yo:=@List.nodup_append
def Yp:=@List.mem_append_left
def Yq:=@List.dropLast_concat
def Yr:=@PyProof.Rows.slot_tuple_getitem
def Ys:=@List.getElem?_range
def Yt:=@wpAny_setField
def Yu:=@List.getElem_mem
def Yv:=@Int.eq_ofNat_of_zero_le
def Yw:=@wpAny_typeNameOfWhole_keyiter
def Yx:=@List.getLast?_eq_some_getLast
def Yy:=@List.eq_nil_of_length_eq_zero
def Yz:=@wpAny_setField_rec
def JA:=@Or.inl
def JB:=@Nat.lt_trans
def JC:=@List.filter_append
def JD:=@wpAny_passesOwn
def JE:=@wpAny_execs_nil
def JF:=@List.length_filter_le
def JG:=@List.flatten_cons
def JH:=@Int.toNat_natCast
end
set_option compiler.extract_closed false
def yy:=trivial
noncomputable section
set_option Elab.async false
set_option maxRecDepth 100000
namespace L2
open PySem PySem.Spec PyProof.Rows
abbrev Key:=Sum Int Str
def zj1:Key->Value->Bool
 | .inl k,v=>Value.isInt k v
 | .inr x,v=>Value.isStrOf x v
def zws (w:World):Key->Int
 | .inl k=>hashInt k
 | .inr x=>hashStr w x
theorem zao:∀ {k:Key} {v:Value},zj1 k v=true->(∃ i t,k=Sum.inl i/\v=Value.int i t)\/(∃ x t,k=Sum.inr x/\v=Value.str x t)
 | .inl i,v,h=>by
  obtain ⟨t,e⟩:=Value.isInt_shape (k:=i) (v:=v) h; exact .inl ⟨i,t,rfl,e⟩
 | .inr x,v,h=>by
  obtain ⟨t,e⟩:=Value.isStrOf_shape (x:=x) (v:=v) h; exact .inr ⟨x,t,rfl,e⟩
def zlJ (i:Int) (t:Tok):zj1 (.inl i) (.int i t)=true:=by simp [zj1,Value.isInt]
def zlI (x:Str) (t:Tok):zj1 (.inr x) (.str x t)=true:=by simp [zj1,Value.isStrOf]
def zs1 (a b:Int):decide ((Sum.inl a:Key)=Sum.inl b)=(a == b):=by
 by_cases e:a=b
 ·subst e; simp
 ·have h:¬ (Sum.inl a:Key)=Sum.inl b:=fun q=>e (Sum.inl.inj q)
  rw [yg h]; exact (beq_eq_false_iff_ne.mpr e).symm
def zsY (a b:Str):decide ((Sum.inr a:Key)=Sum.inr b)=decide (a=b):=by
 by_cases e:a=b
 ·subst e; simp
 ·have h:¬ (Sum.inr a:Key)=Sum.inr b:=fun q=>e (Sum.inr.inj q)
  rw [yg h,yg e]
def zs0 (a:Int) (b:Str):decide ((Sum.inl a:Key)=Sum.inr b)=false:=yg (fun q=>nomatch q)
def zsZ (a:Str) (b:Int):decide ((Sum.inr a:Key)=Sum.inl b)=false:=yg (fun q=>nomatch q)
def mixKind (prog:Program) (w:World):PySem.KeyKind prog w Key where
 is:=zj1
 hash:=zws w
 inj:=fun v a b ha hb=>by
  rcases zao ha with ⟨i,t,rfl,rfl⟩ | ⟨x,t,rfl,rfl⟩
  ·rcases zao hb with ⟨j,u,rfl,e⟩ | ⟨y,u,rfl,e⟩
   ·injection e with e1 _; rw [e1]
   ·exact nomatch e
  ·rcases zao hb with ⟨j,u,rfl,e⟩ | ⟨y,u,rfl,e⟩
   ·exact nomatch e
   ·injection e with e1 _; rw [e1]
 byValue:=fun k v h=>by
  rcases zao h with ⟨i,t,rfl,rfl⟩ | ⟨x,t,rfl,rfl⟩ <;> rfl
 pyHash:=fun hv h=>by
  rcases zao hv with ⟨i,t,rfl,rfl⟩ | ⟨x,t,rfl,rfl⟩
  ·exact wpAny_pyHash_int h
  ·exact wpAny_pyHash_str h
 eqBool:=fun hu hv h=>by
  rcases zao hu with ⟨i,t,rfl,rfl⟩ | ⟨x,t,rfl,rfl⟩
  ·rcases zao hv with ⟨j,u,rfl,rfl⟩ | ⟨y,u,rfl,rfl⟩
   ·rw [zs1] at h; exact wpAny_eqBool_int h
   ·rw [zs0] at h; exact SeqAt.EqAt.int_str i t y u _ _ _ _ h
  ·rcases zao hv with ⟨j,u,rfl,rfl⟩ | ⟨y,u,rfl,rfl⟩
   ·rw [zsZ] at h; exact SeqAt.EqAt.str_int x t j u _ _ _ _ h
   ·rw [zsY] at h; exact wpAny_eqBool_str h
 «strs»:=fun k x t v h=>by
  rcases zao h with ⟨i,u,rfl,e⟩ | ⟨y,u,rfl,e⟩
  ·exact nomatch e
  ·injection e with e1 _
   subst e1
   cases v <;> rfl
def zh5 (prog:Program) (w:World) (i:Int) (t:Tok):(mixKind prog w).is (.inl i) (.int i t)=true:=zlJ i t
def zh4 (prog:Program) (w:World) (x:Str) (t:Tok):(mixKind prog w).is (.inr x) (.str x t)=true:=zlI x t
inductive V where
 | non | bl (b:Bool) | int (i:Int) | str (x:Str) | byt (b:Array UInt8) | flt (b:UInt64) | ref (a:Addr) | ty (n:String)
 deriving DecidableEq
def zaw:V->Value->Prop
 | .non,u=>u=Value.none
 | .bl b,u=>u=Value.bool b
 | .int i,u=>∃ t,u=Value.int i t
 | .str x,u=>∃ t,u=Value.str x t
 | .byt b,u=>∃ t,u=Value.bytes b t
 | .flt b,u=>∃ t,u=Value.float b t
 | .ref a,u=>u=Value.ref a
 | .ty n,u=>u=Value.type n
abbrev zah:List V->List Value->Prop:=Paired zaw
def zah.length {xs:List V} {us:List Value} (r:zah xs us):xs.length=us.length:=Paired.length r
theorem zah.get:∀ {xs:List V} {us:List Value} {i:Nat} {x:V},zah xs us->xs[i]?=some x->∃ u,us[i]?=some u/\zaw x u
 | _,_,_,_,.nil,e=>by simp at e
 | _,_,0,_,.cons r _,e=>by simp at e; subst e; exact ⟨_,rfl,r⟩
 | _,_,i+1,x,.cons _ t,e=>by
  obtain ⟨u,h1,h2⟩:=zah.get (i:=i) (x:=x) t (by simpa using e)
  exact ⟨u,by simpa using h1,h2⟩
theorem zah.append:∀ {xs ys:List V} {us ws:List Value},zah xs us->zah ys ws->zah (xs ++ ys) (us ++ ws)
 | _,_,_,_,.nil,s=>s
 | _,_,_,_,.cons r t,s=>.cons r (zah.append t s)
theorem zah.take:∀ {xs:List V} {us:List Value} (n:Nat),zah xs us->zah (xs.take n) (us.take n)
 | _,_,0,_=>.nil
 | _,_,_+1,.nil=>.nil
 | _,_,n+1,.cons r t=>.cons r (zah.take n t)
theorem zah.drop:∀ {xs:List V} {us:List Value} (n:Nat),zah xs us->zah (xs.drop n) (us.drop n)
 | _,_,0,r=>r
 | _,_,_+1,.nil=>.nil
 | _,_,n+1,.cons _ t=>zah.drop n t
def zmp:Option V->Option Value->Prop
 | some v,some u=>zaw v u
 | none,none=>True
 | _,_=>False
def KV {κ:Type}:List (κ × V)->List (κ × Value)->Prop:=Paired fun (p:κ × V) (q:κ × Value)=>p.1=q.1/\zaw p.2 q.2
def kV:Key->V
 | .inl i=>.int i
 | .inr x=>.str x
inductive HO where
 | lst (xs:List V)
 | tup (xs:List V)
 | dK (kvs:List (Key × V)) | dT (kvs:List (List Key × V))
 | dE (kvs:List (List Key × V)) (ep:Nat)
 | set (S:Int->Bool) (n:Nat)
 | ins (C dx:Addr) (fs:List (Str × V))
 | own (x:Addr)
 | xd (fs:List (Str × V))
 | met (f x:Addr)
 | rng (lo hi:Int)
 | frz (o:Obj) (u:HO)
 | tbl (ps:Array Value)
 | ext (φ:Heap->Prop)
abbrev zvt:HO:=.ext fun _=>True
def zbn:List V ⊕ Obj->HO
 | .inl xs=>.tup xs
 | .inr o=>.frz o zvt
abbrev Hp:=Addr->Option HO
def upd (H:Hp) (a:Addr) (o:HO):Hp:=fun b=>if b=a then some o else H b
def zp {H:Hp} {a:Addr} {o:HO}:upd H a o a=some o:=by unfold upd; rw [yM rfl]
def zq {H:Hp} {a b:Addr} {o:HO} (h:b≠a):upd H a o b=H b:=by unfold upd; rw [yK h]
def zlm {H:Hp} {a b:Addr} {o u:HO} (h:H a=some o) (h':H b=some u) (d:o≠u):a≠b:=by
 intro e; subst e; rw [h] at h'; exact d (Option.some.inj h')
def zA {H:Hp} {a b:Addr} {o:HO} (h:H a=some o) (h':H b=none):a≠b:=by
 intro e; subst e; rw [h] at h'; cases h'
section
variable (P:Program) (w:World)
def zap (H:Hp) (h:Heap) (a:Addr):HO->Prop
 | .lst xs=>xs.length<=sizeLine/\∃ (its:List Value) (n:Nat),zah xs its/\h.get? a=some { cls:=.type "list",data:=.seq its.toArray n }
 | .tup xs=>xs.length<=sizeLine/\∃ its:List Value,zah xs its/\IsTup h a its.toArray
 | .dK kvs=>kvs.length<=sizeLine/\(a == sysModules)=false/\∃ vs,KV kvs vs/\h.DictOf (mixKind P w) a vs
 | .dT kvs=>kvs.length<=sizeLine/\(a == sysModules)=false/\∃ xs:List (List Key × Addr × Value),
   Paired (fun (p:List Key × V) (q:List Key × Addr × Value)=>p.1=q.1/\H q.2.1=some (.tup (p.1.map kV))/\zaw p.2 q.2.2) kvs xs /\
   ∃ o es ep,h.get? a=some o/\o.ExactDict/\o.data=.dict es ep/\es.toList=xs.map (entryOfKey (tupleKind (mixKind P w)))/\(xs.map (·.1)).Nodup
 | .dE kvs ep=>kvs.length<=sizeLine/\(a == sysModules)=false/\∃ xs:List (List Key × Addr × Value),
   Paired (fun (p:List Key × V) (q:List Key × Addr × Value)=>p.1=q.1/\H q.2.1=some (.tup (p.1.map kV))/\zaw p.2 q.2.2) kvs xs /\
   ∃ o es,h.get? a=some o/\o.ExactDict/\o.data=.dict es ep/\es.toList=xs.map (entryOfKey (tupleKind (mixKind P w)))/\(xs.map (·.1)).Nodup
 | .set S n=>h.SetOf (intKind P w) a S n
 | .ins C dx fs=>H dx=some (.own a)/\fs.length<=1000/\dx≠a/\h.get? a=some (W.instObj C dx) /\
   ∃ mA,h.Ns1 dx mA/\(∀ f,zmp (fs.lookup f) (mA f))/\PySem.Within mA (fs.map (·.1))
 | .own _=>∃ o,h.get? a=some o
 | .xd fs=>∃ mA,h.Ns1 a mA/\∀ f,zmp (fs.lookup f) (mA f)
 | .rng lo hi=>∃ t u v,h.get? a=some { cls:=.type "range",data:=.fields #[.int lo t,.int hi u,.int 1 v] }
 | .frz o u=>h.get? a=some o/\zap H h a u
 | .tbl ps=>∃ ts:Array Value,h.get? a=some { cls:=.none,data:=.fields ts }/\TriplesOk ts.toList/\∀ pos cv,codeAmong pos ts.toList=some cv->∃ c oc vs t q t0,cv=.ref c/\H c=some (zbn (.inr oc))/\oc.data=.fields vs/\vs[1]?=some (.str q t)/\ps[0]?=some (.str q t0)
 | .met f x=>h.get? a=some (W.methodObj (.ref f) (.ref x))
 | .ext φ=>φ h/\(∃ o,h.get? a=some o)/\∀ h1 h2:Heap,φ h1->(∀ o,h1.get? a=some o->h2.get? a=some o)->φ h2
def HOk (H:Hp) (h:Heap):Prop:=∀ a o,H a=some o->zap P w H h a o
end
section
variable {P:Program} {w:World} {H H':Hp} {h h':Heap} {a:Addr} {o:HO}
def zap.lt (x:zap P w H h a o):a<h.objs.size:=by
 cases o with
 | lst xs=>obtain ⟨_,_,_,_,e⟩:=x; exact yI e
 | tup xs=>obtain ⟨_,_,_,p⟩:=x; exact p.lt
 | dK kvs=>obtain ⟨_,_,_,_,o,_,_,e,_⟩:=x; exact yI e
 | dT kvs=>obtain ⟨_,_,_,_,o,_,_,e,_⟩:=x; exact yI e
 | dE kvs ep=>obtain ⟨_,_,_,_,o,_,e,_⟩:=x; exact yI e
 | set S n=>obtain ⟨o,_,_,_,e,_⟩:=x; exact yI e
 | ins C dx fs=>obtain ⟨_,_,_,e,_⟩:=x; exact yI e
 | own y=>obtain ⟨_,e⟩:=x; exact yI e
 | xd fs=>obtain ⟨_,⟨_,_,_,e,_⟩,_⟩:=x; exact yI e
 | rng lo hi=>obtain ⟨_,_,_,e⟩:=x; exact yI e
 | frz ob u=>obtain ⟨e,_⟩:=x; exact yI e
 | tbl ps=>obtain ⟨_,e,_⟩:=x; exact yI e
 | met f y=>exact yI (show h.get? a=some _ from x)
 | ext φ=>obtain ⟨_,⟨_,e⟩,_⟩:=x; exact yI e
theorem Paired.mapP {α β:Type} {F G:α->β->Prop}:∀ {l₁:List α} {l₂:List β},Paired F l₁ l₂->(∀ a b,F a b->G a b)->Paired G l₁ l₂
 | _,_,.nil,_=>.nil
 | _,_,.cons r t,f=>.cons (f _ _ r) (Paired.mapP t f)
def zap.stay (x:zap P w H h a o) (k:∀ b u,(b=a\/H b=some (.own a))->h.get? b=some u->h'.get? b=some u)
  (ho:∀ b,H b=some (.own a)->H' b=some (.own a)) (ht:∀ b xs,H b=some (zbn xs)->H' b=some (zbn xs)):zap P w H' h' a o:=by
 induction o with
 | lst xs=>obtain ⟨z,its,n,r,e⟩:=x; exact ⟨z,its,n,r,k _ _ (.inl rfl) e⟩
 | tup xs=>obtain ⟨z,its,r,ob,e,c⟩:=x; exact ⟨z,its,r,ob,k _ _ (.inl rfl) e,c⟩
 | dK kvs=>obtain ⟨z,y,vs,r,ob,es,ep,e,c⟩:=x; exact ⟨z,y,vs,r,ob,es,ep,k _ _ (.inl rfl) e,c⟩
 | dT kvs =>
  obtain ⟨z,y,xs,r,ob,es,ep,e,c⟩:=x
  exact ⟨z,y,xs,Paired.mapP r fun p q z=>⟨z.1,ht _ (.inl _) z.2.1,z.2.2⟩,ob,es,ep,k _ _ (.inl rfl) e,c⟩
 | dE kvs ep =>
  obtain ⟨z,y,xs,r,ob,es,e,c⟩:=x
  exact ⟨z,y,xs,Paired.mapP r fun p q z=>⟨z.1,ht _ (.inl _) z.2.1,z.2.2⟩,ob,es,k _ _ (.inl rfl) e,c⟩
 | set S n=>obtain ⟨ob,es,ep,t,e,c⟩:=x; exact ⟨ob,es,ep,t,k _ _ (.inl rfl) e,c⟩
 | ins C dx fs =>
  obtain ⟨d,z,ne,e,mA,⟨od,es,ep,e2,c⟩,r⟩:=x
  exact ⟨ho _ d,z,ne,k _ _ (.inl rfl) e,mA,⟨od,es,ep,k _ _ (.inr d) e2,c⟩,r⟩
 | own y=>obtain ⟨ob,e⟩:=x; exact ⟨ob,k _ _ (.inl rfl) e⟩
 | xd fs=>obtain ⟨mA,⟨od,es,ep,e,c⟩,r⟩:=x; exact ⟨mA,⟨od,es,ep,k _ _ (.inl rfl) e,c⟩,r⟩
 | rng lo hi=>obtain ⟨t,u,v,e⟩:=x; exact ⟨t,u,v,k _ _ (.inl rfl) e⟩
 | frz ob u ih=>obtain ⟨e,q⟩:=x; exact ⟨k _ _ (.inl rfl) e,ih q⟩
 | tbl ps=>obtain ⟨ts,e,t,c⟩:=x; exact ⟨ts,k _ _ (.inl rfl) e,t,fun pos cv z=>let ⟨c,oc,vs,t,q,t0,z1,z2,z3⟩:=c pos cv z; ⟨c,oc,vs,t,q,t0,z1,ht _ _ z2,z3⟩⟩
 | met f y =>
  have e:h.get? a=some (W.methodObj (.ref f) (.ref y)):=x
  show h'.get? a=some (W.methodObj (.ref f) (.ref y))
  exact k a _ (.inl rfl) e
 | ext φ=>obtain ⟨p,⟨o,e⟩,st⟩:=x; exact ⟨st _ _ p fun o q=>k _ _ (.inl rfl) q,⟨o,k _ _ (.inl rfl) e⟩,st⟩
def HOk.lt (x:HOk P w H h) (e:H a=some o):a<h.objs.size:=(x a o e).lt
def HOk.fresh (x:HOk P w H h) (e:h.objs.size<=a):H a=none:=by
 cases q:H a with
 | none=>rfl
 | some u=>exact yN (yT (x.lt q) e) (YX _)
def HOk.kept (x:HOk P w H h) (k:∀ b u,h.get? b=some u->h'.get? b=some u):HOk P w H h':=fun a o e =>
 (x a o e).stay (fun b u _ q=>k b u q) (fun _ q=>q) fun _ _ q=>q
def HOk.laid (x:HOk P w H h) (k:∀ b u,h.get? b=some u->h'.get? b=some u) (hp:h.objs.size<=a) (new:zap P w (upd H a o) h' a o):HOk P w (upd H a o) h':=fun b u e=>by
 have hn:=x.fresh hp
 by_cases hb:b=a
 ·subst hb; rw [zp] at e; cases e; exact new
 ·rw [zq hb] at e
  exact (x b u e).stay (fun c v _ q=>k c v q) (fun c q=>by rw [zq (zA q hn)]; exact q) fun c xs q=>by rw [zq (zA q hn)]; exact q
end
def Rd (H:Hp) (a:Addr) (u:HO):Prop:=H a=some u\/∃ o,H a=some (.frz o u)
def Rd.ok {P:Program} {w:World} {H:Hp} {h:Heap} {a:Addr} {u:HO} (r:Rd H a u) (x:HOk P w H h):zap P w H h a u:=by
 rcases r with r | ⟨o,r⟩
 ·exact x a u r
 ·obtain ⟨_,q⟩:=x a _ r
  exact q
def Mut:Option HO->Prop
 | some (.lst _)=>True
 | some (.dK _)=>True
 | some (.dT _)=>True
 | some (.dE _ _)=>True
 | some (.set _ _)=>True
 | some (.ins _ _ _)=>True
 | some (.ext _)=>True
 | _=>False
section
variable {P:Program} {w:World} {H:Hp} {h h':Heap} {x e:Addr} {o':HO}
def HOk.write (ok:HOk P w H h) (mu:Mut (H x)) (he:e=x\/H e=some (.own x)) (k:∀ b u,b≠e->h.get? b=some u->h'.get? b=some u) (heo:∃ u,h'.get? e=some u)
  (new:zap P w (upd H x o') h' x o'):HOk P w (upd H x o') h':=fun b u q=>by
 have nown:∀ c y,H c=some (.own y)->c≠x:=fun c y r z=>by subst z; rw [r] at mu; exact mu
 have ntup:∀ c xs,H c=some (zbn xs)->c≠x:=fun c xs r z=>by subst z; rw [r] at mu; cases xs <;> exact mu
 by_cases hb:b=x
 ·subst hb; rw [zp] at q; cases q; exact new
 ·rw [zq hb] at q
  by_cases hbe:b=e
  ·have q':H b=some (.own x):=by
    rcases he with z | z
    ·exact yN (hbe.trans z) hb
    ·rw [hbe]; exact z
   rw [q] at q'; cases q'
   obtain ⟨v,hv⟩:=heo
   exact ⟨v,by rw [hbe]; exact hv⟩
  ·refine (ok b u q).stay (fun c v hc r=>k c v ?_ r) (fun c r=>by rw [zq (nown c b r)]; exact r) fun c xs r=>by rw [zq (ntup c xs r)]; exact r
   rcases hc with rfl | hc
   ·exact hbe
   ·rintro rfl
    rcases he with z | z
    ·exact nown c b hc z
    ·rw [hc] at z; cases z; exact hb rfl
end
structure Un (fs ex:List Addr) (H H':Hp) (h h':Heap):Prop where
 keep:∀ b o,h.get? b=some o->H b=none->b ∉ fs->b ∉ ex->h'.get? b=some o
 slot:∀ b o,h.get? b=some o->H b=none->b ∈ fs->b ∉ ex->∃ sl,h'.get? b=some { o with slots:=sl }
 free:∀ b o,h.get? b=some o->H b=none->b ∉ ex->H' b=none
 there:∀ b o,h.get? b=some o->b ∉ ex->∃ o',h'.get? b=some o'
 tups:∀ b xs,H b=some (.tup xs)->H' b=some (.tup xs)
 frzs:∀ b o u,H b=some (.frz o u)->H' b=some (.frz o u)
 tbls:∀ b ps,H b=some (.tbl ps)->∃ more,H' b=some (.tbl (ps ++ more))
section
variable {fs fs' ex ex':List Addr} {H H1 H2:Hp} {h h1 h2 h':Heap} {a x e:Addr} {o:HO}
def Un.any (u:Un fs ex H H1 h h1) {b:Addr} {ob:Obj} (q:h.get? b=some ob) (n:H b=none) (hx:b ∉ ex):∃ sl,h1.get? b=some { ob with slots:=sl }:=by
 by_cases hb:b ∈ fs
 ·exact u.slot b ob q n hb hx
 ·exact ⟨ob.slots,u.keep b ob q n hb hx⟩
def Un.kept (k:∀ b u,h.get? b=some u->h'.get? b=some u):Un fs ex H H h h' :=
 ⟨fun b ob q _ _ _=>k b ob q,fun b ob q _ _ _=>⟨ob.slots,k b ob q⟩,fun _ _ _ n _=>n,fun b ob q _=>⟨ob,k b ob q⟩,fun _ _ q=>q,fun _ _ _ q=>q,fun _ ps q=>⟨#[],by rw [q]; simp⟩⟩
def Un.refl:Un fs ex H H h h:=Un.kept fun _ _ q=>q
def Un.laid (k:∀ b u,h.get? b=some u->h'.get? b=some u) (hp:h.objs.size<=a) (hn:H a=none):Un fs ex H (upd H a o) h h' where
 keep:=fun b u q _ _ _=>k b u q
 slot:=fun b u q _ _ _=>⟨u.slots,k b u q⟩
 free:=fun b u q n _=>by rw [zq (yU (yT (yI q) hp))]; exact n
 there:=fun b u q _=>⟨u,k b u q⟩
 tups:=fun b xs q=>by rw [zq (zA q hn)]; exact q
 frzs:=fun b u xs q=>by rw [zq (zA q hn)]; exact q
 tbls:=fun b ps q=>⟨#[],by rw [zq (zA q hn),q]; simp⟩
def Un.write (mu:Mut (H x)) (he:e=x\/H e=some (.own x)) (k:∀ b u,b≠e->h.get? b=some u->h'.get? b=some u) (heo:∃ u,h'.get? e=some u):Un fs ex H (upd H x o) h h':=by
 have hx:∀ b,H b=none->b≠x:=fun b n z=>by subst z; rw [n] at mu; exact mu
 have hb:∀ b,H b=none->b≠e:=fun b n z=>by
  subst z
  rcases he with r | r
  ·exact hx b n r
  ·rw [n] at r; cases r
 have hm:∀ b u,H b=some u->¬ Mut (some u)->b≠x:=fun b u q nm z=>by subst z; rw [q] at mu; exact nm mu
 refine ⟨fun b u q n _ _=>k b u (hb b n) q,fun b u q n _ _=>⟨u.slots,k b u (hb b n) q⟩,fun b u q n _=>by rw [zq (hx b n)]; exact n,fun b u q _=>?_,
  fun b xs q=>by rw [zq (hm b _ q fun z=>z)]; exact q,fun b u xs q=>by rw [zq (hm b _ q fun z=>z)]; exact q,fun b ps q=>⟨#[],by rw [zq (hm b _ q fun z=>z),q]; simp⟩⟩
 by_cases hbe:b=e
 ·subst hbe; exact heo
 ·exact ⟨u,k b u hbe q⟩
end
def zq2 (g h:Heap) (L:Addr):yyL:=(List.range h.objs.size).filterMap fun a=>if a=L\/(g.get? a).isSome=true then none else (h.get? a).map fun o=>(a,o)
def zbq (g h:Heap) (L d:Addr):yyL:=(zq2 g h L).filter fun p=>decide (p.1≠d)
def zd5 (q:Str):Obj:=⟨.str q 0,none,.freed,#[]⟩
def zkc (base:Heap) (H:Hp):Prop:=∀ P q,base.objs[P]?=some (zd5 q)->∃ ps,H P=some (.tbl ps)/\ps[0]?=some (.str q 0)
def zkc.un {base:Heap} {H H':Hp} (t:zkc base H) (u:∀ b ps,H b=some (.tbl ps)->∃ more,H' b=some (.tbl (ps ++ more))):zkc base H':=fun P q e=>by
 obtain ⟨ps,e1,e2⟩:=t P q e; obtain ⟨more,e3⟩:=u P ps e1; refine ⟨_,e3,?_⟩
 rw [Array.getElem?_append_left (by rw [Yb] at e2; exact e2.1)]
 exact e2
def zt8:Obj:=⟨.none,none,.freed,#[]⟩
def znF (o:Obj):Option HO->Obj
 | some (.tbl ps)=>match (ps[0]?:Option Value) with
  | some (.str q 0)=>zd5 q
  | _=>zt8
 | some _=>zt8
 | none=>match o.data with
  | .freed=>zt8
  | _=>o
def nrm (h:Heap) (H:Hp):Heap:=⟨h.objs.mapIdx fun a o=>znF o (H a),h.life⟩
def znE (h:Heap) (H:Hp):(nrm h H).objs.size=h.objs.size:=by unfold nrm; simp
def ziX (h:Heap) (H:Hp) (b:Addr):(nrm h H).objs[b]?=(h.objs[b]?).map fun o=>znF o (H b):=by unfold nrm; simp
def zeX {h:Heap} {b:Addr} {o:Obj} (e:h.objs[b]?=some o) (n:o.data≠.freed):h.get? b=some o:=by
 unfold Heap.get?
 rw [e]; obtain ⟨c,d,dt,sl⟩:=o
 cases dt <;> first | rfl | exact yN rfl n
def zc4 {h:Heap} {b:Addr} {o:Obj} (e:h.get? b=some o):h.objs[b]?=some o/\o.data≠.freed:=by
 unfold Heap.get? at e
 cases q:h.objs[b]? with
 | none=>rw [q] at e; cases e
 | some u =>
  rw [q] at e; obtain ⟨c,d,dt,sl⟩:=u
  cases dt <;> first | (cases e; exact ⟨rfl,fun z=>nomatch z⟩) | cases e
def zql {h:Heap} {H:Hp} {b:Addr} {o:Obj} (e:h.get? b=some o) (n:H b=none):(nrm h H).get? b=some o:=by
 obtain ⟨e1,e2⟩:=zc4 e; refine zeX ?_ e2; rw [ziX,e1,n]
 show some (znF o none)=some o
 obtain ⟨c,d,dt,sl⟩:=o
 cases dt <;> first | rfl | exact yN rfl e2
def zsG {h:Heap} {H:Hp} {b:Addr} {o:Obj} (e:(nrm h H).get? b=some o):h.get? b=some o/\H b=none:=by
 obtain ⟨e1,e2⟩:=zc4 e; rw [ziX] at e1
 cases q:h.objs[b]? with
 | none=>rw [q] at e1; cases e1
 | some u =>
  rw [q] at e1
  have e3:znF u (H b)=o:=Option.some.inj e1
  cases z:H b with
  | some t =>
   rw [z] at e3
   exfalso
   unfold znF at e3; split at e3
   ·split at e3 <;> exact e2 (by rw [<- e3]; rfl)
   ·exact e2 (by rw [<- e3]; rfl)
   ·rename_i y; cases y
  | none =>
   rw [z] at e3; refine ⟨?_,rfl⟩; obtain ⟨c,d,dt,sl⟩:=u; unfold znF at e3
   cases dt <;> first | (cases e3; exact zeX q fun y=>nomatch y) | exact yN (show o.data=.freed by rw [<- e3]; rfl) e2
def znD (h:Heap) (H:Hp):zkc (nrm h H) H:=fun P q e=>by
 rw [ziX] at e
 cases z:h.objs[P]? with
 | none=>rw [z] at e; cases e
 | some u =>
  rw [z] at e
  have e3:znF u (H P)=zd5 q:=Option.some.inj e
  cases y:H P with
  | none =>
   rw [y] at e3
   exfalso
   obtain ⟨c,d,dt,sl⟩:=u; unfold znF zd5 zt8 at e3
   cases dt <;> cases e3
  | some t =>
   rw [y] at e3; unfold znF at e3; split at e3
   ·rename_i ps hps
    cases hps; split at e3
    ·rename_i q' hq
     cases e3; exact ⟨_,rfl,hq⟩
    ·cases e3
   ·cases e3
   ·rename_i hh; cases hh
structure Mod (K:W.Frag) (mg:Str->Option Value) (base:Heap):Prop where
 kin:K.In base
 glob:base.Ns mainGlobals mg
 blt:∃ mb,base.Ns builtinsNs mb/\∀ x:Str,x≠"__name__"->mb x=bootBuiltins x
 nolimit:base.NoLimit
 bm:∃ bm ob,mg "__builtins__"=some (.ref bm)/\bm≠builtinsNs/\base.get? bm=some ob/\ob.cls=.type "module"/\ob.dict=some builtinsNs/\ob.data=.plain
/-- the context: a def's body (or a comprehension's block) running. base: fixed through the whole law; s₀, H₀: the entry; outer: the frames whose slots others may change (a def's callers); stack: all frames that run;
   ex: iterators that were made ahead of the entry and are walked here (a comprehension's); fn: the names whose cells were made at the entry (a def: all; a comprehension's block: its own); calm: not within an except suite; pn: pins that every state bears; xe: what is wanted of an exception that leaves the code -/
structure Cx where
 prog:Program
 w:World
 K:W.Frag
 mg:Str->Option Value
 base:Heap
 A:Around
 N:List Str
 s₀:Shared
 H₀:Hp
 env:Env
 outer:List Env
 stack:List Env
 ex:List Addr
 fn:Str->Bool
 calm:Bool
 pn:yyL
 xe:Value->Shared->Prop
def frs (l:List Env):List Addr:=l.filterMap (·.frame)
abbrev Cx.fs (X:Cx):List Addr:=frs X.outer
def Vis (sc:Scope) (x:Str):Prop:=sc.names.lookup x=some .local\/sc.names.lookup x=some .cell\/sc.names.lookup x=some .free
def Loc (sc:Scope) (x:Str):Prop:=sc.names.lookup x=some .local\/sc.names.lookup x=some .cell
def zwD (env:Env) (h:Heap) (m:Str->Option Value) (x:Str) (u:Value):Prop :=
 (env.kindOf x=some .local/\m x=some u)\/((env.kindOf x=some .cell\/env.kindOf x=some .free)/\∃ c,env.cells.lookup x=some c/\h.IsCell c (some u))
structure Cx.Ok (X:Cx):Prop where
 mod:Mod X.K X.mg X.base
 kind:X.env.scope.kind=.function
 glob:X.env.globals=mainGlobals
 blt:X.env.builtins=builtinsNs
 above:X.s₀.heap.objs.size<=X.env.locals
 inj:∀ x y c,X.env.cells.lookup x=some c->X.env.cells.lookup y=some c->x=y
 has:∀ x,(X.env.kindOf x=some .cell\/X.env.kindOf x=some .free)->∃ c,X.env.cells.lookup x=some c
 cab:∀ x c,X.fn x=true->X.env.cells.lookup x=some c->X.s₀.heap.objs.size<=c
 hd:X.calm=true->X.A.handled=none
 frames:X.A.frames=some X.stack
 stk:X.stack=X.outer\/(X.stack=X.env :: X.outer/\X.env.frame=some X.env.locals)
 exf:∀ b ∈ X.ex,b≠X.env.locals/\∀ x c,X.env.cells.lookup x=some c->c≠b
 bs:∀ b o,X.base.get? b=some o->X.s₀.heap.get? b=some o/\X.H₀ b=none
 bsz:X.base.objs.size<=X.s₀.heap.objs.size
 noex:∀ b o,X.base.get? b=some o->b ∉ X.ex
 exfs:∀ b ∈ X.ex,b ∉ X.fs
 funs:X.s₀.heap.FunFrames X.base X.outer
 frf:∀ b ∈ X.fs,X.H₀ b=none
 tab:zkc X.base X.H₀
structure Inv (X:Cx) (pins:yyL) (σ:List (Option V)) (H:Hp) (s:Shared):Prop where
 ok:X.Ok
 os:s.os=X.s₀.os
 bare:AllBare s.gens
 base:Un X.fs X.ex X.H₀ H X.s₀.heap s.heap
 loc:∃ m,s.heap.Ns X.env.locals m/\∀ (i:Nat) (x:Str) (v:V),X.N[i]?=some x->σ[i]?=some (some v)->Vis X.env.scope x->∃ u,zaw v u/\zwD X.env s.heap m x u
 cell:∀ x c,X.env.cells.lookup x=some c->∃ v,s.heap.IsCell c v
 free:H X.env.locals=none
 freeC:∀ x c,X.env.cells.lookup x=some c->H c=none
 pin:∀ p ∈ X.pn ++ pins,s.heap.get? p.1=some p.2/\H p.1=none/\p.1≠X.env.locals/\p.1 ∉ X.fs/\∀ v,p.2.data≠.cell v
 hok:HOk X.prog X.w H s.heap
 len:σ.length=X.N.length
section
variable {X:Cx} {pins:yyL} {σ:List (Option V)} {H H':Hp} {s:Shared} {h':Heap}
def Cx.Ok.nofr (ok:X.Ok) {b:Addr} {o:Obj} (e:X.base.get? b=some o):b ∉ X.fs:=fun hb=>by
 have:=(ok.funs.mem hb).1
 rw [e] at this; cases this
def Inv.bs (I:Inv X pins σ H s):∀ b o,X.base.get? b=some o->s.heap.get? b=some o/\H b=none:=fun b o e =>
 ⟨I.base.keep b o (I.ok.bs b o e).1 (I.ok.bs b o e).2 (I.ok.nofr e) (I.ok.noex b o e),I.base.free b o (I.ok.bs b o e).1 (I.ok.bs b o e).2 (I.ok.noex b o e)⟩
def Inv.bk (I:Inv X pins σ H s):∀ b o,X.base.get? b=some o->s.heap.get? b=some o:=fun b o e=>(I.bs b o e).1
def Inv.mod (I:Inv X pins σ H s):Mod X.K X.mg X.base:=I.ok.mod
def Inv.kIn (I:Inv X pins σ H s):X.K.In s.heap:=I.ok.mod.kin.keeps I.bk
def Inv.lt (I:Inv X pins σ H s):X.env.locals<s.heap.objs.size:=let ⟨_,hn,_⟩:=I.loc; hn.lt
def Inv.sz (I:Inv X pins σ H s):X.s₀.heap.objs.size<=s.heap.objs.size:=yq I.ok.above (Nat.le_of_lt I.lt)
def Inv.nofs (I:Inv X pins σ H s) {a:Addr} (h:s.heap.objs.size<=a):a ∉ X.fs:=fun hb=>by
 obtain ⟨_,o,ho,_⟩:=I.ok.funs.mem hb; exact yN (yT (yI ho) (yq I.sz h)) (YX _)
def Inv.cne (I:Inv X pins σ H s):∀ x c,X.env.cells.lookup x=some c->c≠X.env.locals:=fun x c e z=>by
 obtain ⟨v,o,ho,hd⟩:=I.cell x c e
 obtain ⟨m,⟨o',es,ep,ho',hd',_⟩,_⟩:=I.loc
 rw [z,ho'] at ho; cases ho; rw [hd'] at hd; cases hd
def Inv.funs (I:Inv X pins σ H s):s.heap.FunFrames X.base X.outer:=by
 have all:∀ (l:List Env),(∀ b ∈ frs l,b ∈ X.fs)->X.s₀.heap.FunFrames X.base l->s.heap.FunFrames X.base l:=by
  intro l
  induction l with
  | nil=>intro _ _; trivial
  | cons env r ih =>
   intro hs hl
   obtain ⟨hk,⟨L,o,hf,hn,ho,hd⟩,hr⟩:=hl
   have hL:L ∈ X.fs:=hs L (by unfold frs; rw [List.filterMap_cons,hf]; exact yR)
   obtain ⟨sl,e⟩:=I.base.slot L o ho (I.ok.frf L hL) hL fun z=>I.ok.exfs L z hL
   exact ⟨hk,⟨L,_,hf,hn,e,hd⟩,ih (fun b hb=>hs b (by unfold frs; rw [List.filterMap_cons,hf]; exact yL _ hb)) hr⟩
 exact all X.outer (fun _ hb=>hb) I.ok.funs
def Inv.stack (I:Inv X pins σ H s):s.heap.FunFrames X.base X.stack:=by
 rcases I.ok.stk with e | ⟨e,hf⟩
 ·rw [e]; exact I.funs
 ·rw [e]
  obtain ⟨m,hn,_⟩:=I.loc
  refine .cons (by rw [I.ok.kind]; decide) hf hn ?_ I.funs
  exact Heap.get?_none_of_le (yq I.ok.bsz I.ok.above)
def Inv.stkSub (I:Inv X pins σ H s):∀ b ∈ frs X.stack,b ∈ X.env.locals :: X.fs:=fun b hb=>by
 rcases I.ok.stk with e | ⟨e,hf⟩
 ·rw [e] at hb; exact yL _ hb
 ·rw [e] at hb
  unfold frs at hb; rw [List.filterMap_cons,hf] at hb; exact hb
def Inv.stkFree (I:Inv X pins σ H s):∀ b ∈ frs X.stack,H b=none:=fun b hb=>by
 rcases yP.mp (I.stkSub b hb) with e | hb
 ·rw [e]; exact I.free
 ·obtain ⟨_,o,ho,_⟩:=I.ok.funs.mem hb
  exact I.base.free b o ho (I.ok.frf b hb) fun z=>I.ok.exfs b z hb
def Inv.step {g':Array GenState} {t':Nat} {d':Drawn} {ch:List Addr} (I:Inv X pins σ H s)
  (hch:∀ b ∈ ch,(b ∈ X.ex\/X.s₀.heap.objs.size<=b)/\b≠X.env.locals/\(∀ x c,X.env.cells.lookup x=some c->c≠b)/\∀ p ∈ X.pn ++ pins,p.1≠b)
  (keep:∀ b o,b≠X.env.locals->b ∉ X.fs->b ∉ ch->s.heap.get? b=some o->H b=none->h'.get? b=some o)
  (slot:∀ b o,b≠X.env.locals->b ∈ X.fs->b ∉ ch->s.heap.get? b=some o->H b=none->∃ sl,h'.get? b=some { o with slots:=sl }) (free:∀ b o,b ∉ ch->s.heap.get? b=some o->H b=none->H' b=none)
  (there:∀ b o,b ∉ ch->s.heap.get? b=some o->∃ o',h'.get? b=some o')
  (tups:∀ b xs,H b=some (.tup xs)->H' b=some (.tup xs)) (frzs:∀ b o u,H b=some (.frz o u)->H' b=some (.frz o u)) (tbls:∀ b ps,H b=some (.tbl ps)->∃ more,H' b=some (.tbl (ps ++ more)))
  (ns:∀ m,s.heap.Ns X.env.locals m->h'.Ns X.env.locals m) (hok:HOk X.prog X.w H' h') (hg:AllBare g') :
  Inv X pins σ H' { s with heap:=h',gens:=g',drawn:=d',toks:=t' }:=by
 have neL:∀ b o,X.s₀.heap.get? b=some o->b≠X.env.locals:=fun b o e=>yU (yT (yI e) I.ok.above)
 have neC:∀ b o,X.s₀.heap.get? b=some o->b ∉ X.ex->b ∉ ch:=fun b o e hx hb=>by
  rcases (hch b hb).1 with z | z
  ·exact hx z
  ·exact yN (yT (yI e) z) (YX _)
 have cellK:∀ x c,X.env.cells.lookup x=some c->∀ v,s.heap.IsCell c v->h'.IsCell c v:=fun x c e v ⟨o,ho,hd⟩=>by
  have nch:c ∉ ch:=fun z=>(hch c z).2.2.1 x c e rfl
  by_cases hc:c ∈ X.fs
  ·obtain ⟨sl,q⟩:=slot c o (I.cne x c e) hc nch ho (I.freeC x c e)
   exact ⟨_,q,hd⟩
  ·exact ⟨o,keep c o (I.cne x c e) hc nch ho (I.freeC x c e),hd⟩
 refine ⟨I.ok,I.os,hg,⟨fun b o e n hb hx=>?_,fun b o e n hb hx=>?_,fun b o e n hx=>?_,fun b o e hx=>?_,fun b xs e=>tups b xs (I.base.tups b xs e),fun b o xs e=>frzs b o xs (I.base.frzs b o xs e),fun b ps e=>?_⟩,?_,fun x c e=>?_,?_,fun x c e=>?_,fun p hp=>?_,hok,I.len⟩
 ·exact keep b o (neL b o e) hb (neC b o e hx) (I.base.keep b o e n hb hx) (I.base.free b o e n hx)
 ·obtain ⟨sl,e1⟩:=I.base.slot b o e n hb hx
  obtain ⟨sl',e2⟩:=slot b _ (neL b o e) hb (neC b o e hx) e1 (I.base.free b o e n hx); exact ⟨sl',e2⟩
 ·obtain ⟨o',e1⟩:=I.base.there b o e hx
  exact free b o' (neC b o e hx) e1 (I.base.free b o e n hx)
 ·obtain ⟨o',e1⟩:=I.base.there b o e hx
  exact there b o' (neC b o e hx) e1
 ·obtain ⟨m1,e1⟩:=I.base.tbls b ps e
  obtain ⟨m2,e2⟩:=tbls b _ e1
  exact ⟨m1 ++ m2,by rw [e2,Array.append_assoc]⟩
 ·obtain ⟨m,hn,hl⟩:=I.loc
  refine ⟨m,ns m hn,fun i x v e1 e2 e3=>?_⟩
  obtain ⟨u,r,l⟩:=hl i x v e1 e2 e3; refine ⟨u,r,?_⟩
  rcases l with l | ⟨k,c,e,z⟩
  ·exact .inl l
  ·exact .inr ⟨k,c,e,cellK x c e _ z⟩
 ·obtain ⟨v,z⟩:=I.cell x c e
  exact ⟨v,cellK x c e v z⟩
 ·obtain ⟨m,⟨o,_,_,ho,_⟩,_⟩:=I.loc
  exact free _ o (fun z=>(hch _ z).2.1 rfl) ho I.free
 ·obtain ⟨v,o,ho,hd⟩:=I.cell x c e
  exact free c o (fun z=>(hch c z).2.2.1 x c e rfl) ho (I.freeC x c e)
 ·obtain ⟨e,n,ne,nf,d⟩:=I.pin p hp
  have nch:p.1 ∉ ch:=fun z=>(hch p.1 z).2.2.2 p hp rfl
  exact ⟨keep p.1 p.2 ne nf nch e n,free p.1 p.2 nch e n,ne,nf,d⟩
def Inv.un {t':Nat} (I:Inv X pins σ H s) (u:Un X.fs [] H H' s.heap h') (hok:HOk X.prog X.w H' h'):Inv X pins σ H' { s with heap:=h',toks:=t' }:=by
 obtain ⟨m,⟨o,es,ep,ho,r⟩,_⟩:=id I.loc
 obtain ⟨sl,hL⟩:=u.any ho I.free (by simp)
 exact I.step (g':=s.gens) (d':=s.drawn) (ch:=[]) (fun _ z=>nomatch z) (fun b o _ hb _ e n=>u.keep b o e n hb (by simp)) (fun b o _ hb _ e n=>u.slot b o e n hb (by simp)) (fun b o _ e n=>u.free b o e n (by simp)) (fun b o _ e=>u.there b o e (by simp)) u.tups u.frzs u.tbls (fun m' hm=>by
  obtain ⟨o',es',ep',ho',r'⟩:=hm
  rw [ho] at ho'; cases ho'
  exact ⟨_,es',ep',hL,r'⟩) hok I.bare
def Inv.call {g':Array GenState} {t':Nat} {d':Drawn} {ch:List Addr} (I:Inv X pins σ H s) (u:Un (frs X.stack) ch H H' s.heap h') (hok:HOk X.prog X.w H' h') (hg:AllBare g')
  (hch:∀ b ∈ ch,(b ∈ X.ex\/X.s₀.heap.objs.size<=b)/\b≠X.env.locals/\(∀ x c,X.env.cells.lookup x=some c->c≠b)/\∀ p ∈ X.pn ++ pins,p.1≠b) :
  Inv X pins σ H' { s with heap:=h',gens:=g',drawn:=d',toks:=t' }:=by
 obtain ⟨m,⟨o,es,ep,ho,r⟩,_⟩:=id I.loc
 obtain ⟨sl,hL⟩:=u.any ho I.free fun z=>(hch _ z).2.1 rfl
 exact I.step (ch:=ch) hch (fun b o hL hb hc e n=>u.keep b o e n (fun z=>(yP.mp (I.stkSub b z)).elim hL hb) hc) (fun b o _ _ hc e n=>u.any e n hc) (fun b o hc e n=>u.free b o e n hc) (fun b o hc e=>u.there b o e hc) u.tups u.frzs u.tbls (fun m' hm=>by
  obtain ⟨o',es',ep',ho',r'⟩:=hm
  rw [ho] at ho'; cases ho'
  exact ⟨_,es',ep',hL,r'⟩) hok hg
def Inv.turned {t':Nat} {it:Addr} (I:Inv X pins σ H s) (k:∀ b o,b≠it->s.heap.get? b=some o->h'.get? b=some o) (hn:H it=none) (hL:it≠X.env.locals)
  (h1:it ∈ X.ex\/X.s₀.heap.objs.size<=it) (h2:∀ x c,X.env.cells.lookup x=some c->c≠it) (h3:∀ p ∈ X.pn ++ pins,p.1≠it):Inv X pins σ H { s with heap:=h',toks:=t' }:=by
 have nit:∀ b u,H b=some u->b≠it:=fun b u e z=>by rw [z,hn] at e; cases e
 refine I.step (g':=s.gens) (d':=s.drawn) (ch:=[it]) (fun b hb=>?_) (fun b o _ _ hc e _=>k b o (fun z=>hc (by simp [z])) e) (fun b o _ _ hc e _=>⟨o.slots,k b o (fun z=>hc (by simp [z])) e⟩) (fun _ _ _ _ n=>n)
  (fun b o hc e=>⟨o,k b o (fun z=>hc (by simp [z])) e⟩) (fun _ _ e=>e) (fun _ _ _ e=>e) (fun b ps e=>⟨#[],by rw [e]; simp⟩) (fun m hm=>?_) (fun b u e=>?_) I.bare
 ·have e:b=it:=by simpa using hb
  subst e; exact ⟨h1,hL,h2,h3⟩
 ·obtain ⟨o,es,ep,ho,r⟩:=hm
  exact ⟨o,es,ep,k _ o (Ne.symm hL) ho,r⟩
 ·refine (I.hok b u e).stay (fun c v hc q=>k c v ?_ q) (fun _ q=>q) fun _ _ q=>q
  rcases hc with z | z
  ·rw [z]; exact nit b u e
  ·exact nit c _ z
def Inv.tok (I:Inv X pins σ H s) (t:Nat):Inv X pins σ H { s with toks:=t }:=I.un (h':=s.heap) (t':=t) Un.refl I.hok
def Inv.kept {t':Nat} (I:Inv X pins σ H s) (k:∀ b u,s.heap.get? b=some u->h'.get? b=some u):Inv X pins σ H { s with heap:=h',toks:=t' }:=I.un (Un.kept k) (I.hok.kept k)
def Inv.laid {a:Addr} {o:HO} {t':Nat} (I:Inv X pins σ H s) (k:∀ b u,s.heap.get? b=some u->h'.get? b=some u) (hp:s.heap.objs.size<=a) (new:zap X.prog X.w (upd H a o) h' a o) :
  Inv X pins σ (upd H a o) { s with heap:=h',toks:=t' }:=I.un (Un.laid k hp (I.hok.fresh hp)) (I.hok.laid k hp new)
def Inv.write {x e:Addr} {o:HO} {t':Nat} (I:Inv X pins σ H s) (mu:Mut (H x)) (he:e=x\/H e=some (.own x)) (k:∀ b u,b≠e->s.heap.get? b=some u->h'.get? b=some u) (heo:∃ u,h'.get? e=some u)
  (new:zap X.prog X.w (upd H x o) h' x o):Inv X pins σ (upd H x o) { s with heap:=h',toks:=t' }:=I.un (Un.write mu he k heo) (I.hok.write mu he k heo new)
def Inv.pins_of {pins':yyL} (I:Inv X pins σ H s) (h:∀ p ∈ pins',s.heap.get? p.1=some p.2/\H p.1=none/\p.1≠X.env.locals/\p.1 ∉ X.fs/\∀ v,p.2.data≠.cell v):Inv X pins' σ H s :=
 ⟨I.ok,I.os,I.bare,I.base,I.loc,I.cell,I.free,I.freeC,fun p hp=>(ye.mp hp).elim (fun z=>I.pin p (Yp _ z)) (h p),I.hok,I.len⟩
def zf6 {N:List Str} (hN:N.Nodup) {i j:Nat} {x:Str} (a:N[i]?=some x) (b:N[j]?=some x):i=j:=by
 obtain ⟨h1,e1⟩:=yG.mp a; obtain ⟨h2,e2⟩:=yG.mp b; exact (List.getElem_inj hN).mp (e1.trans e2.symm)
def zgv {M:Model} {A:Around} {E:Value->Shared->Prop} {i:Nat} {x:Str} {v:V} {u:Value} {Q:Unit->Shared->Prop} (I:Inv X pins σ H s) (hN:X.N.Nodup) (hi:X.N[i]?=some x) (hx:Loc X.env.scope x) (r:zaw v u)
  (h:∀ s',Inv X pins (σ.set i (some v)) H s'->(∃ a,Heap.SameBut a s.heap s'.heap/\(a=X.env.locals\/X.env.cells.lookup x=some a))->Q () s') (hf:X.fn x=true\/X.env.scope.names.lookup x=some .local:=by first | exact .inl rfl | exact .inr rfl | assumption):wpAny M A (storeName X.env x u) Q E s:=by
 obtain ⟨m,hn,hl⟩:=id I.loc
 have hcls:(X.env.scope.kind == .class || (X.env.scope.kind == .module && X.env.locals != X.env.globals))=false:=by rw [I.ok.kind]; rfl
 have hiσ:i<σ.length:=by rw [I.len]; exact (yG.mp hi).1
 have cne:=I.cne
 have tracked:∀ {a:Addr} {h':Heap},(∃ o,s.heap.get? a=some o/\H a=none)->Heap.SameBut a s.heap h'->HOk X.prog X.w H h':=fun {a h'} ha hs b ob e=>by
  obtain ⟨_,_,hfree⟩:=ha
  refine (I.hok b ob e).stay (fun c w' hc q=>(hs.2 c ?_).trans q) (fun _ q=>q) fun _ _ q=>q
  rintro rfl
  rcases hc with rfl | hc
  ·rw [hfree] at e; cases e
  ·rw [hfree] at hc; cases hc
 rcases hx with hk | hk
 ·refine wpAny_storeName_local hk hn (fun h' hn' hs=>?_) hcls
  obtain ⟨oL,_,_,hoL,_⟩:=id hn
  refine h _ ⟨I.ok,I.os,I.bare,⟨fun b o e n hb hx=>?_,fun b o e n hb hx=>?_,I.base.free,fun b o e hx=>?_,I.base.tups,I.base.frzs,I.base.tbls⟩,⟨_,hn',fun j y v' e1 e2 e3=>?_⟩,fun y c e=>?_,I.free,I.freeC,fun p hp=>?_,tracked ⟨oL,hoL,I.free⟩ hs,by simpa using I.len⟩ ⟨_,hs,.inl rfl⟩
  ·exact (hs.2 b (yU (yT (yI e) I.ok.above))).trans (I.base.keep b o e n hb hx)
  ·obtain ⟨sl,e1⟩:=I.base.slot b o e n hb hx
   exact ⟨sl,(hs.2 b (yU (yT (yI e) I.ok.above))).trans e1⟩
  ·obtain ⟨o',e1⟩:=I.base.there b o e hx
   exact ⟨o',(hs.2 b (yU (yT (yI e) I.ok.above))).trans e1⟩
  ·by_cases hj:j=i
   ·subst hj
    rw [hi] at e1; cases e1
    rw [YG hiσ] at e2; cases e2
    exact ⟨u,r,.inl ⟨hk,by simp⟩⟩
   ·rw [yZ (Ne.symm hj)] at e2
    obtain ⟨u',r',q⟩:=hl j y v' e1 e2 e3; refine ⟨u',r',?_⟩
    rcases q with ⟨k,e⟩ | ⟨k,c,e,z⟩
    ·refine .inl ⟨k,?_⟩
     have:y≠x:=fun e=>hj (zf6 hN e1 (e ▸ hi))
     simp [this,e]
    ·exact .inr ⟨k,c,e,z.sameBut hs (cne y c e)⟩
  ·obtain ⟨w',z⟩:=I.cell y c e
   exact ⟨w',z.sameBut hs (cne y c e)⟩
  ·obtain ⟨e,n,ne,nf,d⟩:=I.pin p hp
   exact ⟨(hs.2 p.1 ne).trans e,n,ne,nf,d⟩
 ·have hfn:X.fn x=true:=by
   rcases hf with z | z
   ·exact z
   ·rw [z] at hk; cases hk
  obtain ⟨c,hc⟩:=I.ok.has x (.inl hk); obtain ⟨w',z⟩:=I.cell x c hc
  refine wpAny_storeName_cell I.ok.kind hk hc z (fun h' hc' hs=>?_)
  obtain ⟨oc,hoc,hocd⟩:=id z
  refine h { s with heap:=h' } ⟨I.ok,I.os,I.bare,⟨fun b o e n hb hx=>?_,fun b o e n hb hx=>?_,I.base.free,fun b o e hx=>?_,I.base.tups,I.base.frzs,I.base.tbls⟩,⟨m,hn.sameBut hs (Ne.symm (cne x c hc)),fun j y v' e1 e2 e3=>?_⟩,fun y c' e=>?_,I.free,I.freeC,fun p hp=>?_,tracked ⟨oc,hoc,I.freeC x c hc⟩ hs,by simpa using I.len⟩ ⟨c,hs,.inr hc⟩
  ·exact (hs.2 b (yU (yT (yI e) (I.ok.cab x c hfn hc)))).trans (I.base.keep b o e n hb hx)
  ·obtain ⟨sl,e1⟩:=I.base.slot b o e n hb hx
   exact ⟨sl,(hs.2 b (yU (yT (yI e) (I.ok.cab x c hfn hc)))).trans e1⟩
  ·obtain ⟨o',e1⟩:=I.base.there b o e hx
   exact ⟨o',(hs.2 b (yU (yT (yI e) (I.ok.cab x c hfn hc)))).trans e1⟩
  ·by_cases hj:j=i
   ·subst hj
    rw [hi] at e1; cases e1
    rw [YG hiσ] at e2; cases e2; exact ⟨u,r,.inr ⟨.inl hk,c,hc,hc'⟩⟩
   ·rw [yZ (Ne.symm hj)] at e2
    obtain ⟨u',r',q⟩:=hl j y v' e1 e2 e3; refine ⟨u',r',?_⟩
    rcases q with q | ⟨k,c',e,z'⟩
    ·exact .inl q
    ·refine .inr ⟨k,c',e,z'.sameBut hs ?_⟩
     rintro rfl
     exact hj (zf6 hN e1 (I.ok.inj _ _ _ e hc ▸ hi))
  ·by_cases hcc:c'=c
   ·subst hcc; exact ⟨_,hc'⟩
   ·obtain ⟨w2,z2⟩:=I.cell y c' e
    exact ⟨w2,z2.sameBut hs hcc⟩
  ·obtain ⟨e,n,ne,nf,d⟩:=I.pin p hp
   refine ⟨(hs.2 p.1 ?_).trans e,n,ne,nf,d⟩; intro q; rw [q,hoc] at e
   have q':oc=p.2:=Option.some.inj e
   exact d w' (by rw [<- q']; exact hocd)
def zdi {M:Model} {A:Around} {E:Value->Shared->Prop} {i:Nat} {x:Str} {v:V} {u:Value} {Q:Unit->Shared->Prop} (I:Inv X pins σ H s) (hN:X.N.Nodup) (hi:X.N[i]?=some x) (hx:Loc X.env.scope x) (r:zaw v u)
  (h:∀ s',Inv X pins (σ.set i (some v)) H s'->Q () s') (hf:X.fn x=true\/X.env.scope.names.lookup x=some .local:=by first | exact .inl rfl | exact .inr rfl | assumption):wpAny M A (storeName X.env x u) Q E s :=
 zgv I hN hi hx r (fun s' I' _=>h s' I') hf
def Inv.call' {s':Shared} {ch:List Addr} (I:Inv X pins σ H s) (ho:s'.os=s.os) (u:Un (frs X.stack) ch H H' s.heap s'.heap) (hok:HOk X.prog X.w H' s'.heap) (hg:AllBare s'.gens)
  (hch:∀ b ∈ ch,(b ∈ X.ex\/X.s₀.heap.objs.size<=b)/\b≠X.env.locals/\(∀ x c,X.env.cells.lookup x=some c->c≠b)/\∀ p ∈ X.pn ++ pins,p.1≠b):Inv X pins σ H' s':=by
 obtain ⟨h',g',d',t',o'⟩:=s'
 have e:o'=s.os:=ho
 subst e; exact I.call (g':=g') (t':=t') (d':=d') u hok hg hch
end
abbrev XK:=Value->Option Addr->Hp->Prop
abbrev St:=List (Option V)
abbrev VK:=V->Hp->Prop
abbrev TE:=St->Hp->VK->Prop
abbrev TT:=St->Hp->(Bool->Hp->Prop)->Prop
abbrev TA:=St->Hp->(List V->Hp->Prop)->Prop
structure Ends where
 nx:St->Hp->Prop
 rt:VK
 bk:St->Hp->Prop:=fun _ _=>False
 ct:St->Hp->Prop:=fun _ _=>False
abbrev TS:=Ends->St->Hp->Prop
def EP (X:Cx) (pins:yyL) (σ:St) (Q:VK) (u:Value) (s':Shared):Prop:=∃ v H',Inv X pins σ H' s'/\zaw v u/\Q v H'
def TP (X:Cx) (pins:yyL) (σ:St) (Q:Bool->Hp->Prop) (b:Bool) (s':Shared):Prop:=∃ H',Inv X pins σ H' s'/\Q b H'
def AP (X:Cx) (pins:yyL) (σ:St) (Q:List V->Hp->Prop) (us:List Value) (s':Shared):Prop:=∃ vs H',Inv X pins σ H' s'/\zah vs us/\Q vs H'
def SP (X:Cx) (pins:yyL) (D:Ends) (f:Flow) (s':Shared):Prop :=
 match f with
 | .next=>∃ σ' H',Inv X pins σ' H' s'/\D.nx σ' H'
 | .brk=>∃ σ' H',Inv X pins σ' H' s'/\D.bk σ' H'
 | .cont=>∃ σ' H',Inv X pins σ' H' s'/\D.ct σ' H'
 | .ret u=>∃ v σ' H',Inv X pins σ' H' s'/\zaw v u/\D.rt v H'
def PE (X:Cx) (e:Expr) (t:TE):Prop :=
 ∀ (pins:yyL) (s:Shared) (σ:St) (H:Hp) (Q:VK),Inv X pins σ H s->t σ H Q->wpAny (model X.prog X.w) X.A (eval e X.env) (EP X pins σ Q) X.xe s
def PT (X:Cx) (e:Expr) (t:TT):Prop :=
 ∀ (pins:yyL) (s:Shared) (σ:St) (H:Hp) (Q:Bool->Hp->Prop),Inv X pins σ H s->t σ H Q->wpAny (model X.prog X.w) X.A (isTrue e X.env (eval e X.env)) (TP X pins σ Q) X.xe s
def PW (X:Cx) (e:Expr) (t:TT):Prop :=
 ∀ (whole:Sem Value) (pins:yyL) (s:Shared) (σ:St) (H:Hp) (Q:Bool->Hp->Prop),Inv X pins σ H s->t σ H Q->wpAny (model X.prog X.w) X.A (isTrue e X.env whole) (TP X pins σ Q) X.xe s
def PA (X:Cx) (es:List Expr) (t:TA):Prop :=
 ∀ (pos:Pos) (pins:yyL) (s:Shared) (σ:St) (H:Hp) (Q:List V->Hp->Prop),Inv X pins σ H s->t σ H Q->wpAny (model X.prog X.w) X.A (spliced (backTo pos (starEach es X.env))) (AP X pins σ Q) X.xe s
def PS (X:Cx) (st:Stmt) (t:TS):Prop :=
 ∀ (pins:yyL) (s:Shared) (σ:St) (H:Hp) (D:Ends),Inv X pins σ H s->t D σ H->wpAny (model X.prog X.w) X.A (exec st X.env) (SP X pins D) X.xe s
def PSs (X:Cx) (st:List Stmt) (t:TS):Prop :=
 ∀ (pins:yyL) (s:Shared) (σ:St) (H:Hp) (D:Ends),Inv X pins σ H s->t D σ H->wpAny (model X.prog X.w) X.A (execs st X.env) (SP X pins D) X.xe s
def thn {α:Type} {t:Sem α} {Q Q':α->Shared->Prop} {M:Model} {A:Around} {E:Value->Shared->Prop} {s:Shared} (h:wpAny M A t Q E s) (hQ:∀ a s,Q a s->Q' a s):wpAny M A t Q' E s:=yp h hQ fun _ _ x=>x
section
variable {X:Cx}
def zvG (i:Nat):TE:=fun σ H Q=>∃ v,σ[i]?=some (some v)/\Q v H
def tC (v:V):TE:=fun _ H Q=>Q v H
def zd1 {i:Nat} {x:Str} {pos:Pos} (hN:X.N[i]?=some x) (hv:Vis X.env.scope x) (hd:yyD x:=by decide) (hcd:(x == ("__classdict__":Str))=false:=by decide):PE X (.Name x pos) (zvG i):=by
 intro pins s σ H Q I h; obtain ⟨v,e,h⟩:=h; obtain ⟨m,hn,hl⟩:=I.loc; obtain ⟨u,r,l⟩:=hl i x v hN e hv
 have fin:EP X pins σ Q u s:=⟨v,H,I,r,h⟩
 rcases l with ⟨hk,hm⟩ | ⟨hk,c,hc,hcell⟩
 ·exact wpAny_Name (wpAny_loadName_local I.ok.kind hk hn hm fin) hd
 ·rcases hk with hk | hk
  ·exact wpAny_Name (wpAny_loadName_cell I.ok.kind hk hc hcell fin) hd
  ·exact wpAny_Name (wpAny_loadName_free I.ok.kind hk hc hcell fin hcd) hd
def zoA {i j pos}:PE X (.Constant (.int i) j pos) (tC (.int i)):=fun _ _ _ H _ I h=>wpAny_Constant_int ⟨.int i,H,I.tok _,⟨_,rfl⟩,h⟩
def zuY {b j pos}:PE X (.Constant (.bool b) j pos) (tC (.bl b)):=fun _ _ _ H _ I h=>Constant_bool ⟨.bl b,H,I,rfl,h⟩
def zsn {j pos}:PE X (.Constant .none j pos) (tC .non):=fun _ _ _ H _ I h=>Constant_none ⟨.non,H,I,rfl,h⟩
def zsk {x j pos}:PE X (.Constant (.str x) j pos) (tC (.str x)):=fun _ _ _ H _ I h=>Calls.Constant_str ⟨.str x,H,I.tok _,⟨_,rfl⟩,h⟩
def Gl (X:Cx) (x:Str):Prop:=X.env.kindOf x=some .globalImplicit
def zcm {E:Value->Shared->Prop} {pins:yyL} {s:Shared} {σ:St} {H:Hp} {x:Str} {u:Value} {pos:Pos} {Q:Value->Shared->Prop} (I:Inv X pins σ H s) (hg:Gl X x) (hm:X.mg x=some u) (h:Q u s)
  (hd:yyD x:=by decide):wpAny (model X.prog X.w) X.A (eval (.Name x pos) X.env) Q E s :=
 Calls.Name_function_global I.ok.kind hg (Calls.loadGlobal_global (by rw [I.ok.glob]; exact I.mod.glob.keeps I.bk) hm h) hd
def zdr {E:Value->Shared->Prop} {pins:yyL} {s:Shared} {σ:St} {H:Hp} {x:Str} {u:Value} {pos:Pos} {Q:Value->Shared->Prop} (I:Inv X pins σ H s) (hg:Gl X x) (hm:X.mg x=none) (hv:bootBuiltins x=some u) (h:Q u s)
  (hn:x≠"__name__":=by decide) (hd:yyD x:=by decide):wpAny (model X.prog X.w) X.A (eval (.Name x pos) X.env) Q E s:=by
 obtain ⟨mb,h1,h2⟩:=I.mod.blt
 exact Calls.Name_function_global I.ok.kind hg (Calls.loadGlobal_builtin (by rw [I.ok.glob]; exact I.mod.glob.keeps I.bk) hm (by rw [I.ok.blt]; exact h1.keeps I.bk) ((h2 x hn).trans hv) h) hd
def zp5 {x:Str} {v:V} {u:Value} {pos:Pos} (hg:Gl X x) (hm:X.mg x=some u) (r:zaw v u) (hd:yyD x:=by decide):PE X (.Name x pos) (tC v) :=
 fun _ _ _ H _ I h=>zcm I hg hm ⟨v,H,I,r,h⟩ hd
def zqa {x:Str} {v:V} {u:Value} {pos:Pos} (hg:Gl X x) (hm:X.mg x=none) (hv:bootBuiltins x=some u) (r:zaw v u) (hn:x≠"__name__":=by decide) (hd:yyD x:=by decide):PE X (.Name x pos) (tC v) :=
 fun _ _ _ H _ I h=>zdr I hg hm hv ⟨v,H,I,r,h⟩ hn hd
variable {a b:Expr} {ta tb:TE} {pos:Pos}
def tB (t:TE):TT:=fun σ H Q=>t σ H fun x H1=>∃ c,x=.bl c/\Q c H1
def zsb {e:Expr} {t:TE} (h:PE X e t) (he:∀ whole,isTrue e X.env whole=(do let v <- whole; standAt e.pos; holding [v] (truthy v)):=by intro _; rfl):PT X e (tB t):=by
 intro pins s σ H Q I hw
 refine isTrue_plain (thn (h pins s σ H _ I hw) fun v s1 ⟨x,H1,I1,r1,q1⟩=>?_) (he _)
 obtain ⟨d,rfl,q⟩:=q1; cases r1; exact wpAny_truthy_bool ⟨H1,I1,q⟩
variable {tA tB':TT} {zbq:List Expr}
def zwh (t u:TT):TT:=fun σ H Q=>t σ H fun c H1=>if c=true then u σ H1 Q else Q false H1
def tOr (t u:TT):TT:=fun σ H Q=>t σ H fun c H1=>if c=true then Q true H1 else u σ H1 Q
def zwb (t:TT):TT:=fun σ H Q=>t σ H fun c H1=>Q (!c) H1
def zpG (ha:PT X a tA):PW X (.BoolOp .And [a] pos) tA:=by
 intro wh pins s σ H Q I h
 refine isTrue_and (thn (ha pins s σ H Q I h) fun c s1 e=>?_)
 cases c with
 | true=>exact isTrue_and_nil e
 | false=>exact e
def zr8 (ha:PT X a tA):PW X (.BoolOp .Or [a] pos) tA:=by
 intro wh pins s σ H Q I h
 refine isTrue_or (thn (ha pins s σ H Q I h) fun c s1 e=>?_)
 cases c with
 | false=>exact isTrue_or_nil e
 | true=>exact e
def zr9 (ha:PT X a tA) (hb:PW X (.BoolOp .And (b :: zbq) pos) tB'):PW X (.BoolOp .And (a :: b :: zbq) pos) (zwh tA tB'):=by
 intro wh pins s σ H Q I h
 refine isTrue_and (thn (ha pins s σ H _ I h) fun c s1 ⟨H1,I1,q1⟩=>?_)
 cases c with
 | true=>exact hb wh pins s1 σ H1 Q I1 q1
 | false=>exact ⟨H1,I1,q1⟩
def zuS (ha:PT X a tA) (hb:PW X (.BoolOp .Or (b :: zbq) pos) tB'):PW X (.BoolOp .Or (a :: b :: zbq) pos) (tOr tA tB'):=by
 intro wh pins s σ H Q I h
 refine isTrue_or (thn (ha pins s σ H _ I h) fun c s1 ⟨H1,I1,q1⟩=>?_)
 cases c with
 | true=>exact ⟨H1,I1,q1⟩
 | false=>exact hb wh pins s1 σ H1 Q I1 q1
def zsc (ha:PT X a tA):PT X (.UnaryOp .Not a pos) (zwb tA):=by
 intro pins s σ H Q I h
 exact isTrue_not (ha pins s σ H (fun c H1=>Q (!c) H1) I h)
def zuz (ta tb:TE):TE:=fun σ H Q=>ta σ H fun x H1=>∃ c,x=.bl c/\if c=true then tb σ H1 Q else Q (.bl false) H1
def zsm {op} {t:TE} (h:PE X a t):PE X (.BoolOp op [a] pos) t:=fun pins s σ H Q I hw=>BoolOp_one (h pins s σ H Q I hw)
def zsw (ha:PE X a ta) (hb:PE X (.BoolOp .And (b :: zbq) pos) tb):PE X (.BoolOp .And (a :: b :: zbq) pos) (zuz ta tb):=by
 intro pins s σ H Q I h
 refine BoolOp_and (thn (ha pins s σ H _ I h) fun v s1 ⟨x,H1,I1,r1,q1⟩=>?_)
 obtain ⟨c,rfl,q1⟩:=q1; cases r1; refine wpAny_truthy_bool ?_
 cases c with
 | true=>exact hb pins s1 σ H1 Q I1 q1
 | false=>exact ⟨.bl false,H1,I1,rfl,q1⟩
def tIf (t:TT) (ta tb:TE):TE:=fun σ H Q=>t σ H fun c H1=>if c=true then ta σ H1 Q else tb σ H1 Q
def zno {c:Expr} (hc:PT X c tA) (ha:PE X a ta) (hb:PE X b tb):PE X (.IfExp c a b pos) (tIf tA ta tb):=by
 intro pins s σ H Q I h
 refine wpAny_IfExp (thn (hc pins s σ H _ I h) fun d s1 ⟨H1,I1,q1⟩=>?_)
 cases d with
 | true=>exact ha pins s1 σ H1 Q I1 q1
 | false=>exact hb pins s1 σ H1 Q I1 q1
end
def SqL (K:W.Frag) (H:Hp) (a:Addr) (xs:List V):Prop :=
 Rd H a (.lst xs) \/
  ∃ (o:Obj) (its:Array Value) (n:Nat),K.lookup a=some o/\o.cls=.type "list"/\o.dict=none/\o.data=.seq its n/\its.size<=sizeLine/\zah xs its.toList
def SqT (K:W.Frag) (H:Hp) (a:Addr) (xs:List V):Prop :=
 Rd H a (.tup xs) \/
  ∃ (o:Obj) (its:Array Value) (n:Nat),K.lookup a=some o/\o.cls=.type "tuple"/\o.data=.seq its n/\its.size<=sizeLine/\zah xs its.toList
def zwC:Value->Option V
 | .none=>some .non
 | .bool b=>some (.bl b)
 | .int i _=>some (.int i)
 | .str x _=>some (.str x)
 | .bytes b _=>some (.byt b)
 | .float b _=>some (.flt b)
 | .ref a=>some (.ref a)
 | .type n=>some (.ty n)
 | _=>none
def zaw.abs {x:V} {u:Value} (r:zaw x u):zwC u=some x:=by
 cases x with
 | non=>cases r; rfl
 | bl _=>cases r; rfl
 | int _=>obtain ⟨t,rfl⟩:=r; rfl
 | str _=>obtain ⟨t,rfl⟩:=r; rfl
 | byt _=>obtain ⟨t,rfl⟩:=r; rfl
 | flt _=>obtain ⟨t,rfl⟩:=r; rfl
 | ref _=>cases r; rfl
 | ty _=>cases r; rfl
def zaw.inj {x y:V} {u:Value} (r:zaw x u) (q:zaw y u):x=y:=Option.some.inj (r.abs.symm.trans q.abs)
theorem zah.inj:∀ {xs ys:List V} {us:List Value},zah xs us->zah ys us->xs=ys
 | _,_,_,.nil,.nil=>rfl
 | _,_,_,.cons r t,.cons r' t'=>by rw [r.inj r',zah.inj t t']
section
variable {X:Cx} {pins:yyL} {σ:St} {H:Hp} {s:Shared} {a:Addr} {xs ys:List V}
def SqL.of {K:W.Frag} (h:H a=some (.lst xs)):SqL K H a xs:=.inl (.inl h)
def SqT.of {K:W.Frag} (h:H a=some (.tup xs)):SqT K H a xs:=.inl (.inl h)
def Inv.list (I:Inv X pins σ H s) (h:SqL X.K H a xs):∃ its:List Value,zah xs its/\PlainL s.heap a its.toArray/\xs.length<=sizeLine:=by
 rcases h with h | ⟨o,its,n,hk,hc,hd,hs,hz,r⟩
 ·obtain ⟨z,its,n,r,e⟩:=h.ok I.hok
  exact ⟨its,r,⟨_,n,e,rfl,rfl,rfl⟩,z⟩
 ·refine ⟨its.toList,r,⟨o,n,I.kIn a o hk,hc,hd,by simpa using hs⟩,?_⟩
  have e:=r.length; simp only [YC] at e; omega
def Inv.tuple (I:Inv X pins σ H s) (h:SqT X.K H a xs):∃ its:List Value,zah xs its/\IsTup s.heap a its.toArray/\xs.length<=sizeLine:=by
 rcases h with h | ⟨o,its,n,hk,hc,hs,hz,r⟩
 ·obtain ⟨z,its,r,p⟩:=h.ok I.hok
  exact ⟨its,r,p,z⟩
 ·refine ⟨its.toList,r,⟨o,I.kIn a o hk,hc,n,by simpa using hs⟩,?_⟩
  have e:=r.length; simp only [YC] at e; omega
def Inv.list_inj (I:Inv X pins σ H s) (h:SqL X.K H a xs) (h':SqL X.K H a ys):xs=ys:=by
 obtain ⟨its,r,⟨o,n,e,_,_,d⟩,_⟩:=I.list h
 obtain ⟨its',r',⟨o',n',e',_,_,d'⟩,_⟩:=I.list h'
 rw [e] at e'; cases e'
 rw [d] at d'
 injection d' with d1 _
 have:its=its':=by simpa using yi Array.toList d1
 subst this; exact r.inj r'
def Inv.tuple_inj (I:Inv X pins σ H s) (h:SqT X.K H a xs) (h':SqT X.K H a ys):xs=ys:=by
 obtain ⟨its,r,⟨o,e,_,n,d⟩,_⟩:=I.tuple h
 obtain ⟨its',r',⟨o',e',_,n',d'⟩,_⟩:=I.tuple h'
 rw [e] at e'; cases e'
 rw [d] at d'
 injection d' with d1 _
 have:its=its':=by simpa using yi Array.toList d1
 subst this; exact r.inj r'
end
abbrev Cx.wish (X:Cx) (E:Value->Shared->Prop):Cx:={ X with xe:=E }
abbrev Cx.nox (X:Cx):Cx:=X.wish fun _ _=>False
def Cx.Ok.wish {X:Cx} (ok:X.Ok) (E:Value->Shared->Prop):(X.wish E).Ok :=
 ⟨ok.mod,ok.kind,ok.glob,ok.blt,ok.above,ok.inj,ok.has,ok.cab,ok.hd,ok.frames,ok.stk,ok.exf,ok.bs,ok.bsz,ok.noex,ok.exfs,ok.funs,ok.frf,ok.tab⟩
def Cx.Ok.unwish {X:Cx} {E:Value->Shared->Prop} (ok:(X.wish E).Ok):X.Ok :=
 ⟨ok.mod,ok.kind,ok.glob,ok.blt,ok.above,ok.inj,ok.has,ok.cab,ok.hd,ok.frames,ok.stk,ok.exf,ok.bs,ok.bsz,ok.noex,ok.exfs,ok.funs,ok.frf,ok.tab⟩
section
variable {X:Cx} {pins:yyL} {σ:St} {H:Hp} {s:Shared} {E:Value->Shared->Prop}
def Inv.wish (I:Inv X pins σ H s) (E:Value->Shared->Prop):Inv (X.wish E) pins σ H s:=⟨I.ok.wish E,I.os,I.bare,I.base,I.loc,I.cell,I.free,I.freeC,I.pin,I.hok,I.len⟩
def Inv.unwish (I:Inv (X.wish E) pins σ H s):Inv X pins σ H s:=⟨I.ok.unwish,I.os,I.bare,I.base,I.loc,I.cell,I.free,I.freeC,I.pin,I.hok,I.len⟩
def SP.unwish {D:Ends} {f:Flow} {s':Shared} (h:SP (X.wish E) pins D f s'):SP X pins D f s':=by
 cases f with
 | next=>obtain ⟨σ',H',I,q⟩:=h; exact ⟨σ',H',I.unwish,q⟩
 | brk=>obtain ⟨σ',H',I,q⟩:=h; exact ⟨σ',H',I.unwish,q⟩
 | cont=>obtain ⟨σ',H',I,q⟩:=h; exact ⟨σ',H',I.unwish,q⟩
 | ret u=>obtain ⟨v,σ',H',I,r,q⟩:=h; exact ⟨v,σ',H',I.unwish,r,q⟩
def PE.nox {e:Expr} {t:TE} (h:PE X.nox e t):PE X e t:=fun pins s σ H Q I hw =>
 yp (h pins s σ H Q (I.wish _) hw) (fun _ _ ⟨v,H',I',r,q⟩=>⟨v,H',I'.unwish,r,q⟩) fun _ _ z=>False.elim z
def PSs.nox {st:List Stmt} {t:TS} (h:PSs X.nox st t):PSs X st t:=fun pins s σ H D I hw =>
 yp (h pins s σ H D (I.wish _) hw) (fun _ _ q=>q.unwish) fun _ _ z=>False.elim z
end
section
variable {X:Cx} {st:Stmt} {zbq:List Stmt} {t u:TS} {e:Expr} {te:TE} {pos:Pos}
def zut:TS:=fun D σ H=>D.nx σ H
def zv9 (t u:TS):TS:=fun D σ H=>t { D with nx:=u D } σ H
def zpM:PSs X [] zut:=fun _ _ σ H _ I h=>JE ⟨σ,H,I,h⟩
def ziI (h1:PS X st t) (h2:PSs X zbq u):PSs X (st :: zbq) (zv9 t u):=by
 intro pins s σ H D I h
 refine wpAny_execs_cons (thn (h1 pins s σ H { D with nx:=u D } I h) fun f s1 q=>?_)
 cases f with
 | next =>
  obtain ⟨σ',H',I',q⟩:=q; exact h2 pins s1 σ' H' D I' q
 | ret v=>exact q
 | brk=>exact q
 | cont=>exact q
def zkZ (h1:PS X st t):PSs X [st] t:=by
 intro pins s σ H D I h
 refine wpAny_execs_cons (thn (h1 pins s σ H D I h) fun f s1 q=>?_)
 cases f with
 | next=>exact JE q
 | ret v=>exact q
 | brk=>exact q
 | cont=>exact q
def Inv.quiet {pins:yyL} {σ:St} {H:Hp} {s:Shared} (I:Inv X pins σ H s):interactive X.env=false:=by simp [interactive,I.ok.kind]
def zux (te:TE):TS:=fun D σ H=>te σ H fun _ H1=>D.nx σ H1
def zhO (he:PE X e te) (hs:swapsWith e none pos.line X.env=pure false:=by rfl):PS X (.Expr e pos) (zux te):=by
 intro pins s σ H D I h
 exact wpAny_Expr_any (thn (he pins s σ H _ I h) fun v s1 ⟨x,H1,I1,r1,q1⟩=>⟨σ,H1,I1,q1⟩) I.quiet hs
def zwa (te:TE):TS:=fun D σ H=>te σ H D.rt
def zk1 (he:PE X e te):PS X (.Return (some e) pos) (zwa te):=by
 intro pins s σ H D I h
 exact wpAny_Return_some (thn (he pins s σ H _ I h) fun v s1 ⟨x,H1,I1,r1,q1⟩=>⟨x,σ,H1,I1,r1,q1⟩)
def zwe (c:TT) (t u:TS):TS:=fun D σ H=>c σ H fun b H1=>if b=true then t D σ H1 else u D σ H1
def zuU {c:Expr} {a b:List Stmt} {tc:TT} (hc:PT X c tc) (ha:PSs X a t) (hb:PSs X b u):PS X (.If c a b pos) (zwe tc t u):=by
 intro pins s σ H D I h
 refine wpAny_If (thn (hc pins s σ H _ I h) fun d s1 ⟨H1,I1,q1⟩=>?_)
 cases d with
 | true=>exact ha pins s1 σ H1 D I1 q1
 | false=>exact hb pins s1 σ H1 D I1 q1
end
abbrev TG:=V->St->Hp->(St->Hp->Prop)->Prop
abbrev TGs:=List V->St->Hp->(St->Hp->Prop)->Prop
def PG (X:Cx) (target:Expr) (t:TG):Prop :=
 ∀ (pins:yyL) (s:Shared) (σ:St) (H:Hp) (v:V) (u:Value) (Q:St->Hp->Prop),Inv X pins σ H s->zaw v u->t v σ H Q ->
  wpAny (model X.prog X.w) X.A (assign target X.env u) (fun _ s'=>∃ σ' H',Inv X pins σ' H' s'/\Q σ' H') X.xe s
def PGs (X:Cx) (ts:List Expr) (t:TGs):Prop :=
 ∀ (pins:yyL) (s:Shared) (σ:St) (H:Hp) (vs:List V) (us:List Value) (Q:St->Hp->Prop),Inv X pins σ H s->zah vs us->t vs σ H Q ->
  wpAny (model X.prog X.w) X.A (assignInOrder ((assignEach ts X.env).map (·.2)) us) (fun _ s'=>∃ σ' H',Inv X pins σ' H' s'/\Q σ' H') X.xe s
section
variable {X:Cx} {pos:Pos}
def zs8 (i:Nat):TG:=fun v σ H Q=>Q (σ.set i (some v)) H
def zp2 {i:Nat} {x:Str} (hN:X.N.Nodup) (hi:X.N[i]?=some x) (hx:Loc X.env.scope x) (hf:X.fn x=true\/X.env.scope.names.lookup x=some .local:=by first | exact .inl rfl | exact .inr rfl | assumption):PG X (.Name x pos) (zs8 i):=by
 intro pins s σ H v u Q I r h
 exact wpAny_assign_Name (zdi I hN hi hx r (fun s' I'=>⟨_,H,I',h⟩) hf)
def zww:TGs:=fun vs σ H Q=>vs=[]/\Q σ H
def zvj (t:TG) (u:TGs):TGs:=fun vs σ H Q=>∃ v r,vs=v :: r/\t v σ H fun σ' H'=>u r σ' H' Q
def zp0:PGs X [] zww:=by
 intro pins s σ H vs us Q I r h; obtain ⟨e,h⟩:=h; subst e; cases r; exact assignInOrder_nil ⟨σ,H,I,h⟩
def znl {e:Expr} {es:List Expr} {t:TG} {u:TGs} (h1:PG X e t) (h2:PGs X es u)
  (hs:(assignEach (e :: es) X.env).map (·.2)=assign e X.env :: (assignEach es X.env).map (·.2):=by rfl):PGs X (e :: es) (zvj t u):=by
 intro pins s σ H vs us Q I r h; obtain ⟨v,vr,e1,h⟩:=h; subst e1
 cases r with
 | cons r rr =>
  rw [hs]
  refine assignInOrder_cons (thn (h1 pins s σ H _ _ _ I r h) fun _ s1 ⟨σ1,H1,I1,q1⟩=>?_)
  exact h2 pins s1 σ1 H1 _ _ Q I1 rr q1
def zwv (K:W.Frag) (n:Nat) (t:TGs):TG:=fun v σ H Q=>∃ a xs,v=.ref a/\SqT K H a xs/\xs.length=n/\t xs σ H Q
def zsi {es:List Expr} {k:Nat} {t:TGs} {n:Nat} (hc:X.calm=true) (h:PGs X es t)
  (hn:(assignEach es X.env).length=n:=by rfl) (hst:(assignEach es X.env).findIdx? (·.1)=none:=by rfl):PG X (.Tuple es k pos) (zwv X.K n t):=by
 intro pins s σ H v u Q I r hw; obtain ⟨a,xs,e1,hq,hl,hw⟩:=hw; subst e1; cases r; obtain ⟨its,rv,ht,hz⟩:=I.tuple hq
 refine assign_Tuple_tuple (I.ok.hd hc) ht (by simp [hn,<- hl,rv.length]) hst fun h' hx=>?_
 have I1:Inv X pins σ H { s with heap:=h' }:=I.kept (t':=s.toks) fun b o e=>hx b o (yU (yI e)) e
 exact h pins _ σ H xs _ Q I1 (by simpa using rv) hw
def zwg (te:TE) (g:TG):TS:=fun D σ H=>te σ H fun x H1=>g x σ H1 D.nx
def zoz {i:Nat} {x:Str} {e:Expr} {te:TE} {pos':Pos} (hN:X.N.Nodup) (hi:X.N[i]?=some x) (hx:Loc X.env.scope x) (he:PE X e te) (hs:swapsWith e (some (.Name x pos')) pos.line X.env=pure false:=by rfl) (hf:X.fn x=true\/X.env.scope.names.lookup x=some .local:=by first | exact .inl rfl | exact .inr rfl | assumption) :
  PS X (.Assign [.Name x pos'] e pos) (zwg te (zs8 i)):=by
 intro pins s σ H D I h
 refine wpAny_Assign_Name (thn (he pins s σ H _ I h) fun v s1 ⟨y,H1,I1,r1,q1⟩=>?_) hs
 exact zdi I1 hN hi hx r1 (fun s2 I2=>⟨_,H1,I2,q1⟩) hf
def zrA (c:TT) (tb:TS):TS:=fun D σ H=>∃ W:Nat->St->Hp->Prop,(∃ m,W m σ H)/\∀ m σ H,W m σ H ->
 c σ H fun b H1=>if b=true then ∃ N:St->Hp->Prop,(∀ σ' H',N σ' H'->∃ m',m'<m/\W m' σ' H')/\tb { D with nx:=N,ct:=N,bk:=D.nx } σ H1 else D.nx σ H1
def zm9 {c:Expr} {body:List Stmt} {tc:TT} {tb:TS} (hp:PassesOwn (model X.prog X.w) X.A X.env X.xe) (hc:PT X c tc) (hb:PSs X body tb):PS X (.While c body [] pos) (zrA tc tb):=by
 intro pins s σ H D I h
 obtain ⟨W,⟨m0,w0⟩,turn⟩:=h
 refine wpAny_While (codeAny_whileLoop (fun n s'=>∃ σ' H',Inv X pins σ' H' s'/\W n σ' H') ?_ m0 ⟨σ,H,I,w0⟩)
 rintro n s1 ⟨σ1,H1,I1,w1⟩
 refine JD hp (thn (hc pins s1 σ1 H1 _ I1 (turn n σ1 H1 w1)) fun b s2 ⟨H2,I2,q2⟩=>?_)
 cases b with
 | true =>
  obtain ⟨N,hN,q2⟩:=q2; rw [yM rfl]
  refine JD hp (thn (hb pins s2 σ1 H2 _ I2 q2) fun f s3 q3=>?_)
  cases f with
  | next =>
   obtain ⟨σ3,H3,I3,n3⟩:=q3; obtain ⟨m',hm,w3⟩:=hN σ3 H3 n3; exact ⟨m',hm,σ3,H3,I3,w3⟩
  | cont =>
   obtain ⟨σ3,H3,I3,n3⟩:=q3; obtain ⟨m',hm,w3⟩:=hN σ3 H3 n3; exact ⟨m',hm,σ3,H3,I3,w3⟩
  | brk=>exact q3
  | ret v=>exact q3
 | false =>
  rw [yK yO]; exact JE ⟨σ1,H2,I2,q2⟩
end
structure It where
 go:Nat->Hp->Prop
 yld:Nat->Hp->V->Hp->Prop
 stop:Nat->Hp->Prop
def zd4 (X:Cx) (pins:yyL) (H:Hp) (b:Addr):Prop :=
 H b=none/\b≠X.env.locals/\b ∉ X.fs/\(b ∈ X.ex\/X.s₀.heap.objs.size<=b)/\(∀ x c,X.env.cells.lookup x=some c->c≠b)/\∀ p ∈ X.pn ++ pins,p.1≠b
def Inv.fpOk {X:Cx} {pins:yyL} {σ:St} {H H':Hp} {s:Shared} {b:Addr} (I:Inv X pins σ H s) (hb:s.heap.objs.size<=b) (hn:H' b=none):zd4 X pins H' b:=by
 refine ⟨hn,Nat.ne_of_gt (yT I.lt hb),I.nofs hb,.inr (yq I.sz hb),fun x c e z=>?_,fun p hp z=>?_⟩
 ·obtain ⟨v,q⟩:=I.cell x c e
  exact yN (yT q.lt (by rw [z]; exact hb)) (YX _)
 ·exact yN (yT (yI (I.pin p hp).1) (by rw [z]; exact hb)) (YX _)
structure Turn (P:Program) (w:World) (K:W.Frag) (tg:Expr) (J:It) (fp:List Addr) (it:Addr) (tn:Nat->Heap->Prop):Prop where
 mem:it ∈ fp
 obj:∀ i h,tn i h->∀ b ∈ fp,∃ o,h.get? b=some o/\∀ v,o.data≠.cell v
 keep:∀ i h h',tn i h->(∀ b ∈ fp,∀ o,h.get? b=some o->h'.get? b=some o)->tn i h'
 item:∀ (X:Cx),X.prog=P->X.w=w->X.K=K->X.calm=true->∀ (i:Nat) (pins:yyL) (s:Shared) (σ:St) (H:Hp) (E:Value->Shared->Prop),Inv X pins σ H s->(∀ b ∈ fp,zd4 X pins H b)->tn i s.heap->J.go i H ->
  wpAny (model P w) X.A (pyNext (.ref it)) (fun r s1=>∃ u,r=some u /\
   wpAny (model P w) X.A (letOwnedTupleGo tg (.ref it) u) (fun _ s2=>∃ x H',Inv X pins σ H' s2/\zaw x u/\J.yld i H x H'/\tn (i+1) s2.heap/\∀ b ∈ fp,H' b=none) E s1) E s
 done:∀ (X:Cx),X.prog=P->X.w=w->X.K=K->X.calm=true->∀ (i:Nat) (pins:yyL) (s:Shared) (σ:St) (H:Hp) (E:Value->Shared->Prop),Inv X pins σ H s->(∀ b ∈ fp,zd4 X pins H b)->tn i s.heap->J.stop i H ->
  wpAny (model P w) X.A (pyNext (.ref it)) (fun r s1=>r=none/\Inv X pins σ H s1) E s
 self:∀ (A:Around) (i:Nat) (s:Shared) (Q:Value->Shared->Prop) (E:Value->Shared->Prop),tn i s.heap->Q (.ref it) s->wpAny (model P w) A (pyIter (.ref it)) Q E s
abbrev TI:=St->Hp->(It->Hp->Prop)->Prop
def PIE (X:Cx) (pins:yyL) (σ:St) (tg:Expr) (R:It->Hp->Prop) (itv:Value) (s2:Shared):Prop :=
 ∃ (it:Addr) (fp:List Addr) (tn:Nat->Heap->Prop) (J:It) (H':Hp),itv=.ref it/\Inv X pins σ H' s2/\Turn X.prog X.w X.K tg J fp it tn/\tn 0 s2.heap/\(∀ b ∈ fp,zd4 X pins H' b)/\R J H'
def PI (X:Cx) (tg iter:Expr) (wi:TI):Prop :=
 ∀ (pins:yyL) (s:Shared) (σ:St) (H:Hp) (R:It->Hp->Prop),Inv X pins σ H s->wi σ H R ->
  wpAny (model X.prog X.w) X.A (eval iter X.env) (fun v s1=>wpAny (model X.prog X.w) X.A (pyIter v) (PIE X pins σ tg R) X.xe s1) X.xe s
def zj3 {M:Model} {A:Around} {E:Value->Shared->Prop} {s:Shared} {tg:Expr} {it:Addr} {u:Value} {o:Obj} {n:String} {vs:Array Value} {Q:Unit->Shared->Prop} (ho:s.heap.get? it=some o) (hc:o.cls=.type n) (hd:o.data=.fields vs)
    (hn:["enumerate","zip","dict_itemiterator","dict_reverseitemiterator","odict_iterator","itertools.zip_longest","itertools.pairwise"].contains n=false) (hQ:Q () s):wpAny M A (letOwnedTupleGo tg (.ref it) u) Q E s:=by
  unfold letOwnedTupleGo
  cases tg <;> first
    | exact yF hQ
    | (cases u <;> first
        | exact yF hQ
        | (refine yA (wpAny_load ho ?_)
           rw [hc,hd]
           show wpAny M A (if (["enumerate","zip","dict_itemiterator","dict_reverseitemiterator","odict_iterator","itertools.zip_longest","itertools.pairwise"].contains n && vs[0]? == some (rawInt _))=true then _ else _) Q E s
           rw [yK (by intro h; rw [hn,Bool.false_and] at h; cases h)]
           exact yF hQ))
def Itl (K:W.Frag) (a:Addr):It :=
 ⟨fun i H=>∃ xs x,SqL K H a xs/\xs[i]?=some x,fun i H x H'=>H'=H/\∀ xs,SqL K H a xs->xs[i]?=some x,fun i H=>∃ xs,SqL K H a xs/\xs.length<=i⟩
def Itt (K:W.Frag) (a:Addr):It :=
 ⟨fun i H=>∃ xs x,SqT K H a xs/\xs[i]?=some x,fun i H x H'=>H'=H/\∀ xs,SqT K H a xs->xs[i]?=some x,fun i H=>∃ xs,SqT K H a xs/\xs.length<=i⟩
def Itr (lo:Int) (n:Nat):It:=⟨fun i _=>i<n,fun i H x H'=>H'=H/\x=.int (lo+i),fun i _=>n<=i⟩
def zkx {P:Program} {w:World} {K:W.Frag} {tg:Expr} (a it:Addr):Turn P w K tg (Itl K a) [it] it (fun i h=>h.IsListIter it a i) where
 mem:=by simp
 obj:=fun i h st b hb=>by
  have e:b=it:=by simpa using hb
  subst e; obtain ⟨o,e,c,d⟩:=st
  exact ⟨o,e,fun v z=>by rw [d] at z; cases z⟩
 keep:=fun i h h' st k=>st.at fun o e=>k it (by simp) o e
 item:=by
  intro X hP hw hK hc i pins s σ H E I hf st hg
  subst hP hw hK
  obtain ⟨xs,x,hq,hx⟩:=hg; obtain ⟨its,rv,p,hz⟩:=I.list hq; obtain ⟨u,hu,ru⟩:=rv.get hx
  obtain ⟨f0,f1,f2,f3,f4,f5⟩:=hf it (by simp)
  refine wpAny_pyNext_list_item st p.isList (x:=u) (by simpa using hu) fun h' st' sb=>?_
  have I1:Inv X pins σ H { s with heap:=h' }:=I.turned (t':=s.toks) (fun b o hb e=>(sb.2 b hb).trans e) f0 f1 f3 f4 f5
  obtain ⟨o,e,c,d⟩:=id st'
  exact ⟨u,rfl,zj3 (s:={ s with heap:=h' }) e c d (by decide) ⟨x,H,I1,ru,⟨rfl,fun ys hy=>by rw [I.list_inj hy hq]; exact hx⟩,st',fun b hb=>(hf b hb).1⟩⟩
 done:=by
  intro X hP hw hK hc i pins s σ H E I hf st hg
  subst hP hw hK
  obtain ⟨xs,hq,hx⟩:=hg; obtain ⟨its,rv,p,hz⟩:=I.list hq
  obtain ⟨f0,f1,f2,f3,f4,f5⟩:=hf it (by simp)
  have hl:=rv.length
  exact wpAny_pyNext_list_end (I.ok.hd hc) st p.isList (by simp; omega) fun h' eb=>⟨rfl,I.turned (t':=s.toks) (fun b o hb e=>eb b o hb e) f0 f1 f3 f4 f5⟩
 self:=fun _ _ _ _ _ st h=>wpAny_pyIter_listiter st h
def zjv {P:Program} {w:World} {K:W.Frag} {tg:Expr} (a it:Addr):Turn P w K tg (Itt K a) [it] it (fun i h=>h.IsTupleIter it a i) where
 mem:=by simp
 obj:=fun i h st b hb=>by
  have e:b=it:=by simpa using hb
  subst e; obtain ⟨o,e,c,d⟩:=st
  exact ⟨o,e,fun v z=>by rw [d] at z; cases z⟩
 keep:=fun i h h' st k=>st.at fun o e=>k it (by simp) o e
 item:=by
  intro X hP hw hK hc i pins s σ H E I hf st hg
  subst hP hw hK
  obtain ⟨xs,x,hq,hx⟩:=hg; obtain ⟨its,rv,p,hz⟩:=I.tuple hq; obtain ⟨u,hu,ru⟩:=rv.get hx
  obtain ⟨f0,f1,f2,f3,f4,f5⟩:=hf it (by simp)
  refine wpAny_pyNext_tuple_item st (show s.heap.IsTuple a its.toArray from p) (x:=u) (by simpa using hu) fun h' st' sb=>?_
  have I1:Inv X pins σ H { s with heap:=h' }:=I.turned (t':=s.toks) (fun b o hb e=>(sb.2 b hb).trans e) f0 f1 f3 f4 f5
  obtain ⟨o,e,c,d⟩:=id st'
  exact ⟨u,rfl,zj3 (s:={ s with heap:=h' }) e c d (by decide) ⟨x,H,I1,ru,⟨rfl,fun ys hy=>by rw [I.tuple_inj hy hq]; exact hx⟩,st',fun b hb=>(hf b hb).1⟩⟩
 done:=by
  intro X hP hw hK hc i pins s σ H E I hf st hg
  subst hP hw hK
  obtain ⟨xs,hq,hx⟩:=hg; obtain ⟨its,rv,p,hz⟩:=I.tuple hq
  obtain ⟨f0,f1,f2,f3,f4,f5⟩:=hf it (by simp)
  have hl:=rv.length
  exact wpAny_pyNext_tuple_end (I.ok.hd hc) st (show s.heap.IsTuple a its.toArray from p) (by simp; omega) fun h' eb=>⟨rfl,I.turned (t':=s.toks) (fun b o hb e=>eb b o hb e) f0 f1 f3 f4 f5⟩
 self:=fun _ _ _ _ _ st h=>wpAny_pyIter_tupleiter st h
def zjw {P:Program} {w:World} {K:W.Frag} {tg:Expr} (it:Addr) (lo:Int) (n:Nat):Turn P w K tg (Itr lo n) [it] it (fun i h=>IsRangeIter h it (lo+(i:Nat) * 1) ((n:Int)-(i:Nat)) 1) where
 mem:=by simp
 obj:=fun i h st b hb=>by
  have e:b=it:=by simpa using hb
  subst e
  exact ⟨_,st,fun v z=>by
   have z':Data.fields _=Data.cell v:=z
   cases z'⟩
 keep:=fun i h h' st k=>k it (by simp) _ st
 item:=by
  intro X hP hw hK hc i pins s σ H E I hf st hg
  subst hP hw hK
  obtain ⟨f0,f1,f2,f3,f4,f5⟩:=hf it (by simp)
  have W:=Walks.range (prog:=X.prog) (w:=X.w) (I.ok.hd hc) it lo 1 n
  refine W.item i s _ _ hg st fun v h' tk hv st' kk=>?_
  obtain ⟨t,rfl⟩:=hv
  have I1:Inv X pins σ H { s with heap:=h',toks:=tk }:=I.turned (fun b o hb e=>kk b o (by simpa using hb) e) f0 f1 f3 f4 f5
  refine ⟨_,rfl,zj3 (s:={ s with heap:=h',toks:=tk }) (n:="range_iterator") st' rfl rfl (by decide) ⟨.int (lo+i),H,I1,⟨t,?_⟩,⟨rfl,rfl⟩,st',fun b hb=>(hf b hb).1⟩⟩
  rw [Int.mul_one]
 done:=by
  intro X hP hw hK hc i pins s σ H E I hf st hg
  subst hP hw hK
  obtain ⟨f0,f1,f2,f3,f4,f5⟩:=hf it (by simp)
  exact wpAny_pyNext_range_end (I.ok.hd hc) st (by have:n<=i:=hg; omega) fun h' eb=>⟨rfl,I.turned (t':=s.toks) (fun b o hb e=>eb b o hb e) f0 f1 f3 f4 f5⟩
 self:=fun _ _ _ _ _ st h=>wpAny_pyIter_rangeiter st h
section
variable {X:Cx} {tg:Expr}
def ziF {pins:yyL} {σ:St} {H:Hp} {s:Shared} {R:It->Hp->Prop} {E:Value->Shared->Prop} {lo hi:Int} {t u v:Tok} {tk:Nat} (I:Inv X pins σ H s) (h1:-(2 ^ 62)<=lo) (h2:lo<2 ^ 62) (h3:-(2 ^ 62)<=hi) (h4:hi<2 ^ 62)
  (q:R (Itr lo (hi-lo).toNat) H):wpAny (model X.prog X.w) X.A (pyIter (.ref s.heap.objs.size)) (PIE X pins σ tg R) E { s with heap:=s.heap.push { cls:=.type "range",data:=.fields #[.int lo t,.int hi u,.int 1 v] },toks:=tk }:=by
 refine wpAny_pyIter_range (IsRange.new ..) (small_one h1 h2 h3 h4) ?_
 have I1:Inv X pins σ H { s with heap:=s.heap.push { cls:=.type "range",data:=.fields #[.int lo t,.int hi u,.int 1 v] },toks:=tk }:=I.kept fun b o e=>yB _ e
 refine ⟨(s.heap.push { cls:=.type "range",data:=.fields #[.int lo t,.int hi u,.int 1 v] }).objs.size,[(s.heap.push { cls:=.type "range",data:=.fields #[.int lo t,.int hi u,.int 1 v] }).objs.size],_,_,H,rfl,
  I1.kept (t':=tk) fun b o e=>yB _ e,zjw _ lo (hi-lo).toNat,?_,fun b hb=>?_,q⟩
 ·have e1:lo+((0:Nat):Int) * 1=lo:=by simp
  have e2:(((hi-lo).toNat:Nat):Int)-((0:Nat):Int)=Builtin.Range.rangeSize lo hi 1:=by rw [rangeSize_one]; split <;> omega
  show IsRangeIter _ _ (lo+((0:Nat):Int) * 1) ((((hi-lo).toNat:Nat):Int)-((0:Nat):Int)) 1
  rw [e1,e2]; exact yJ _ rfl
 ·have e:b=(s.heap.push { cls:=.type "range",data:=.fields #[.int lo t,.int hi u,.int 1 v] }).objs.size:=by simpa using hb
  subst e; exact I1.fpOk (yD _) (I1.hok.fresh (yD _))
def zvh (ta:TA):TI:=fun σ H R=>ta σ H fun vs H1=>∃ j:Int,vs=[.int j]/\-(2 ^ 62)<=j/\j<2 ^ 62/\R (Itr 0 j.toNat) H1
def zvg (ta:TA):TI:=fun σ H R=>ta σ H fun vs H1=>∃ i j:Int,vs=[.int i,.int j]/\(-(2 ^ 62)<=i/\i<2 ^ 62/\-(2 ^ 62)<=j/\j<2 ^ 62)/\R (Itr i (j-i).toNat) H1
def zla {a:Expr} {ta:TA} {p pos:Pos} (hg:Gl X "range") (hm:X.mg "range"=none) (ha:PA X [a] ta) (hs:starEach [a] X.env=[(false,eval a X.env)]:=by rfl):PI X tg (.Call (.Name "range" p) [a] [] pos) (zvh ta):=by
 intro pins s σ H R I h
 refine Call_ (zdr I hg hm boot_range (YV (thn (ha pos pins s σ H _ I h) fun us s1 ⟨vs,H1,I1,r1,q1⟩=>?_) hs rfl))
 obtain ⟨j,e,q1,q2,q⟩:=q1; subst e
 cases r1 with
 | cons r rr =>
  cases rr; obtain ⟨t,rfl⟩:=r
  exact call_range_1 (ziF I1 (by omega) (by omega) q1 q2 (by simpa using q))
def zk9 {a b:Expr} {ta:TA} {p pos:Pos} (hg:Gl X "range") (hm:X.mg "range"=none) (ha:PA X [a,b] ta) (hs:starEach [a,b] X.env=[(false,eval a X.env),(false,eval b X.env)]:=by rfl) (hs2:starEach [b] X.env=[(false,eval b X.env)]:=by rfl) :
  PI X tg (.Call (.Name "range" p) [a,b] [] pos) (zvg ta):=by
 intro pins s σ H R I h
 refine Call_ (zdr I hg hm boot_range (YV (thn (ha pos pins s σ H _ I h) fun us s1 ⟨vs,H1,I1,r1,q1⟩=>?_) (by rw [hs,hs2]) (by rw [hs2]; rfl)))
 obtain ⟨i,j,e,⟨q1,q2,q3,q4⟩,q⟩:=q1
 subst e
 cases r1 with
 | cons r rr =>
  cases rr with
  | cons r' rr =>
   cases rr; obtain ⟨t,rfl⟩:=r; obtain ⟨t',rfl⟩:=r'; exact call_range_2 (ziF I1 q1 q2 q3 q4 q)
def zwf (wi:TI) (g:TG) (tb:TS):TS:=fun D σ H=>wi σ H fun J H1=>∃ W:Nat->Nat->St->Hp->Prop,(∃ m,W 0 m σ H1)/\∀ i m σ H,W i m σ H ->
 (J.stop i H/\D.nx σ H)\/(J.go i H/\∃ N:St->Hp->Prop,(∀ σ' H',N σ' H'->∃ m',m'<m/\W (i+1) m' σ' H')/\∀ x H',J.yld i H x H'->g x σ H' fun σ2 H2=>tb { D with nx:=N,ct:=N,bk:=D.nx } σ2 H2)
def zfq (fp:List Addr) (h:Heap):yyL:=fp.filterMap fun b=>(h.get? b).map fun o=>(b,o)
def zcE {fp:List Addr} {h:Heap} {b:Addr} {o:Obj} (hb:b ∈ fp) (e:h.get? b=some o):(b,o) ∈ zfq fp h:=List.mem_filterMap.mpr ⟨b,hb,by rw [e]; rfl⟩
def zli {fp:List Addr} {h:Heap} {p:Addr × Obj} (hp:p ∈ zfq fp h):p.1 ∈ fp/\h.get? p.1=some p.2:=by
 obtain ⟨b,hb,e⟩:=List.mem_filterMap.mp hp
 cases q:h.get? b with
 | none=>rw [q] at e; cases e
 | some o =>
  rw [q] at e
  have e':(b,o)=p:=Option.some.inj e
  subst e'
  exact ⟨hb,q⟩
def Inv.pinned {pins:yyL} {σ:St} {H:Hp} {s:Shared} {fp:List Addr} (I:Inv X pins σ H s) (hf:∀ b ∈ fp,zd4 X pins H b) (ho:∀ b ∈ fp,∃ o,s.heap.get? b=some o/\∀ v,o.data≠.cell v):Inv X (pins ++ zfq fp s.heap) σ H s :=
 I.pins_of fun p hp=>(ye.mp hp).elim (fun z=>I.pin p (yc _ z)) fun z=>by
  obtain ⟨hb,e⟩:=zli z; obtain ⟨f0,f1,f2,_⟩:=hf p.1 hb; obtain ⟨o,e',d⟩:=ho p.1 hb
  rw [e] at e'; cases e'
  exact ⟨e,f0,f1,f2,d⟩
def Inv.unpinned {pins pl:yyL} {σ:St} {H:Hp} {s:Shared} (I:Inv X (pins ++ pl) σ H s):Inv X pins σ H s:=I.pins_of fun p hp=>I.pin p (yc _ (Yp _ hp))
def zsd {iter:Expr} {body:List Stmt} {wi:TI} {g:TG} {tb:TS} {pos:Pos} (hp:PassesOwn (model X.prog X.w) X.A X.env X.xe) (hc:X.calm=true) (hi:PI X tg iter wi) (hg:PG X tg g) (hb:PSs X body tb)
  (hs:∀ x,foldedSetIterable iter X.env x=pure x:=by intro _; rfl):PS X (.For tg iter body [] pos) (zwf wi g tb):=by
 intro pins s σ H D I h
 refine wpAny_For (thn (hi pins s σ H _ I h) fun v s1 h1=>thn h1 fun itv s2 h2=>?_) hs
 obtain ⟨it,fp,tn,J,H2,e,I2,T,st2,f2,W,⟨m0,w0⟩,turn⟩:=h2
 subst e
 -- what stays true of the iterator's objects through the loop
 have stat:∀ {H':Hp},(∀ b ∈ fp,H' b=none)->∀ b ∈ fp,zd4 X pins H' b:=fun hn b hb=>⟨hn b hb,(f2 b hb).2⟩
 refine codeAny_forLoop_any (fun n s'=>∃ i σ' H',Inv X pins σ' H' s'/\tn i s'.heap/\(∀ b ∈ fp,H' b=none)/\W i n σ' H') ?_ m0 ⟨0,σ,H2,I2,st2,fun b hb=>(f2 b hb).1,w0⟩
 rintro n s3 ⟨i,σ3,H3,I3,st3,fr3,w3⟩
 rcases turn i n σ3 H3 w3 with ⟨stop,qn⟩ | ⟨go,N,hN,step⟩
 ·refine JD hp (thn (T.done X rfl rfl rfl hc i pins s3 σ3 H3 X.xe I3 (stat fr3) st3 stop) fun r s4 ⟨hr,I4⟩=>?_)
  subst hr; exact JE ⟨σ3,H3,I4,qn⟩
 ·refine JD hp (thn (T.item X rfl rfl rfl hc i pins s3 σ3 H3 X.xe I3 (stat fr3) st3 go) fun r s4 ⟨u,hr,h4⟩=>?_)
  subst hr
  refine JD hp (thn h4 fun _ s5 ⟨x,H5,I5,r5,y5,st5,fr5⟩=>?_)
  have I5':=I5.pinned (stat fr5) (T.obj _ _ st5)
  refine JD hp (thn (hg _ s5 σ3 H5 x u _ I5' r5 (step x H5 y5)) fun _ s6 ⟨σ6,H6,I6,q6⟩=>?_)
  refine JD hp (thn (hb _ s6 σ6 H6 _ I6 q6) fun f s7 q7=>?_)
  have again:∀ {σ7:St} {H7:Hp},Inv X (pins ++ zfq fp s5.heap) σ7 H7 s7->N σ7 H7->∃ m,m<n/\∃ i σ' H',Inv X pins σ' H' s7/\tn i s7.heap/\(∀ b ∈ fp,H' b=none)/\W i m σ' H':=fun {σ7 H7} I7 n7=>by
   obtain ⟨m',hm,w7⟩:=hN σ7 H7 n7
   refine ⟨m',hm,i+1,σ7,H7,I7.unpinned,T.keep _ _ _ st5 fun b hb o e=>(I7.pin (b,o) (yc _ (yc _ (zcE hb e)))).1,fun b hb=>?_,w7⟩
   obtain ⟨o,e,d⟩:=T.obj _ _ st5 b hb; exact (I7.pin (b,o) (yc _ (yc _ (zcE hb e)))).2.1
  cases f with
  | next=>obtain ⟨σ7,H7,I7,n7⟩:=q7; exact again I7 n7
  | cont=>obtain ⟨σ7,H7,I7,n7⟩:=q7; exact again I7 n7
  | brk=>obtain ⟨σ7,H7,I7,q7⟩:=q7; exact ⟨σ7,H7,I7.unpinned,q7⟩
  | ret v=>obtain ⟨x7,σ7,H7,I7,r7,q7⟩:=q7; exact ⟨x7,σ7,H7,I7.unpinned,r7,q7⟩
end
abbrev R2:=V->V->Hp->VK->Prop
def OpR (X:Cx) (f:Value->Value->Sem Value) (r:R2):Prop :=
 ∀ (pins:yyL) (s:Shared) (σ:St) (H:Hp) (x y:V) (v u:Value) (Q:VK),Inv X pins σ H s->zaw x v->zaw y u->r x y H Q ->
  wpAny (model X.prog X.w) X.A (f v u) (EP X pins σ Q) X.xe s
def UnR (X:Cx) (f:Value->Sem Value) (r:V->Hp->VK->Prop):Prop :=
 ∀ (pins:yyL) (s:Shared) (σ:St) (H:Hp) (x:V) (v:Value) (Q:VK),Inv X pins σ H s->zaw x v->r x H Q ->
  wpAny (model X.prog X.w) X.A (f v) (EP X pins σ Q) X.xe s
def zb6 (X:Cx) (f:Value) (r:List V->Hp->VK->Prop):Prop :=
 ∀ (pins:yyL) (s:Shared) (σ:St) (H:Hp) (xs:List V) (us:List Value) (Q:VK),Inv X pins σ H s->zah xs us->r xs H Q ->
  wpAny (model X.prog X.w) X.A (call f us) (EP X pins σ Q) X.xe s
def tOp (r:R2) (ta tb:TE):TE:=fun σ H Q=>ta σ H fun x H1=>tb σ H1 fun y H2=>r x y H2 Q
def tUn (r:V->Hp->VK->Prop) (ta:TE):TE:=fun σ H Q=>ta σ H fun x H1=>r x H1 Q
def rI (C:Int->Int->Prop) (g:Int->Int->V):R2:=fun x y H Q=>∃ i j,x=.int i/\y=.int j/\C i j/\Q (g i j) H
def rI0 (g:Int->Int->V):R2:=fun x y H Q=>∃ i j,x=.int i/\y=.int j/\Q (g i j) H
def rU (g:Int->V):V->Hp->VK->Prop:=fun x H Q=>∃ i,x=.int i/\Q (g i) H
section
variable {X:Cx} {a b c:Expr} {ta tb tc:TE} {pos:Pos}
def zvz (ha:PE X a ta) (hb:PE X b tb) {pins:yyL} {s:Shared} {σ:St} {H:Hp} {R:V->V->Hp->Prop} (I:Inv X pins σ H s)
  (h:ta σ H fun x H1=>tb σ H1 fun y H2=>R x y H2) {Q:Value->Shared->Prop} {f:Value->Value->Sem Value}
  (hf:∀ v u s2 x y H2,Inv X pins σ H2 s2->zaw x v->zaw y u->R x y H2->wpAny (model X.prog X.w) X.A (f v u) Q X.xe s2) :
  wpAny (model X.prog X.w) X.A (eval a X.env) (fun v s₁=>wpAny (model X.prog X.w) X.A (eval b X.env) (fun u s₂=>wpAny (model X.prog X.w) X.A (f v u) Q X.xe s₂) X.xe s₁) X.xe s:=by
 refine thn (ha pins s σ H _ I h) fun v s1 ⟨x,H1,I1,r1,q1⟩=>?_
 refine thn (hb pins s1 σ H1 _ I1 q1) fun u s2 ⟨y,H2,I2,r2,q2⟩=>?_
 exact hf v u s2 x y H2 I2 r1 r2 q2
def zsl {op:Operator} {r:R2} (ho:OpR X (binaryOp op) r) (ha:PE X a ta) (hb:PE X b tb):PE X (.BinOp a op b pos) (tOp r ta tb):=by
 intro pins s σ H Q I h
 exact wpAny_BinOp (zvz ha hb I h fun v u s2 x y H2 I2 rx ry q=>ho pins s2 σ H2 x y v u Q I2 rx ry q)
def zuW {op:UnaryOp} {r:V->Hp->VK->Prop} (ho:UnR X (unaryOp op) r) (ha:PE X a ta):PE X (.UnaryOp op a pos) (tUn r ta):=by
 intro pins s σ H Q I h
 exact UnaryOp_ (thn (ha pins s σ H _ I h) fun v s1 ⟨x,H1,I1,r1,q1⟩=>ho pins s1 σ H1 x v Q I1 r1 q1)
def opI {f:Value->Value->Sem Value} {C:Int->Int->Prop} {g:Int->Int->Int}
  (rule:∀ (i j:Int) (t u:Tok) (s:Shared) (Q:Value->Shared->Prop) (E:Value->Shared->Prop),C i j->Q (.int (g i j) s.toks) { s with toks:=s.toks+1 }->wpAny (model X.prog X.w) X.A (f (.int i t) (.int j u)) Q E s) :
  OpR X f (rI C fun i j=>.int (g i j)):=by
 intro pins s σ H x y v u Q I rx ry h; obtain ⟨i,j,rfl,rfl,hc,q⟩:=h; obtain ⟨t,rfl⟩:=rx; obtain ⟨t',rfl⟩:=ry; exact rule i j t t' s _ _ hc ⟨.int (g i j),H,I.tok _,⟨_,rfl⟩,q⟩
def zvR {f:Value->Value->Sem Value} {g:Int->Int->Int}
  (rule:∀ (i j:Int) (t u:Tok) (s:Shared) (Q:Value->Shared->Prop) (E:Value->Shared->Prop),Q (.int (g i j) s.toks) { s with toks:=s.toks+1 }->wpAny (model X.prog X.w) X.A (f (.int i t) (.int j u)) Q E s) :
  OpR X f (rI0 fun i j=>.int (g i j)):=by
 intro pins s σ H x y v u Q I rx ry h; obtain ⟨i,j,rfl,rfl,q⟩:=h; obtain ⟨t,rfl⟩:=rx; obtain ⟨t',rfl⟩:=ry; exact rule i j t t' s _ _ ⟨.int (g i j),H,I.tok _,⟨_,rfl⟩,q⟩
def zvS {f:Value->Value->Sem Value} {g:Int->Int->Bool}
  (rule:∀ (i j:Int) (t u:Tok) (s:Shared) (Q:Value->Shared->Prop) (E:Value->Shared->Prop),Q (.bool (g i j)) s->wpAny (model X.prog X.w) X.A (f (.int i t) (.int j u)) Q E s) :
  OpR X f (rI0 fun i j=>.bl (g i j)):=by
 intro pins s σ H x y v u Q I rx ry h; obtain ⟨i,j,rfl,rfl,q⟩:=h; obtain ⟨t,rfl⟩:=rx; obtain ⟨t',rfl⟩:=ry; exact rule i j t t' s _ _ ⟨.bl (g i j),H,I,rfl,q⟩
def zop (i j:Int):Prop:=0<j/\j<1073741824
def zoo (i j:Int):Prop:=(-(2 ^ 64)<i/\i<2 ^ 64)\/(-(2 ^ 64)<j/\j<2 ^ 64)
def zoo.ok {i j:Int} (h:zoo i j):IntMulOk i j:=by
 rcases h with ⟨h1,h2⟩ | ⟨h1,h2⟩
 ·exact .of_left (intBits_le_64 h1 h2)
 ·exact .of_right (intBits_le_64 h1 h2)
def zsE:OpR X (binaryOp .Add) (rI0 fun i j=>.int (i+j)):=zvR fun _ _ _ _ _ _ _ q=>add_int q
def zsy:OpR X (binaryOp .Sub) (rI0 fun i j=>.int (i-j)):=zvR fun _ _ _ _ _ _ _ q=>sub_int q
def zsz:OpR X (binaryOp .Mult) (rI zoo fun i j=>.int (i * j)):=opI fun _ _ _ _ _ _ _ hc q=>mul_int q hc.ok
def zqf:OpR X (binaryOp .FloorDiv) (rI zop fun i j=>.int (i / j)):=opI fun i j _ _ _ _ _ hc q=>by
 have h1:(0:Int)<j:=hc.1
 have h2:j<1073741824:=hc.2
 exact floordiv_int (by omega) (by rw [Int.fdiv_eq_ediv_of_nonneg i (by omega)]; exact q) (.inl (PyProof.noPylong_small (by omega)))
def zsA:OpR X (binaryOp .Mod) (rI (fun _ j=>0<j) fun i j=>.int (i % j)):=opI fun i j _ _ _ _ _ hc q=>by
 have h1:(0:Int)<j:=hc
 exact mod_int' (by omega) (by rw [Int.fmod_eq_emod_of_nonneg i (by omega)]; exact q)
def unI {f:Value->Sem Value} {g:Int->Int}
  (rule:∀ (i:Int) (t:Tok) (s:Shared) (Q:Value->Shared->Prop) (E:Value->Shared->Prop),Q (.int (g i) s.toks) { s with toks:=s.toks+1 }->wpAny (model X.prog X.w) X.A (f (.int i t)) Q E s) :
  UnR X f (rU fun i=>.int (g i)):=by
 intro pins s σ H x v Q I rx h; obtain ⟨i,rfl,q⟩:=h; obtain ⟨t,rfl⟩:=rx; exact rule i t s _ _ ⟨.int (g i),H,I.tok _,⟨_,rfl⟩,q⟩
def zrt:UnR X (unaryOp .USub) (rU fun i=>.int (-i)):=unI fun _ _ _ _ _ q=>neg_int q
end
def zpy:V->V->Bool
 | .non,.non=>true | .non,.int _=>true | .int _,.non=>true | .non,.bl _=>true | .bl _,.non=>true | .non,.str _=>true | .str _,.non=>true
 | .int _,.int _=>true | .bl _,.bl _=>true | .str _,.str _=>true | .byt _,.byt _=>true
 | .int _,.str _=>true | .str _,.int _=>true | .bl _,.str _=>true | .str _,.bl _=>true
 | _,_=>false
def rEq:R2:=fun x y H Q=>zpy x y=true/\Q (.bl (decide (x=y))) H
def rNe:R2:=fun x y H Q=>zpy x y=true/\Q (.bl (!decide (x=y))) H
def zl5 {i j:Int}:decide (V.int i=V.int j)=(i == j):=by
 rw [Bool.eq_iff_iff]; simp
def zo4 {i j:Bool}:decide (V.bl i=V.bl j)=(i == j):=by
 rw [Bool.eq_iff_iff]; simp
def zl4 {i j:Str}:decide (V.str i=V.str j)=(i == j):=by
 rw [Bool.eq_iff_iff]; simp
def zl6 {i j:Array UInt8}:decide (V.byt i=V.byt j)=(i.toList == j.toList):=by
 rw [Bool.eq_iff_iff]; cases i; cases j; simp
section
variable {X:Cx} {a b c:Expr} {ta tb tc:TE} {pos:Pos}
def zZ {pins:yyL} {σ:St} {H:Hp} {s:Shared} {Q:VK} {k k':Bool} (I:Inv X pins σ H s) (q:Q (.bl k) H) (e:k=k'):EP X pins σ Q (.bool k') s:=by
 subst e; exact ⟨.bl k,H,I,rfl,q⟩
def zu3:OpR X (compareOp .Eq) rEq:=by
 intro pins s σ H x y v u Q I rx ry h; obtain ⟨hs,q⟩:=h
 cases x with
 | non =>
  cases rx
  cases y with
  | non=>cases ry; exact PySem.EqNone.eq_none_none (zZ I q (by simp))
  | bl j=>cases ry; exact PySem.EqNone.eq_none_bool (zZ I q (by simp))
  | int j=>obtain ⟨t',rfl⟩:=ry; exact PySem.EqNone.eq_none_int (zZ I q (by simp))
  | str j=>obtain ⟨t',rfl⟩:=ry; exact PySem.EqNone.eq_none_str (zZ I q (by simp))
  | _=>exact yN (show false=true from hs) yO
 | bl i =>
  cases rx
  cases y with
  | non=>cases ry; exact PySem.EqNone.eq_bool_none (zZ I q (by simp))
  | bl j=>cases ry; exact eq_bool (zZ I q zo4)
  | str j=>obtain ⟨t',rfl⟩:=ry; exact PySem.EqMixed.eq_bool_str (zZ I q (by simp))
  | _=>exact yN (show false=true from hs) yO
 | int i =>
  obtain ⟨t,rfl⟩:=rx
  cases y with
  | non=>cases ry; exact PySem.EqNone.eq_int_none (zZ I q (by simp))
  | int j=>obtain ⟨t',rfl⟩:=ry; exact eq_int (zZ I q zl5)
  | str j=>obtain ⟨t',rfl⟩:=ry; exact PySem.EqMixed.eq_int_str (zZ I q (by simp))
  | _=>exact yN (show false=true from hs) yO
 | str i =>
  obtain ⟨t,rfl⟩:=rx
  cases y with
  | non=>cases ry; exact PySem.EqNone.eq_str_none (zZ I q (by simp))
  | bl j=>cases ry; exact PySem.EqMixed.eq_str_bool (zZ I q (by simp))
  | int j=>obtain ⟨t',rfl⟩:=ry; exact PySem.EqMixed.eq_str_int (zZ I q (by simp))
  | str j=>obtain ⟨t',rfl⟩:=ry; exact eq_str (zZ I q zl4)
  | _=>exact yN (show false=true from hs) yO
 | byt i =>
  obtain ⟨t,rfl⟩:=rx
  cases y with
  | byt j=>obtain ⟨t',rfl⟩:=ry; exact W.eq_bytes (zZ I q zl6)
  | _=>exact yN (show false=true from hs) yO
 | _=>cases y <;> exact yN (show false=true from hs) yO
def zu0:OpR X (compareOp .NotEq) rNe:=by
 intro pins s σ H x y v u Q I rx ry h; obtain ⟨hs,q⟩:=h
 cases x with
 | non =>
  cases rx
  cases y with
  | non=>cases ry; exact PySem.EqNone.ne_none_none (zZ I q (by simp))
  | bl j=>cases ry; exact PySem.EqNone.ne_none_bool (zZ I q (by simp))
  | int j=>obtain ⟨t',rfl⟩:=ry; exact PySem.EqNone.ne_none_int (zZ I q (by simp))
  | str j=>obtain ⟨t',rfl⟩:=ry; exact PySem.EqNone.ne_none_str (zZ I q (by simp))
  | _=>exact yN (show false=true from hs) yO
 | bl i =>
  cases rx
  cases y with
  | non=>cases ry; exact PySem.EqNone.ne_bool_none (zZ I q (by simp))
  | bl j=>cases ry; exact ne_bool (zZ I q (yi not zo4))
  | str j=>obtain ⟨t',rfl⟩:=ry; exact PySem.EqMixed.ne_bool_str (zZ I q (by simp))
  | _=>exact yN (show false=true from hs) yO
 | int i =>
  obtain ⟨t,rfl⟩:=rx
  cases y with
  | non=>cases ry; exact PySem.EqNone.ne_int_none (zZ I q (by simp))
  | int j=>obtain ⟨t',rfl⟩:=ry; exact ne_int (zZ I q (yi not zl5))
  | str j=>obtain ⟨t',rfl⟩:=ry; exact PySem.EqMixed.ne_int_str (zZ I q (by simp))
  | _=>exact yN (show false=true from hs) yO
 | str i =>
  obtain ⟨t,rfl⟩:=rx
  cases y with
  | non=>cases ry; exact PySem.EqNone.ne_str_none (zZ I q (by simp))
  | bl j=>cases ry; exact PySem.EqMixed.ne_str_bool (zZ I q (by simp))
  | int j=>obtain ⟨t',rfl⟩:=ry; exact PySem.EqMixed.ne_str_int (zZ I q (by simp))
  | str j=>obtain ⟨t',rfl⟩:=ry; exact ne_str (zZ I q (yi not zl4))
  | _=>exact yN (show false=true from hs) yO
 | byt i =>
  obtain ⟨t,rfl⟩:=rx
  cases y with
  | byt j=>obtain ⟨t',rfl⟩:=ry; exact W.ne_bytes (zZ I q (yi not zl6))
  | _=>exact yN (show false=true from hs) yO
 | _=>cases y <;> exact yN (show false=true from hs) yO
def zu1:OpR X (compareOp .Lt) (rI0 fun i j=>.bl (decide (i<j))):=zvS fun _ _ _ _ _ _ _ q=>lt_int q
def zu2:OpR X (compareOp .Gt) (rI0 fun i j=>.bl (decide (j<i))):=zvS fun _ _ _ _ _ _ _ q=>gt_int q
def zle:OpR X (compareOp .In) (fun x y H Q=>∃ i j,x=.str i/\y=.str j/\Q (.bl (!(Builtin.Str.occurrences j i 0 j.length 1).isEmpty)) H):=by
 intro pins s σ H x y v u Q I rx ry h; obtain ⟨i,j,rfl,rfl,q⟩:=h; obtain ⟨t,rfl⟩:=rx; obtain ⟨t',rfl⟩:=ry; exact in_str (zZ I q rfl)
def zsC:OpR X (compareOp .Is) (fun x y H Q=>y=.non/\Q (.bl (decide (x=.non))) H):=by
 intro pins s σ H x y v u Q I rx ry h; obtain ⟨rfl,q⟩:=h; cases ry; refine is_none_gen (zZ I q ?_)
 cases x <;> first
  | (cases rx; rfl)
  | (obtain ⟨t,rfl⟩:=rx; rfl)
def zqe:OpR X (compareOp .IsNot) (fun x y H Q=>y=.non/\Q (.bl (!decide (x=.non))) H):=by
 intro pins s σ H x y v u Q I rx ry h; obtain ⟨rfl,q⟩:=h; cases ry; refine isnot_none_gen (zZ I q ?_)
 cases x <;> first
  | (cases rx; rfl)
  | (obtain ⟨t,rfl⟩:=rx; rfl)
def zgM:OpR X (compareOp .NotIn) (fun x y H Q=>∃ i j,x=.str i/\y=.str j/\Q (.bl (!(!(Builtin.Str.occurrences j i 0 j.length 1).isEmpty))) H):=by
 intro pins s σ H x y v u Q I rx ry h; obtain ⟨i,j,rfl,rfl,q⟩:=h; obtain ⟨t,rfl⟩:=rx; obtain ⟨t',rfl⟩:=ry; exact notIn_str (zZ I q rfl)
def OpR.or {f:Value->Value->Sem Value} {r r':R2} (h:OpR X f r) (h':OpR X f r'):OpR X f (fun x y H Q=>r x y H Q\/r' x y H Q):=by
 intro pins s σ H x y v u Q I rx ry q
 rcases q with q | q
 ·exact h pins s σ H x y v u Q I rx ry q
 ·exact h' pins s σ H x y v u Q I rx ry q
def zoE (b:Expr) {op:CmpOp} (h:op≠.In:=by decide) (h2:op≠.NotIn:=by decide):behindInMarks op b=false:=by
 have e1:(op == CmpOp.In)=false:=by cases op <;> first | rfl | exact yN rfl h
 have e2:(op == CmpOp.NotIn)=false:=by cases op <;> first | rfl | exact yN rfl h2
 cases b <;> simp [behindInMarks,e1,e2]
def zp9 {op:CmpOp} {r:R2} (ho:OpR X (compareOp op) r) (ha:PE X a ta) (hb:PE X b tb) (hm:behindInMarks op b=false):PE X (.Compare a [op] [b] pos) (tOp r ta tb):=by
 intro pins s σ H Q I h
 exact wpAny_Compare1 (zvz ha hb I h fun v u s2 x y H2 I2 rx ry q=>ho pins s2 σ H2 x y v u Q I2 rx ry q) hm
def zur (t:TE):TT:=fun σ H Q=>t σ H fun x H'=>∃ k,x=.bl k/\Q k H'
def zpL {op:CmpOp} {r:R2} (ho:OpR X (compareOp op) r) (ha:PE X a ta) (hb:PE X b tb) (hm:behindInMarks op b=false):PT X (.Compare a [op] [b] pos) (zur (tOp r ta tb)):=by
 intro pins s σ H Q I h
 refine wpAny_isTrue_Compare1 (thn (ha pins s σ H _ I h) fun v s1 ⟨x,H1,I1,r1,q1⟩=>thn (hb pins s1 σ H1 _ I1 q1) fun u s2 ⟨y,H2,I2,r2,q2⟩ =>
  thn (ho pins s2 σ H2 x y v u _ I2 r1 r2 q2) fun c s3 ⟨z,H3,I3,r3,k,e,q3⟩=>?_) hm
 subst e; cases r3; exact wpAny_truthy_bool ⟨H3,I3,q3⟩
def zgX:(sizeLine:Nat)<2 ^ 63:=by rw [sizeLine_eq]; decide
def zjO:OpR X (binaryOp .Add) (fun x y H Q=>∃ i j,x=.str i/\y=.str j/\i.length+j.length<=sizeLine/\Q (.str (i ++ j)) H):=by
 intro pins s σ H x y v u Q I rx ry h; obtain ⟨i,j,rfl,rfl,hz,q⟩:=h; obtain ⟨t,rfl⟩:=rx; obtain ⟨t',rfl⟩:=ry
 exact add_str (fun t' tk=>⟨.str (i ++ j),H,I.tok _,⟨_,rfl⟩,q⟩) hz
def zcH {x:V} {us:List Value} (r:zah [x] us):∃ u,us=[u]/\zaw x u:=by
 cases r with
 | cons r1 r2=>cases r2; exact ⟨_,rfl,r1⟩
def zkw {x y:V} {us:List Value} (r:zah [x,y] us):∃ u w',us=[u,w']/\zaw x u/\zaw y w':=by
 cases r with
 | cons r1 r2 =>
  cases r2 with
  | cons r3 r4=>cases r4; exact ⟨_,_,rfl,r1,r3⟩
def zmi (hc:X.calm=true):zb6 X (.builtin "min") (fun xs H Q=>∃ i j,xs=[.int i,.int j]/\Q (.int (if j<i then j else i)) H):=by
 intro pins s σ H xs us Q I r h; obtain ⟨i,j,rfl,q⟩:=h
 obtain ⟨u,w',rfl,⟨t,rfl⟩,⟨t',rfl⟩⟩:=zkw r
 refine min_two_ints (I.ok.hd hc) fun h' tk k=>⟨_,H,I.kept k,?_,q⟩
 by_cases hj:j<i
 ·rw [yM hj,yM hj]; exact ⟨_,rfl⟩
 ·rw [yK hj,yK hj]; exact ⟨_,rfl⟩
def zml:zb6 X (.type "int") (fun xs H Q=>(∃ i,xs=[.int i]/\Q (.int i) H)\/∃ k,xs=[.bl k]/\Q (.int (if k then 1 else 0)) H):=by
 intro pins s σ H xs us Q I r h
 rcases h with ⟨i,rfl,q⟩ | ⟨k,rfl,q⟩
 ·obtain ⟨u,rfl,t,rfl⟩:=zcH r
  exact call_int_int ⟨.int i,H,I,⟨_,rfl⟩,q⟩
 ·obtain ⟨u,rfl,r1⟩:=zcH r
  cases r1
  exact call_int_bool ⟨.int (if k then 1 else 0),H,I.tok _,⟨_,rfl⟩,q⟩
def zhj:zb6 X (.type "str") (fun xs H Q=>∃ i,xs=[.int i]/\i.natAbs.log2<1920/\Q (.str (toString i)) H):=by
 intro pins s σ H xs us Q I r h; obtain ⟨i,rfl,hz,q⟩:=h; obtain ⟨u,rfl,t,rfl⟩:=zcH r; exact PySem.P.str_of_int hz ⟨.str _,H,I.tok _,⟨_,rfl⟩,q⟩
end
structure ObjM (h:Heap) (x dx C:Addr) (mA:Str->Option Value):Prop where
 obj:h.get? x=some (W.instObj C dx)
 ns:h.Ns1 dx mA
 ne:dx≠x
def zgW {h:Heap} {dx:Addr} {mA:Str->Option Value} (n:h.Ns1 dx mA):∃ od,h.get? dx=some od/\∀ name,W.lookIn name od=some (mA name):=by
 obtain ⟨o,es,ep,ho,hd,hk,_,hm⟩:=n
 refine ⟨o,ho,fun name=>?_⟩
 have e:=hm name; unfold nsFind findBy at e; rw [<- Array.find?_toList] at e; unfold W.lookIn; rw [hd]
 dsimp only
 split
 ·rename_i y q
  rw [q] at e; exact yi some e
 ·rename_i q
  rw [q] at e
  have a:es.toList.any (·.refKey)=false:=by
   rw [List.any_eq_false]; intro y hy; obtain ⟨z,t,hkey⟩:=hk y (Array.mem_toList_iff.mp hy); simp [DictEntry.refKey,hkey]
  have a':¬ es.toList.any (·.refKey)=true:=by rw [a]; exact yO
  rw [yK a']; exact yi some e
def ObjM.look {h:Heap} {x dx C:Addr} {mA:Str->Option Value} (I:ObjM h x dx C mA):∃ od,W.InstAt h x (W.instObj C dx) C (some od)/\∀ name,W.lookIn name od=some (mA name) :=
 let ⟨od,ho,hl⟩:=zgW I.ns
 ⟨od,⟨I.obj,rfl,rfl,ho⟩,hl⟩
section
variable {prog:Program} {w:World} {A:Around} {E:Value->Shared->Prop} {s:Shared} {K:W.Frag} {x dx C f:Addr} {mA:Str->Option Value} {name:Str} {v:Value}
def zqK {expr:Bool} {Q:Value->Shared->Prop} (X:K.In s.heap) (I:ObjM s.heap x dx C mA) (hg:W.plainGet K C name=true) (hh:W.hasDictIn K C=true)
  (ha:W.findIn K (.ref C) name=some none) (hv:mA name=some v) (hv':W.handedIn v=true) (h:Q v { s with toks:=s.toks+1 }) :
  wpAny (model prog w) A (getAttr (.ref x) name expr) Q E s:=by
 obtain ⟨od,J,hl⟩:=I.look
 exact W.get_value X J (W.plainGet_of hg).1 (W.findObj_own hh ha rfl (by rw [hl,hv])) hv' h
end
def zmp.some_of {v:V} {o:Option Value} (r:zmp (some v) o):∃ u,o=some u/\zaw v u:=by
 cases o with
 | none=>exact (show False from r).elim
 | some u=>exact ⟨u,rfl,r⟩
def zg4 {v:V} {u:Value} (r:zaw v u):W.handedIn u=true:=by
 cases v with
 | non=>cases (show u=Value.none from r); rfl
 | bl b=>cases (show u=Value.bool b from r); rfl
 | int i=>obtain ⟨t,e⟩:=(show ∃ t,u=Value.int i t from r); cases e; rfl
 | str x=>obtain ⟨t,e⟩:=(show ∃ t,u=Value.str x t from r); cases e; rfl
 | byt b=>obtain ⟨t,e⟩:=(show ∃ t,u=Value.bytes b t from r); cases e; rfl
 | flt b=>obtain ⟨t,e⟩:=(show ∃ t,u=Value.float b t from r); cases e; rfl
 | ref a=>cases (show u=Value.ref a from r); rfl
 | ty n=>cases (show u=Value.type n from r); rfl
section
variable {P:Program} {w:World} {H H':Hp} {h h':Heap} {a C dx:Addr} {fs fs':List (Str × V)}
def zlN (hok:HOk P w H h) (e:H a=some (.ins C dx fs)):∃ mA,ObjM h a dx C mA/\(∀ f,zmp (fs.lookup f) (mA f))/\PySem.Within mA (fs.map (·.1))/\fs.length<=1000/\H dx=some (.own a):=by
 obtain ⟨d,z,ne,ob,mA,n,r,q⟩:=(show zap P w H h a (.ins C dx fs) from hok a _ e)
 exact ⟨mA,⟨ob,n,ne⟩,r,q,z,d⟩
end
structure Cls (K:W.Frag) (C:Addr):Prop where
 pg:W.plainGet K C Str.empty=true
 hd:W.hasDictIn K C=true
 po:W.plainOver K C=true
 sa:W.findIn K (.ref C) "__setattr__"=some (some (.builtin "object.__setattr__"))
def Cls.get {K:W.Frag} {C:Addr} (c:Cls K C) (f:Str):W.plainGet K C f=true:=c.pg
def zcS (K:W.Frag) (C:Addr) (f:Str):Prop:=W.findIn K (.ref C) f=some none
def zcS.taker {K:W.Frag} {C:Addr} {f:Str} (n:zcS K C f):W.takerIn K C f=some none:=by
 unfold W.takerIn
 rw [show W.findIn K (.ref C) f=some none from n]
 rfl
section
variable {X:Cx} {pins:yyL} {σ:St} {H:Hp} {s:Shared} {a C dx:Addr} {fs:List (Str × V)} {f:Str} {v:V} {A:Around} {E:Value->Shared->Prop}
def zj4 {b:Bool} {Q:Value->Shared->Prop} (I:Inv X pins σ H s) (e:H a=some (.ins C dx fs)) (c:Cls X.K C) (n:zcS X.K C f) (l:fs.lookup f=some v)
  (h:∀ u s',Inv X pins σ H s'->zaw v u->Q u s'):wpAny (model X.prog X.w) A (getAttr (.ref a) f b) Q E s:=by
 obtain ⟨mA,O,r,_,_,_⟩:=zlN I.hok e
 obtain ⟨u,hu,ru⟩:=zmp.some_of (v:=v) (o:=mA f) (by rw [<- l]; exact r f)
 exact zqK I.kIn O (c.get f) c.hd n hu (zg4 ru) (h u _ (I.tok _) ru)
def zq1 {prog:Program} {w:World} {env:Env} {e:Expr} {f:Str} {pos:Pos} {s:Shared} {Q:Value->Shared->Prop} (hb:attributeBase e f env (eval e env)=eval e env)
  (h:wpAny (model prog w) A (eval e env) (fun o s₁=>wpAny (model prog w) A (getAttr o f true) Q E s₁) E s):wpAny (model prog w) A (eval (.Attribute e f pos) env) Q E s :=
 Attribute_any_ h (by rw [arm_eval_Attribute,hb])
end
section
variable {X:Cx} {o e value:Expr} {f:Str} {pos pos' tpos:Pos} {ta tv:TE}
end
section
variable {X:Cx} {pins:yyL} {σ:St} {H:Hp} {s:Shared} {A:Around} {E:Value->Shared->Prop} {Q:Value->Shared->Prop} {c:Value} {b:Bool}
end
structure Room (k:Nat) (A:Around):Prop where
 hd:A.handled=none
 dp:A.depth+3 * k+5<recursionLimit
 un:A.units+16 * k+200<cLine
 gd:A.guards=some []
def Room.mono {j k:Nat} {A:Around} (r:Room k A) (h:j<=k):Room j A:=⟨r.hd,by have:=r.dp; omega,by have:=r.un; omega,r.gd⟩
def Room.deeper {k:Nat} {A:Around} (r:Room (k+1) A) (env:Env):Room k (A.deeper env) :=
 ⟨r.hd,by have:=r.dp; show A.depth+1+3 * k+5<_; omega,by have:=r.un; show A.units+3+16 * k+200<_; omega,r.gd⟩
def Room.in1 {k:Nat} {A:Around} (r:Room (k+1) A):Room k A.in1 :=
 ⟨r.hd,by have:=r.dp; show A.depth+3 * k+5<_; omega,by have:=r.un; show A.units+1+16 * k+200<_; omega,r.gd⟩
def zjU {A:Around} {C:Addr} {us:List Value} {kw:List (Str × Value)}:(A.under (.builtin "type.__call__" ⟨.ref C :: us,kw⟩)).depth=A.depth+1:=by
 first | rfl | simp [Around.under,Code.weight,Code.isCreation,Code.isGuard,Code.isCaller,Code.frames,Code.isFrame,guardIds]
def zjT {A:Around} {C:Addr} {us:List Value} {kw:List (Str × Value)}:(A.under (.builtin "type.__call__" ⟨.ref C :: us,kw⟩)).units=A.units+1:=by
 first | rfl | simp [Around.under,Code.cUnits,Code.frames,Code.isFrame]
def Room.make {k:Nat} {A:Around} (r:Room (k+1) A) (C:Addr) (us:List Value) (kw:List (Str × Value)):Room k (A.under (.builtin "type.__call__" ⟨.ref C :: us,kw⟩)) :=
 ⟨r.hd,by have:=r.dp; rw [zjU]; omega,by have:=r.un; rw [zjT]; omega,r.gd⟩
def Room.depth {k:Nat} {A:Around} (r:Room k A):A.depth<recursionLimit:=by have:=r.dp; omega
def Room.units {k:Nat} {A:Around} (r:Room k A):A.units+64<cLine:=by have:=r.un; omega
def Room.units0 {k:Nat} {A:Around} (r:Room k A):A.units<cLine:=by have:=r.un; omega
def zvH:TA:=fun _ H Q=>Q [] H
def zrF (ta:TE) (tr:TA):TA:=fun σ H Q=>ta σ H fun x H1=>tr σ H1 fun xs H2=>Q (x :: xs) H2
section
variable {X:Cx} {e:Expr} {es:List Expr} {te:TE} {t:TA} {pos:Pos}
def ziT:PA X [] zvH:=fun _ _ _ _ H Q I h=>Calls.spliced_nil ⟨[],H,I,.nil,h⟩
def zck (ha:PE X e te) (hr:PA X es t) (hs:starEach (e :: es) X.env=(false,eval e X.env) :: starEach es X.env:=by rfl):PA X (e :: es) (zrF te t):=by
 intro pos pins s σ H Q I h; rw [hs]
 show wpAny _ _ (spliced ((false,eval e X.env) :: backTo pos (starEach es X.env))) _ _ s
 refine Calls.spliced_cons (thn (ha pins s σ H _ I h) fun u s1 ⟨x,H1,I1,r1,q1⟩=>?_)
 exact thn (hr pos pins s1 σ H1 _ I1 q1) fun us s2 ⟨xs,H2,I2,r2,q2⟩=>⟨x :: xs,H2,I2,.cons r1 r2,q2⟩
def zv8 (t:TA):TE:=fun σ H Q=>t σ H fun xs H1=>xs.length<=sizeLine/\∀ p,H1 p=none->Q (.ref p) (upd H1 p (.tup xs))
def zwc (t:TA):TE:=fun σ H Q=>t σ H fun xs H1=>xs.length<=sizeLine/\∀ p,H1 p=none->Q (.ref p) (upd H1 p (.lst xs))
def zsj {x1} (h:PA X es t):PE X (.Tuple es x1 pos) (zv8 t):=by
 intro pins s σ H Q I hq
 refine wpAny_Tuple_spliced (thn (h pos pins s σ H _ I hq) fun us s1 ⟨xs,H1,I1,r,z,q⟩=>⟨by rw [<- r.length]; exact z,?_⟩)
 have hf:H1 s1.heap.objs.size=none:=I1.hok.fresh (yD _)
 refine ⟨.ref s1.heap.objs.size,upd H1 s1.heap.objs.size (.tup xs),I1.laid (t':=s1.toks) (fun b u e=>yB _ e) (yD _) ?_,rfl,q _ hf⟩
 exact ⟨z,us,r,⟨_,yJ _ rfl,rfl,_,rfl⟩⟩
def zso (h:PA X es t):PE X (.List es pos) (zwc t):=by
 intro pins s σ H Q I hq
 refine wpAny_List_spliced (thn (h pos pins s σ H _ I hq) fun us s1 ⟨xs,H1,I1,r,z,q⟩=>⟨by rw [<- r.length]; exact z,?_⟩)
 have hf:H1 s1.heap.objs.size=none:=I1.hok.fresh (yD _)
 refine ⟨.ref s1.heap.objs.size,upd H1 s1.heap.objs.size (.lst xs),I1.laid (t':=s1.toks) (fun b u e=>yB _ e) (yD _) ?_,rfl,q _ hf⟩
 exact ⟨z,us,0,r,yJ _ rfl⟩
end
abbrev Sp:=List V->Hp->VK->XK->Prop
abbrev CXT:=List Env->Hp->Shared->XK->Value->Shared->Prop
structure Env0 (P:Program) (w:World) (K:W.Frag) (mg:Str->Option Value) (base:Heap) (A:Around) (outer:List Env) (s:Shared) (H:Hp):Prop where
 frames:A.frames=some outer
 mod:Mod K mg base
 bs:∀ b o,base.get? b=some o->s.heap.get? b=some o/\H b=none
 bsz:base.objs.size<=s.heap.objs.size
 funs:s.heap.FunFrames base outer
 frf:∀ b ∈ frs outer,H b=none
 hok:HOk P w H s.heap
 bare:AllBare s.gens
 tab:zkc base H
def CE (outer:List Env) (P:Program) (w:World) (H:Hp) (s:Shared) (Q:VK) (u:Value) (s':Shared):Prop :=
 ∃ v H',s'.os=s.os/\AllBare s'.gens/\Un (frs outer) [] H H' s.heap s'.heap/\HOk P w H' s'.heap/\zaw v u/\Q v H'
def CR (CX:CXT) (outer:List Env) (P:Program) (w:World) (H:Hp) (s:Shared) (Q:VK) (E:XK) (r:Result) (s':Shared):Prop :=
 match r with
 | .ok (.ret u)=>CE outer P w H s Q u s'
 | .ok _=>False
 | .error e=>CX outer H s E e s'
structure FnOk (P:Program) (w:World) (K:W.Frag) (mg:Str->Option Value) (base:Heap) (CX:CXT) (k:Nat) (f:Addr) (fd:FuncData) (ps:List Str) (sp:Sp):Prop where
 len:∀ vs H Q E,sp vs H Q E->vs.length=ps.length
 run:∀ (A:Around) (outer:List Env) (s:Shared) (H:Hp) (args:Args) (us:List Value) (vs:List V) (Q:VK) (E:XK),Room k A->Env0 P w K mg base A outer s H->BindsTo s fd args (ps.zip us)->zah vs us->sp vs H Q E ->
  codeAny (model P w) A (.call (.ref f) args) (CR CX outer P w H s Q E) s
def Env0.make {P:Program} {w:World} {K:W.Frag} {mg:Str->Option Value} {base:Heap} {A:Around} {outer:List Env} {s:Shared} {H:Hp} (e:Env0 P w K mg base A outer s H) (C:Addr) (us:List Value) (kw:List (Str × Value)) :
  Env0 P w K mg base (A.under (.builtin "type.__call__" ⟨.ref C :: us,kw⟩)) outer s H:=⟨by first | exact e.frames | (simpa [Around.under,Code.envs,Code.isFrame,pushEnvs] using e.frames),e.mod,e.bs,e.bsz,e.funs,e.frf,e.hok,e.bare,e.tab⟩
def Env0.in1 {P:Program} {w:World} {K:W.Frag} {mg:Str->Option Value} {base:Heap} {A:Around} {outer:List Env} {s:Shared} {H:Hp} (e:Env0 P w K mg base A outer s H) :
  Env0 P w K mg base A.in1 outer s H:=⟨e.frames,e.mod,e.bs,e.bsz,e.funs,e.frf,e.hok,e.bare,e.tab⟩
section
variable {X:Cx} {pins:yyL} {σ:St} {H:Hp} {s s':Shared}
def Inv.env0 (I:Inv X pins σ H s):Env0 X.prog X.w X.K X.mg X.base X.A X.stack s H :=
 ⟨I.ok.frames,I.ok.mod,I.bs,yq I.ok.bsz I.sz,I.stack,I.stkFree,I.hok,I.bare,I.ok.tab.un I.base.tbls⟩
def Inv.after {Q:VK} {u:Value} (I:Inv X pins σ H s) (h:CE X.stack X.prog X.w H s Q u s'):EP X pins σ Q u s':=by
 obtain ⟨v,H',os,bare,un,hok,r,q⟩:=h; obtain ⟨hh,g,d,t,os'⟩:=s'
 obtain rfl:os'=s.os:=os
 exact ⟨v,H',I.call (h':=hh) (g':=g) (d':=d) (t':=t) (ch:=[]) un hok bare (fun b z=>yN z (by simp)),r,q⟩
end
def zrI (sp:Sp) (dvs:List V) (E:XK) (t:TA):TE:=fun σ H Q=>t σ H fun vs H1=>sp (vs ++ dvs) H1 Q E
def zb7 (K:W.Frag) (fd:FuncData) (ps:List Str) (ds:List Value):Prop :=
 ∀ (s:Shared) (us:List Value),K.In s.heap->(us ++ ds).length=ps.length->BindsTo s fd ⟨us,[]⟩ (ps.zip (us ++ ds))
def zb7.all {K:W.Frag} {fd:FuncData} {ps:List Str} (h:∀ us:List Value,us.length=ps.length->bindArgs fd ⟨us,[]⟩=pure (ps.zip us)):zb7 K fd ps []:=fun s us _ hl=>by
 rw [yb] at hl ⊢; exact .of_eq (h us hl)
def zmr (CX:CXT) (X:Cx) (E:XK):Prop:=∀ (pins:yyL) (σ:St) (H:Hp) (s:Shared) (e:Value) (s':Shared),Inv X pins σ H s->CX X.stack H s E e s'->X.xe e s'
section
variable {X:Cx} {CX:CXT} {k:Nat} {f C:Addr} {fd:FuncData} {ps:List Str} {sp:Sp} {dvs:List V} {ds:List Value} {E:XK} {x m:Str} {p pos apos:Pos} {e o:Expr} {es:List Expr} {ta:TE} {t:TA}
def zrS {pins:yyL} {σ:St} {H:Hp} {s:Shared} {Q:VK} {us:List Value} {vs:List V} (F:FnOk X.prog X.w X.K X.mg X.base CX k f fd ps sp) (hr:Room k X.A) (hb:zb7 X.K fd ps ds) (hd:zah dvs ds) (hx:zmr CX X E)
  (I:Inv X pins σ H s) (r:zah vs us) (h:sp (vs ++ dvs) H Q E):wpAny (model X.prog X.w) X.A (call (.ref f) us) (EP X pins σ Q) X.xe s:=by
 have r2:zah (vs ++ dvs) (us ++ ds):=r.append hd
 have hl:(us ++ ds).length=ps.length:=by rw [<- r2.length]; exact F.len _ _ _ _ h
 refine wpAny_call (codeAny_mono (F.run X.A X.stack s H ⟨us,[]⟩ (us ++ ds) (vs ++ dvs) Q E hr I.env0 (hb s us I.kIn hl) r2 h) fun r s' hq=>?_)
 cases r with
 | error e=>exact hx pins σ H s e s' I hq
 | ok fl =>
  cases fl with
  | ret u=>exact I.after hq
  | next=>exact False.elim hq
  | brk=>exact False.elim hq
  | cont=>exact False.elim hq
def zhP (F:FnOk X.prog X.w X.K X.mg X.base CX k f fd ps sp) (hr:Room k X.A) (hg:Gl X x) (hm:X.mg x=some (.ref f)) (hk:W.keepIn X.K (.ref f)=true) (hb:zb7 X.K fd ps ds) (hd:zah dvs ds) (hx:zmr CX X E)
  (ha:PA X (e :: es) t) (hdb:yyD x:=by decide) (he:starEach (e :: es) X.env=(false,eval e X.env) :: starEach es X.env:=by rfl) (hpl:(backTo pos (starEach es X.env)).any (·.1)=false:=by rfl) :
  PE X (.Call (.Name x p) (e :: es) [] pos) (zrI sp dvs E t):=by
 intro pins s σ H Q I h; refine YT (zcm I hg hm ?_ hdb)
 refine W.callWith_K (h₀:=X.base) I.ok.mod.kin hk (thn (ha pos pins s σ H _ I h) fun us s1 ⟨vs,H1,I1,r,q⟩=>⟨I1.kIn,?_⟩) he hpl
 exact zrS F hr hb hd hx I1 r q
end
def PK (X:Cx) (kws:List Keyword) (t:TA):Prop :=
 ∀ (pos:Pos) (pins:yyL) (s:Shared) (σ:St) (H:Hp) (Q:List V->Hp->Prop),Inv X pins σ H s->t σ H Q->wpAny (model X.prog X.w) X.A (evalAll ((backToKw pos (keywordEach kws X.env)).map (·.2))) (AP X pins σ Q) X.xe s
section
variable {X:Cx} {CX:CXT} {k:Nat} {f C:Addr} {fd:FuncData} {ps ks:List Str} {sp:Sp} {E:XK} {x m:Str} {p pos apos kpos:Pos} {e o:Expr} {es:List Expr} {kws:List Keyword} {te ta:TE} {t tk:TA} {nm:Option Str}
def zsg:PK X [] zvH:=fun _ _ _ _ H Q I h=>wpAny_evalAll_nil ⟨[],H,I,.nil,h⟩
def zpW (ha:PE X e te) (hr:PK X kws t):PK X (⟨nm,e,kpos⟩ :: kws) (zrF te t):=by
 intro pos pins s σ H Q I h
 show wpAny _ _ (evalAll ((do let v <- eval e X.env; standAt pos; pure v) :: (backToKw pos (keywordEach kws X.env)).map (·.2))) _ _ s
 refine wpAny_evalAll_cons (yA (thn (ha pins s σ H _ I h) fun u s1 ⟨x,H1,I1,r1,q1⟩=>yA (wpAny_standAt (yF ?_))))
 exact thn (hr pos pins s1 σ H1 _ I1 q1) fun us s2 ⟨xs,H2,I2,r2,q2⟩=>⟨x :: xs,H2,I2,.cons r1 r2,q2⟩
variable {g:List Value->List Value->List Value} {gV:List V->List V->List V}
end
structure FnScope (N P:List Str) (sc:Scope):Prop where
 kind:sc.kind=.function
 co:sc.isCoroutine=false
 gen:sc.isGenerator=false
 nd:N.Nodup
 pre:N.take P.length=P
 par:∀ x ∈ P,sc.names.lookup x=some .local\/sc.names.lookup x=some .cell
 nofree:∀ y ∈ sc.names,y.2≠.free
theorem zhq {kindOf:Str->Option NameKind} {x:Str}:∀ {binds:List (Str × Value)} {m:Str->Option Value},(∀ v,(x,v) ∉ binds)->bindL kindOf binds m x=m x
 | [],_,_=>rfl
 | (n,v) :: r,m,h=>by
  unfold bindL
  rw [zhq fun w hw=>h w (yL _ hw)]
  split
  ·have:x≠n:=by rintro rfl; exact h v yR
   simp [this]
  ·rfl
theorem zhs {kindOf:Str->Option NameKind} {x:Str}:∀ {binds:List (Str × Value)} {m:Str->Option Value},(∀ v,(x,v) ∉ binds)->bindC kindOf binds m x=m x
 | [],_,_=>rfl
 | (n,v) :: r,m,h=>by
  unfold bindC
  rw [zhs fun w hw=>h w (yL _ hw)]
  split
  ·rfl
  ·have:x≠n:=by rintro rfl; exact h v yR
   simp [this]
theorem zhr {kindOf:Str->Option NameKind} {x:Str} {v:Value}:∀ {P:List Str} {vs:List Value} {i:Nat} {m:Str->Option Value},P.Nodup->P[i]?=some x->vs[i]?=some v->kindOf x=some .local ->
  bindL kindOf (P.zip vs) m x=some v
 | [],_,_,_,_,h,_,_=>by simp at h
 | _ :: _,[],_,_,_,_,h,_=>by simp at h
 | p :: P,w :: vs,0,m,nd,h1,h2,hk=>by
  simp at h1 h2; subst h1; subst h2
  show bindL kindOf ((p,w) :: P.zip vs) m p=_
  unfold bindL
  rw [zhq fun v hv=>(yt.mp nd).1 (List.of_mem_zip hv).1,yM hk]
  simp
 | p :: P,w :: vs,i+1,m,nd,h1,h2,hk=>by
  show bindL kindOf ((p,w) :: P.zip vs) m x=_
  unfold bindL
  exact zhr (i:=i) (yt.mp nd).2 (by simpa using h1) (by simpa using h2) hk
theorem zht {kindOf:Str->Option NameKind} {x:Str} {v:Value}:∀ {P:List Str} {vs:List Value} {i:Nat} {m:Str->Option Value},P.Nodup->P[i]?=some x->vs[i]?=some v->kindOf x≠some .local ->
  bindC kindOf (P.zip vs) m x=some v
 | [],_,_,_,_,h,_,_=>by simp at h
 | _ :: _,[],_,_,_,_,h,_=>by simp at h
 | p :: P,w :: vs,0,m,nd,h1,h2,hk=>by
  simp at h1 h2; subst h1; subst h2
  show bindC kindOf ((p,w) :: P.zip vs) m p=_
  unfold bindC
  rw [zhs fun v hv=>(yt.mp nd).1 (List.of_mem_zip hv).1,yK hk]
  simp
 | p :: P,w :: vs,i+1,m,nd,h1,h2,hk=>by
  show bindC kindOf ((p,w) :: P.zip vs) m x=_
  unfold bindC
  exact zht (i:=i) (yt.mp nd).2 (by simpa using h1) (by simpa using h2) hk
def start (N:List Str) (vs:List V):St:=vs.map some ++ List.replicate (N.length-vs.length) none
def zdy (CX:CXT) (P:Program) (w:World) (K:W.Frag) (mg:Str->Option Value) (base:Heap) (N:List Str) (qual:Str) (scope:Scope) (f:Addr) (cd:Value) (A:Around) (outer:List Env) (s:Shared) (H:Hp) (E:XK):Cx where
 prog:=P
 w:=w
 K:=K
 mg:=mg
 base:=base
 A:=A.deeper (envOfC qual scope s.heap.objs.size f cd)
 N:=N
 s₀:=s
 H₀:=H
 env:=envOfC qual scope s.heap.objs.size f cd
 outer:=outer
 stack:=envOfC qual scope s.heap.objs.size f cd :: outer
 ex:=[]
 calm:=true
 fn:=fun _=>true
 pn:=[]
 xe:=fun e s'=>wpAny (model P w) (A.deeper (envOfC qual scope s.heap.objs.size f cd)) (leaving (envOfC qual scope s.heap.objs.size f cd) e) (fun _ s''=>CX outer H s E e s'') (fun e' s''=>CX outer H s E e' s'') s'
def zjo {sc:Scope} {n:Nat} {x:Str} (h:sc.names.lookup x=some .cell):∃ c,(cellsFrom n sc.names []).lookup x=some c:=by
 have q:=W.cellsFrom_some sc.names n [] (.inl h); exact YH.mp q
def zeV {CX:CXT} {P:Program} {w:World} {K:W.Frag} {mg:Str->Option Value} {base:Heap} {N ps:List Str} {qual:Str} {scope:Scope} {f:Addr} {cd:Value} {A:Around} {outer:List Env} {s s1:Shared} {H:Hp} {E:XK} {us:List Value} {vs:List V}
  (S:FnScope N ps scope) (hd:A.handled=none) (e0:Env0 P w K mg base A outer s H) (hl:vs.length=ps.length) (r:zah vs us)
  (x:InCallC s s.heap.objs.size (bindL (envOfC qual scope s.heap.objs.size f cd).kindOf (ps.zip us) fun _=>none) (cellsFrom (s.heap.objs.size+1) scope.names []) (bindC (envOfC qual scope s.heap.objs.size f cd).kindOf (ps.zip us) fun _=>none) s1) :
  Inv (zdy CX P w K mg base N qual scope f cd A outer s H E) [] (start N vs) H s1:=by
 have hpl:ps.length<=N.length:=by have:=yi List.length S.pre; rw [YJ] at this; omega
 obtain ⟨h1,tk,rfl,hk⟩:=x.done
 have noA:∀ b:Addr,b ∉ (zdy CX P w K mg base N qual scope f cd A outer s H E).ex:=fun b z=>yN (show b ∈ ([]:List Addr) from z) (by simp)
 refine ⟨⟨e0.mod,S.kind,rfl,rfl,yD _,fun y z c h1 h2=>?_,fun y hy=>?_,fun y c _ h=>?_,fun _=>hd,Around.frames_deeper e0.frames,.inr ⟨rfl,rfl⟩,fun b z=>yN z (noA b),e0.bs,e0.bsz,fun b _ _=>noA b,fun b z=>yN z (noA b),e0.funs,e0.frf,e0.tab⟩,
  rfl,e0.bare,Un.kept hk,⟨_,x.toInCall.ns,fun i y v h1 h2 h3=>?_⟩,fun y c h=>⟨_,x.cell y c h⟩,e0.hok.fresh (yD _),fun y c h=>?_,fun p hp=>yN (show p ∈ ([]:yyL) from hp) (by simp),e0.hok.kept hk,?_⟩
 ·exact name_of_addr x.apart (Yh h1) (Yh h2)
 ·have hy:scope.names.lookup y=some .cell\/scope.names.lookup y=some .free:=hy
  rcases hy with hy | hy
  ·exact zjo hy
  ·exact yN rfl (S.nofree _ (Yh hy))
 ·exact Nat.le_of_lt (x.above y c (Yh h))
 ·have hi:i<vs.length:=by
   unfold start at h2
   by_cases hi:i<vs.length
   ·exact hi
   ·rw [yz (by simpa using hi)] at h2
    rw [List.getElem?_replicate] at h2
    split at h2 <;> cases h2
  have ha:vs[i]?=some v:=by
   unfold start at h2
   rw [yn (by simpa using hi),yH] at h2
   cases e:vs[i]? with
   | none=>rw [e] at h2; cases h2
   | some a=>rw [e] at h2; cases h2; rfl
  obtain ⟨u,hu,rv⟩:=r.get ha
  have hp:ps[i]?=some y:=by
   rw [<- S.pre,List.getElem?_take_of_lt (by omega)]; exact h1
  have ndP:ps.Nodup:=by rw [<- S.pre]; exact S.nd.sublist (List.take_sublist _ _)
  refine ⟨u,rv,?_⟩
  rcases S.par y (yf hp) with k | k
  ·exact .inl ⟨k,zhr ndP hp hu k⟩
  ·obtain ⟨c,e⟩:=zjo (n:=s.heap.objs.size+1) k
   refine .inr ⟨.inl k,c,e,?_⟩; have q:=x.cell y c e
   rw [zht ndP hp hu (by show scope.names.lookup y≠_; rw [k]; decide)] at q
   exact q
 ·exact e0.hok.fresh (Nat.le_of_lt (x.above y c (Yh h)))
 ·unfold start
  show _=N.length
  rw [yV,yE,List.length_replicate]; omega
def zqL {CX:CXT} {P:Program} {w:World} {K:W.Frag} {mg:Str->Option Value} {base:Heap} {k:Nat} {f:Addr} {name qual:Str} {params:Arguments} {body:List Stmt} {scope:Scope} {dV kV doc pm cdv ct oc:Value} {an od:Option Addr}
  {osl:Array (Option Value)} {N ps:List Str} {sp:Sp} (lk:K.lookup f=some ⟨oc,od,.func (W.fnOf name qual params body scope dV kV doc pm an cdv ct),osl⟩) (hcd:W.codeIn K cdv qual=true) (S:FnScope N ps scope)
  (len:∀ vs H Q E,sp vs H Q E->vs.length=ps.length)
  (hbody:∀ (A:Around) (outer:List Env) (s:Shared) (H:Hp) (vs:List V) (Q:VK) (E:XK),Room k (A.deeper (envOfC qual scope s.heap.objs.size f cdv))->sp vs H Q E ->
   ∃ t,PSs (zdy CX P w K mg base N qual scope f cdv A outer s H E) body t/\t { nx:=fun _ H'=>Q .non H',rt:=Q } (start N vs) H) :
  FnOk P w K mg base CX (k+1) f (W.fnOf name qual params body scope dV kV doc pm an cdv ct) ps sp:=by
 refine ⟨len,fun A outer s H args us vs Q E hr e0 hb r hsp=>?_⟩
 have hl:=len _ _ _ _ hsp
 have KX:K.In s.heap:=e0.mod.kin.keeps fun b o e=>(e0.bs b o e).1
 have lim:s.heap.NoLimit:=e0.mod.nolimit.keeps fun b o e=>(e0.bs b o e).1
 have hkind:∀ y ∈ ps.zip us,scope.names.lookup y.1=some .local\/(scope.names.lookup y.1=some .cell/\((cellsFrom (s.heap.objs.size+1) scope.names []).lookup y.1).isSome=true):=fun ⟨n,v⟩ hy=>by
  rcases S.par n (List.of_mem_zip hy).1 with q | q
  ·exact .inl q
  ·exact .inr ⟨q,W.cellsFrom_some _ _ _ (.inl q)⟩
 refine codeAny_call_function hr.depth (KX _ _ lk) rfl S.co S.gen rfl (W.codeRec_of KX hcd) (hb _ _ _ _ ?_)
 refine wpAny_newFunctionEnv_cells S.kind hkind fun env he s1 x=>?_
 subst he; refine ⟨lim.keeps x.toInCall.keep,codeAny_func ?_⟩; obtain ⟨t,ht,hq⟩:=hbody A outer s H vs Q E (hr.deeper _) hsp
 have I:Inv (zdy CX P w K mg base N qual scope f cdv A outer s H E) [] (start N vs) H s1:=zeV S hr.hd e0 hl r x
 refine yp (ht [] s1 (start N vs) H _ I hq) (fun fl s' hs=>?_) fun e s' hs=>hs
 have fin:∀ {σ':St} {H':Hp} {v:V} {u:Value},Inv (zdy CX P w K mg base N qual scope f cdv A outer s H E) [] σ' H' s'->zaw v u->Q v H'->CE outer P w H s Q u s' :=
  fun {σ' H' v u} J rv q=>⟨v,H',J.os,J.bare,J.base,J.hok,rv,q⟩
 cases fl with
 | ret u =>
  obtain ⟨v,σ',H',J,rv,q⟩:=hs; exact fin J rv q
 | next =>
  obtain ⟨σ',H',J,q⟩:=hs; exact fin (v:=V.non) (u:=Value.none) J rfl q
 | brk =>
  obtain ⟨_,_,_,q⟩:=hs; exact False.elim q
 | cont =>
  obtain ⟨_,_,_,q⟩:=hs; exact False.elim q
section
variable {X:Cx} {x:Str} {p pos:Pos} {e:Expr} {es:List Expr} {t:TA} {id T:String} {r:List V->Hp->VK->Prop}
def tCB (r:List V->Hp->VK->Prop) (t:TA):TE:=fun σ H Q=>t σ H fun vs H1=>r vs H1 Q
def znu (hc:zb6 X (.builtin id) r) (hg:Gl X x) (hm:X.mg x=none) (hv:bootBuiltins x=some (.builtin id)) (ha:PA X (e :: es) t) (hn:x≠"__name__":=by decide) (hdb:yyD x:=by decide)
  (he:starEach (e :: es) X.env=(false,eval e X.env) :: starEach es X.env:=by rfl) (hpl:(backTo pos (starEach es X.env)).any (·.1)=false:=by rfl):PE X (.Call (.Name x p) (e :: es) [] pos) (tCB r t):=by
 intro pins s σ H Q I h; refine YT (zdr I hg hm hv ?_ hn hdb)
 exact PyProof.Rows.callWith_builtin1 (thn (ha pos pins s σ H _ I h) fun us s1 ⟨vs,H1,I1,r1,q1⟩=>hc pins s1 σ H1 vs us Q I1 r1 q1) he hpl
def zgK (hc:zb6 X (.type T) r) (hg:Gl X x) (hm:X.mg x=none) (hv:bootBuiltins x=some (.type T)) (ha:PA X (e :: es) t) (hn:x≠"__name__":=by decide) (hdb:yyD x:=by decide)
  (he:starEach (e :: es) X.env=(false,eval e X.env) :: starEach es X.env:=by rfl) (hpl:(backTo pos (starEach es X.env)).any (·.1)=false:=by rfl):PE X (.Call (.Name x p) (e :: es) [] pos) (tCB r t):=by
 intro pins s σ H Q I h; refine YT (zdr I hg hm hv ?_ hn hdb)
 exact YV (thn (ha pos pins s σ H _ I h) fun us s1 ⟨vs,H1,I1,r1,q1⟩=>hc pins s1 σ H1 vs us Q I1 r1 q1) he hpl
end
end L2
variable {X:L2.Cx} {prog:PySem.Program} {P:PySem.Program} {w:PySem.World} {K:PySem.W.Frag} {mg:PySem.Str->Option PySem.Value} {base:PySem.Heap} {A:PySem.Around} {E:PySem.Value->PySem.Shared->Prop} {s:PySem.Shared} {pins:List (PySem.Addr × PySem.Obj)} {σ:L2.St} {H:L2.Hp}
namespace HT
open PySem PyProof.Rows
section
open PySem.SeqAt
open PySem.AutoSeq1 (wpAny_loadPart')
open PySem.MeetsSeq PySem.MeetsSeq2 PySem.MeetsSeq3
end
section
def cat_tup {t b:Addr} {vs ws:List Value} {Q:Value->Shared->Prop} (ht:IsTup s.heap t vs.toArray) (hb:IsTup s.heap b ws.toArray) (hv:vs≠[])
  (h1:ws=[]->Q (.ref t) s) (h2:ws≠[]->Q (.ref s.heap.objs.size) { s with heap:=s.heap.push { cls:=.type "tuple",data:=.seq (vs ++ ws).toArray } })
  (hsz:vs.length+ws.length<=sizeLine):wpAny (model prog w) A (binaryOp .Add (.ref t) (.ref b)) Q E s:=by
 obtain ⟨⟨cls,dd,data,sl⟩,ho,hc,n,hd⟩:=id ht
 obtain ⟨⟨cls2,dd2,data2,sl2⟩,ho2,hc2,n2,hd2⟩:=id hb
 simp only at hc hd hc2 hd2
 subst hc hd hc2 hd2
 have e:vs.toArray ++ ws.toArray=(vs ++ ws).toArray:=by simp
 by_cases hw:ws=[]
 ·exact concat_meets ⟨_,ho,rfl⟩ ⟨_,ho2,rfl⟩ noFill_tuple_add seq_tuple_add PySem.F.slot_tuple_add PySem.F.entry_tuple_add (PySem.F.args_tuple_add_2 _ _)
   (tuple_addW1 t b vs.toArray ws.toArray n n2 dd dd2 sl sl2 (by simpa using hv) (by simp [hw])) ⟨ho,ho2,h1 hw⟩
 ·refine concat_meets ⟨_,ho,rfl⟩ ⟨_,ho2,rfl⟩ noFill_tuple_add seq_tuple_add PySem.F.slot_tuple_add PySem.F.entry_tuple_add (PySem.F.args_tuple_add_2 _ _)
   (tuple_addW2 t b vs.toArray ws.toArray n n2 dd dd2 sl sl2 (by simpa using hv) (by simpa using hw) (by rw [yQ,yQ]; exact hsz)) ⟨ho,ho2,?_⟩
  rw [e]; exact h2 hw
def sIx (n d:Nat):Option Int->Nat
 | none=>d
 | some v=>if v<0 then (v+(n:Int)).toNat else min v.toNat n
def sIx_none (n d:Nat):sIx n d none=d:=rfl
def sIx_nat (n d k:Nat):sIx n d (some (k:Int))=min k n:=by
 show (if (k:Int)<0 then ((k:Int)+(n:Int)).toNat else min (k:Int).toNat n)=min k n
 rw [yK (by omega),JH]
def zrR (n d:Nat) (hd:d<=n) (o:Option Int):sIx n d o<=n:=by
 cases o with
 | none=>exact hd
 | some v =>
  show (if v<0 then (v+(n:Int)).toNat else min v.toNat n)<=n
  by_cases hv:v<0
  ·rw [yM hv]; omega
  ·rw [yK hv]; exact Nat.min_le_right _ _
def zmh (v:Int) (n d:Nat):(if v<0 then max (v+(n:Int)) 0 else min v (n:Int))=((sIx n d (some v):Nat):Int):=by
 show (if v<0 then max (v+(n:Int)) 0 else min v (n:Int))=(((if v<0 then (v+(n:Int)).toNat else min v.toNat n):Nat):Int)
 by_cases hv:v<0
 ·simp only [yM hv]; omega
 ·simp only [yK hv]; omega
def zka (lo hi:Option Int) (n:Nat):Builtin.Slice.sliceAdjust lo hi 1 (n:Int)=(((sIx n 0 lo:Nat):Int),((sIx n n hi:Nat):Int)):=by
 have h1:¬ ((1:Int)<0):=by omega
 unfold Builtin.Slice.sliceAdjust; simp only [h1,if_false]; refine Prod.ext ?_ ?_
 ·cases lo with
  | none=>rfl
  | some v=>exact zmh v n 0
 ·cases hi with
  | none=>rfl
  | some v=>exact zmh v n n
def zjK (i j:Nat):Builtin.Slice.slicePlaces (i:Int) (j:Int) 1=j-i:=by
 unfold Builtin.Slice.slicePlaces
 have h1:(1:Int) > 0:=by omega
 simp only [h1,if_true,Int.ediv_one]
 split <;> omega
def zfi {v:Value} {o:Option Int} {Q:Option Int->Shared->Prop} (p:IsPart v o) (h:Q o s):wpAny (model prog w) A (Builtin.Slice.slicePartIndex v) Q E s:=by
 cases p with
 | none=>exact slicePart_none h
 | int i t=>exact slicePart_int h
def zb8 {sl:Addr} {vl vu:Value} {lo hi:Option Int} {n:Nat} {Q:Int × Int × Nat->Shared->Prop} (hs:s.heap.IsSliceOf sl vl vu .none) (pl:IsPart vl lo) (pu:IsPart vu hi)
  (h:Q (((sIx n 0 lo:Nat):Int),1,sIx n n hi-sIx n 0 lo) s):wpAny (model prog w) A (Builtin.Slice.sliceApplied (.ref sl) (pure (n:Int))) Q E s:=by
 obtain ⟨os,hos,hcs,hds⟩:=id hs; unfold Builtin.Slice.sliceApplied Builtin.Slice.sliceFields; refine yA (yA (YK hos hds (x:=vl) rfl (yA (YK hos hds (x:=vu) rfl (yA (YK hos hds (x:=.none) rfl (yF ?_))))))); refine yA (slicePart_none ?_)
 show wpAny _ _ (if ((1:Int) == 0)=true then _ else _) _ _ s
 rw [yK (by decide)]
 refine yA (zfi pl (yA (zfi pu (yA (yF ?_)))))
 show wpAny _ _ (match Builtin.Slice.sliceAdjust lo hi 1 (n:Int) with | (lo,hi)=>pure (lo,(1:Int),Builtin.Slice.slicePlaces lo hi 1)) _ _ s
 rw [zka lo hi n]
 show wpAny _ _ (pure (((sIx n 0 lo:Nat):Int),(1:Int),Builtin.Slice.slicePlaces ((sIx n 0 lo:Nat):Int) ((sIx n n hi:Nat):Int) 1)) _ _ s
 rw [zjK]; exact yF h
def znj (xs:Array Value) (i k:Nat):((List.range k).filterMap fun (m:Nat)=>xs[((i:Int)+(m:Int) * 1).toNat]?).toArray=((xs.toList.drop i).take k).toArray:=by
 have e:(fun (m:Nat)=>xs[((i:Int)+(m:Int) * 1).toNat]?)=fun m=>xs[i+m]?:=by
  funext m
  have:((i:Int)+(m:Int) * 1).toNat=i+m:=by omega
  rw [this]
 rw [e]
 have:=pick_run xs i k
 rw [List.filterMap_map] at this
 have e2:((fun x=>xs[x]?) ∘ fun x=>i+x)=fun m=>xs[i+m]?:=rfl
 rw [e2] at this; rw [this]
def getItem_tuple_cut {t sl:Addr} {items:Array Value} {vl vu:Value} {lo hi:Option Int} {Q:Value->Shared->Prop} (ht:IsTup s.heap t items) (hs:s.heap.IsSliceOf sl vl vu .none) (pl:IsPart vl lo) (pu:IsPart vu hi)
  (hw:¬ (sIx items.size 0 lo=0/\sIx items.size items.size hi=items.size))
  (h:Q (.ref s.heap.objs.size) { s with heap:=s.heap.push { cls:=.type "tuple",data:=.seq ((items.toList.drop (sIx items.size 0 lo)).take (sIx items.size items.size hi-sIx items.size 0 lo)).toArray } })
  (hsz:items.size<=sizeLine):wpAny (model prog w) A (getItem (.ref t) (.ref sl)) Q E s:=by
 have htake:sizeOk (.seq ((items.toList.drop (sIx items.size 0 lo)).take (sIx items.size items.size hi-sIx items.size 0 lo)).toArray):=by
  show ((items.toList.drop (sIx items.size 0 lo)).take (sIx items.size items.size hi-sIx items.size 0 lo)).toArray.size<=sizeLine
  rw [yQ,YJ,Yj,YC]; omega
 have hj:sIx items.size items.size hi<=items.size:=zrR _ _ (yD _) hi
 obtain ⟨os,hos,hcs,hds⟩:=id hs
 have hTs:s.TypeIs (.ref sl) "slice":=⟨os,hos,hcs⟩
 unfold getItem
 try with_reducible refine YW ?_
 first | refine yA (yF ?_) | skip
 refine yA (wpAny_sequenceKey ht.typeIs (by decide) ?_)
 refine yA (wpAny_callSpecial?_slot (name:=Str.ofString "__getitem__") ht.typeIs Yr
  (YU Yr ht.typeIs entry_tuple_getitem ?_ (args_tuple_getitem _ _)))
 show wpAny _ _ (Builtin.Tuple.tupleItemsOf (.ref t) >>= _) _ _ s
 refine yA (tupleItemsOf_ ht ?_); refine yA (wpAny_typeOf hTs ?_)
 rw [yM (by decide)]
 refine yA (zb8 hs pl pu ?_)
 have hno:¬ ((((sIx items.size 0 lo:Nat):Int) == 0 && (1:Int) == 1 && (sIx items.size items.size hi-sIx items.size 0 lo) == items.size)=true):=by
  intro q; rw [yr,yr] at q
  have q1:((sIx items.size 0 lo:Nat):Int)=0:=eq_of_beq q.1.1
  have q2:sIx items.size items.size hi-sIx items.size 0 lo=items.size:=eq_of_beq q.2
  exact hw ⟨by omega,by omega⟩
 show wpAny _ _ (if (((sIx items.size 0 lo:Nat):Int) == 0 && (1:Int) == 1 && (sIx items.size items.size hi-sIx items.size 0 lo) == items.size)=true then _ else _) _ _ s
 rw [yK hno,znj]
 first
  | exact yA (m:=Builtin.Tuple.tupleExact _) (YD (yF ⟨_,rfl,yF h⟩) htake)
  | exact yA (m:=Builtin.Tuple.tupleExact _) (YD (yA (yF (yF ⟨_,rfl,yF h⟩))) htake)
  | exact yA (yA (m:=Builtin.Tuple.tupleExact _) (YD (yF (yF ⟨_,rfl,yF h⟩)) htake))
  | exact yA (yA (m:=Builtin.Tuple.tupleExact _) (YD (yF ⟨_,rfl,yF h⟩) htake))
end
end HT
namespace L2
open PySem PySem.Spec PyProof.Rows
abbrev TO:=St->Hp->(Option Int->Hp->Prop)->Prop
def PO (X:Cx) (e:Option Expr) (t:TO):Prop :=
 ∀ (pins:yyL) (s:Shared) (σ:St) (H:Hp) (Q:Option Int->Hp->Prop),Inv X pins σ H s->t σ H Q ->
  wpAny (model X.prog X.w) X.A (evalPart e X.env) (fun u s'=>∃ o H',Inv X pins σ H' s'/\IsPart u o/\Q o H') X.xe s
def zpr:TO:=fun _ H Q=>Q none H
def zus (t:TE):TO:=fun σ H Q=>t σ H fun x H1=>∃ i,x=.int i/\Q (some i) H1
section
variable {e:Expr} {te:TE} {lo hi:Option Expr} {tl th:TO} {pos p2:Pos}
def zpS:PO X none zpr:=by
 intro pins s σ H Q I h; rw [evalPart_none]; exact yF ⟨none,H,I,.none,h⟩
def zpR (h:PE X e te):PO X (some e) (zus te):=by
 intro pins s σ H Q I hw; rw [evalPart_some]
 refine thn (h pins s σ H _ I hw) fun u s1 ⟨x,H1,I1,r1,q1⟩=>?_
 obtain ⟨i,rfl,q⟩:=q1; obtain ⟨t,rfl⟩:=r1; exact ⟨some i,H1,I1,.int i t,q⟩
def SlR (X:Cx) (r:V->Option Int->Option Int->Hp->VK->Prop):Prop :=
 ∀ (pins:yyL) (s:Shared) (σ:St) (H:Hp) (x:V) (v vl vu:Value) (lo hi:Option Int) (sl:Addr) (Q:VK),Inv X pins σ H s->zaw x v->s.heap.IsSliceOf sl vl vu .none->IsPart vl lo->IsPart vu hi->r x lo hi H Q ->
  ∃ T id,typeLookup (.type T) "__getitem__"=pure (some (.builtin id))/\s.TypeIs v T/\wpAny (model X.prog X.w) X.A (getItem v (.ref sl)) (EP X pins σ Q) X.xe s
def SlR.or {r r':V->Option Int->Option Int->Hp->VK->Prop} (h:SlR X r) (h':SlR X r'):SlR X (fun x lo hi H Q=>r x lo hi H Q\/r' x lo hi H Q):=by
 intro pins s σ H x v vl vu lo hi sl Q I rx hs pl pu q
 rcases q with q | q
 ·exact h pins s σ H x v vl vu lo hi sl Q I rx hs pl pu q
 ·exact h' pins s σ H x v vl vu lo hi sl Q I rx hs pl pu q
def tSl (r:V->Option Int->Option Int->Hp->VK->Prop) (te:TE) (tl th:TO):TE:=fun σ H Q=>te σ H fun x H1=>tl σ H1 fun l H2=>th σ H2 fun u H3=>r x l u H3 Q
def znn {r:V->Option Int->Option Int->Hp->VK->Prop} (hr:SlR X r) (he:PE X e te) (hl:PO X lo tl) (hu:PO X hi th):PE X (.Subscript e (.Slice lo hi none p2) pos) (tSl r te tl th):=by
 intro pins s σ H Q I h
 refine Subscript_ (thn (he pins s σ H _ I h) fun v s1 ⟨x,H1,I1,r1,q1⟩=>?_)
 refine wpAny_Slice (thn (hl pins s1 σ H1 _ I1 q1) fun vl s2 ⟨l,H2,I2,pl,q2⟩=>thn (hu pins s2 σ H2 _ I2 q2) fun vu s3 ⟨u,H3,I3,pu,q3⟩=>?_)
 rw [evalPart_none]; refine yF ?_
 have I4:Inv X pins σ H3 { s3 with heap:=s3.heap.push { cls:=.type "slice",data:=.fields #[vl,vu,.none] } }:=I3.kept (t':=s3.toks) fun b ob q=>yB _ q
 obtain ⟨T,id,hT,ht,hg⟩:=hr pins { s3 with heap:=s3.heap.push { cls:=.type "slice",data:=.fields #[vl,vu,.none] } } σ H3 x v vl vu l u s3.heap.objs.size Q I4 r1 (Heap.IsSliceOf.new ..) pl pu q3
 show wpAny (model X.prog X.w) X.A (subscriptTail e (.Slice lo hi none p2) v (.ref s3.heap.objs.size)) (EP X pins σ Q) X.xe { s3 with heap:=s3.heap.push { cls:=.type "slice",data:=.fields #[vl,vu,.none] } }
 exact tail_any (ops:=[.ref s3.heap.objs.size,v]) ht hT hg (by with_unfolding_all rfl)
def zmb (xs:List V) (lo hi:Option Int):List V:=(xs.drop (HT.sIx xs.length 0 lo)).take (HT.sIx xs.length xs.length hi-HT.sIx xs.length 0 lo)
def ze4 (xs:List V) (lo hi:Option Int):(zmb xs lo hi).length<=xs.length:=by
 unfold zmb; rw [YJ,Yj]; omega
def zwj (K:W.Frag):V->Option Int->Option Int->Hp->VK->Prop:=fun x lo hi H Q=>∃ a xs,x=.ref a/\SqT K H a xs /\
 ¬ (HT.sIx xs.length 0 lo=0/\HT.sIx xs.length xs.length hi=xs.length)/\∀ p,H p=none->Q (.ref p) (upd H p (.tup (zmb xs lo hi)))
def zrO:SlR X (zwj X.K):=by
 intro pins s σ H x v vl vu lo hi sl Q I rx hs pl pu h; obtain ⟨a,xs,rfl,hx,hw,q⟩:=h; cases rx; obtain ⟨its,r,ht,hz⟩:=I.tuple hx
 have hlen:its.toArray.size=xs.length:=by rw [yQ]; exact r.length.symm
 refine ⟨"tuple",_,PyProof.Rows.slot_tuple_getitem.lookup,ht.typeIs,?_⟩
 refine HT.getItem_tuple_cut ht hs pl pu (by rw [hlen]; exact hw) ?_ (by rw [hlen]; exact hz)
 rw [hlen]
 refine ⟨.ref s.heap.objs.size,_,I.laid (t':=s.toks) (o:=.tup (zmb xs lo hi)) (fun b ob q=>yB _ q) (yD _) ?_,rfl,q _ (I.hok.fresh (yD _))⟩
 exact ⟨yq (ze4 xs lo hi) hz,_,(r.drop (HT.sIx xs.length 0 lo)).take (HT.sIx xs.length xs.length hi-HT.sIx xs.length 0 lo),IsTup.new _ _⟩
def zuQ (K:W.Frag):R2:=fun x y H Q=>∃ a b xs ys,x=.ref a/\y=.ref b/\SqT K H a xs/\SqT K H b ys/\xs≠[]/\xs.length+ys.length<=sizeLine /\
 (ys=[]->Q (.ref a) H)/\(ys≠[]->∀ p,H p=none->Q (.ref p) (upd H p (.tup (xs ++ ys))))
def zah.nil_iff {xs:List V} {us:List Value} (r:zah xs us):us=[]↔xs=[]:=by
 cases r with
 | nil=>simp
 | cons _ _=>simp
def zqg:OpR X (binaryOp .Add) (zuQ X.K):=by
 intro pins s σ H x y v u Q I rx ry h; obtain ⟨a,b,xs,ys,rfl,rfl,ha,hb,hx,hz,q1,q2⟩:=h; cases rx; cases ry; obtain ⟨its,r1,p1,_⟩:=I.tuple ha; obtain ⟨its2,r2,p2,_⟩:=I.tuple hb
 refine HT.cat_tup p1 p2 (fun z=>hx (r1.nil_iff.mp z)) (fun z=>⟨.ref a,H,I,rfl,q1 (r2.nil_iff.mp z)⟩) (fun z=>?_) (by rw [<- r1.length,<- r2.length]; exact hz)
 refine ⟨.ref s.heap.objs.size,_,I.laid (t':=s.toks) (o:=.tup (xs ++ ys)) (fun b ob q=>yB _ q) (yD _) ?_,rfl,q2 (fun w=>z (r2.nil_iff.mpr w)) _ (I.hok.fresh (yD _))⟩
 exact ⟨by rw [yV]; exact hz,_,r1.append r2,IsTup.new _ _⟩
end
def ixN (n:Nat) (i:Int):Option Nat:=if 0<=i then (if i<n then some i.toNat else none) else if -(n:Int)<=i then some (i+n).toNat else none
def atI {α:Type} (xs:List α) (i:Int):Option α:=(ixN xs.length i).bind fun j=>xs[j]?
def zqG {n:Nat} {i:Int} {j:Nat} (h:ixN n i=some j):seqIndex? i n=some j/\j<n/\-(n:Int)<=i/\i<n:=by
 unfold ixN at h
 by_cases h0:0<=i
 ·rw [yM h0] at h
  by_cases h1:i<n
  ·rw [yM h1] at h
   have e:i.toNat=j:=Option.some.inj h
   exact ⟨by rw [seqIndex_of h0 h1,e],by omega,by omega,h1⟩
  ·rw [yK h1] at h; cases h
 ·rw [yK h0] at h
  by_cases h1:-(n:Int)<=i
  ·rw [yM h1] at h
   have e:(i+n).toNat=j:=Option.some.inj h
   exact ⟨by rw [seqIndex_neg (by omega) h1,e],by omega,h1,by omega⟩
  ·rw [yK h1] at h; cases h
def zii {α:Type} {xs:List α} {i:Int} {v:α} (h:atI xs i=some v):∃ j,seqIndex? i xs.length=some j/\xs[j]?=some v/\j<xs.length/\-(xs.length:Int)<=i/\i<xs.length:=by
 unfold atI at h
 cases e:ixN xs.length i with
 | none=>rw [e] at h; cases h
 | some j =>
  rw [e] at h; obtain ⟨h1,h2,h3,h4⟩:=zqG e; exact ⟨j,h1,h,h2,h3,h4⟩
def zdT {α:Type} {xs:List α} {j:Nat} {v:α} (h:xs[j]?=some v):atI xs (j:Int)=some v:=by
 have hj:j<xs.length:=(yG.mp h).1
 have e:ixN xs.length (j:Int)=some j:=by
  unfold ixN
  rw [yM (by omega),yM (by omega)]; simp
 unfold atI; rw [e]; exact h
def zjp {α:Type} (xs:List α) (v:α):atI (xs ++ [v]) (-1)=some v:=by
 have hl:(xs ++ [v]).length=xs.length+1:=by simp
 have e:ixN (xs ++ [v]).length (-1)=some xs.length:=by
  unfold ixN
  rw [hl,yK (by decide),yM (by omega)]
  congr 1
  omega
 unfold atI; rw [e]
 show (xs ++ [v])[xs.length]?=some v
 simp
def zmq (b:Expr):Prop:=∀ o i,subscripted b false o i=operate [o,i] (getItem o i)
def IxR (X:Cx) (r:R2):Prop :=
 ∀ (value slice:Expr) (pins:yyL) (s:Shared) (σ:St) (H:Hp) (x y:V) (v u:Value) (Q:VK),Inv X pins σ H s->zaw x v->zaw y u->r x y H Q ->
  subscripted slice false v u=operate [v,u] (getItem v u)->wpAny (model X.prog X.w) X.A (subscriptTail value slice v u) (EP X pins σ Q) X.xe s
def MtR (X:Cx) (id:String) (r:V->List V->Hp->VK->Prop):Prop :=
 ∀ (pins:yyL) (s:Shared) (σ:St) (H:Hp) (x:V) (xs:List V) (v:Value) (us:List Value) (Q:VK),Inv X pins σ H s->zaw x v->zah xs us->r x xs H Q ->
  wpAny (model X.prog X.w) X.A (call (.builtin id) (v :: us)) (EP X pins σ Q) X.xe s
section
variable {a b:Expr} {ta tb:TE} {pos:Pos}
def IxR.or {r r':R2} (h:IxR X r) (h':IxR X r'):IxR X (fun x y H Q=>r x y H Q\/r' x y H Q):=by
 intro value slice pins s σ H x y v u Q I rx ry q hs
 rcases q with q | q
 ·exact h value slice pins s σ H x y v u Q I rx ry q hs
 ·exact h' value slice pins s σ H x y v u Q I rx ry q hs
def zuX {r:R2} (hr:IxR X r) (ha:PE X a ta) (hb:PE X b tb) (hs:zmq b):PE X (.Subscript a b pos) (tOp r ta tb):=by
 intro pins s σ H Q I h
 exact Subscript_ (zvz ha hb I h fun v u s2 x y H2 I2 rx ry q=>hr a b pins s2 σ H2 x y v u Q I2 rx ry q (hs _ _))
def zvO (K:W.Frag):R2:=fun x y H Q=>∃ p xs i v,x=.ref p/\y=.int i/\SqL K H p xs/\atI xs i=some v/\Q v H
def zvM (K:W.Frag):R2:=fun x y H Q=>∃ p xs i v,x=.ref p/\y=.int i/\SqT K H p xs/\atI xs i=some v/\Q v H
def zvN:R2:=fun x y H Q=>∃ z i c,x=.str z/\y=.int i/\z.length<=sizeLine/\atI z.cps.toList i=some c/\Q (.str ⟨#[c]⟩) H
def zqE:IxR X (zvO X.K):=by
 intro value slice pins s σ H x y v u Q I rx ry h hs; obtain ⟨p,xs,i,z,rfl,rfl,hq,he,q⟩:=h; cases rx; obtain ⟨t,rfl⟩:=ry; obtain ⟨its,r,pl,hz⟩:=I.list hq; obtain ⟨j,h1,h2,h3,h4,h5⟩:=zii he; obtain ⟨w,ew,rw'⟩:=r.get h2; have hl:=r.length; have hn:=zgX
 have fin:EP X pins σ Q w s:=⟨z,H,I,rw',q⟩
 by_cases h0:0<=i
 ·have hj:i.toNat=j:=by
   rw [seqIndex_of h0 h5] at h1; exact Option.some.inj h1
  exact item_listR pl.isList h0 (by omega) (by rw [hj]; simpa using ew) fin hs
 ·have hj:(i+(its.toArray.size:Int)).toNat=j:=by
   rw [seqIndex_neg (by omega) h4] at h1
   rw [yQ,<- hl]; exact Option.some.inj h1
  exact subscriptTail_builtinR (x:=w) pl.isList.typeIs slot_list_getitem.lookup
   (wpAny_getItem_list_neg (Q:=fun r s'=>r=w/\EP X pins σ Q r s') pl.isList (by omega) (by rw [yQ] <;> omega) (by omega) (by rw [hj]; simpa using ew) ⟨rfl,fin⟩) hs
def zs3:IxR X (zvM X.K):=by
 intro value slice pins s σ H x y v u Q I rx ry h hs; obtain ⟨p,xs,i,z,rfl,rfl,hq,he,q⟩:=h; cases rx; obtain ⟨t,rfl⟩:=ry; obtain ⟨its,r,pl,hz⟩:=I.tuple hq; obtain ⟨j,h1,h2,h3,h4,h5⟩:=zii he; obtain ⟨w,ew,rw'⟩:=r.get h2; have hl:=r.length; have hn:=zgX
 have fin:EP X pins σ Q w s:=⟨z,H,I,rw',q⟩
 exact subscriptTail_builtinR (x:=w) pl.typeIs slot_tuple_getitem.lookup
  (getItem_tuple (j:=j) (Q:=fun r s'=>r=w/\EP X pins σ Q r s') pl (by omega) (by omega) (by rw [yQ,<- hl]; exact h1) (by simpa using ew) ⟨rfl,fin⟩) hs
def zs4:IxR X zvN:=by
 intro value slice pins s σ H x y v u Q I rx ry h hs; obtain ⟨z,i,c,rfl,rfl,hz,he,q⟩:=h; obtain ⟨t,rfl⟩:=rx; obtain ⟨t',rfl⟩:=ry; obtain ⟨j,h1,h2,h3,h4,h5⟩:=zii he
 have hl:z.cps.toList.length=z.length:=by simp [Str.length]
 rw [hl] at h1 h4 h5; have hn:=zgX
 exact tail_any (typeIs_str s z t) slot_str_getitem.lookup (getItem_str (c:=c) (by
  have e1:decide (i< -(2 ^ 63:Int))=false:=yg (by omega)
  have e2:decide (i >= 2 ^ 63)=false:=yg (by omega)
  rw [e1,e2,Bool.or_false]) (by rw [h1]; simpa using h2) ⟨.str ⟨#[c]⟩,H,I.tok _,⟨_,rfl⟩,q⟩) hs
def rIx (K:W.Frag):R2:=fun x y H Q=>zvO K x y H Q\/zvM K x y H Q\/zvN x y H Q
def zs5:IxR X (rIx X.K):=zqE.or (zs3.or zs4)
def zgz (lo hi:Option Int) (n:Nat):(sliceBounds lo hi none n).1=((HT.sIx n 0 lo:Nat):Int)/\(sliceBounds lo hi none n).2.1=((HT.sIx n n hi:Nat):Int)/\(sliceBounds lo hi none n).2.2=1:=by
 refine ⟨?_,?_,rfl⟩
 ·cases lo with
  | none=>simp [sliceBounds,HT.sIx]
  | some i =>
   simp only [sliceBounds,HT.sIx,Option.getD_none,show (1:Int) > 0 by decide,if_true]
   by_cases h:i<0
   ·simp only [h,if_true] <;> omega
   ·simp only [h,if_false] <;> omega
 ·cases hi with
  | none=>simp [sliceBounds,HT.sIx]
  | some i =>
   simp only [sliceBounds,HT.sIx,Option.getD_none,show (1:Int) > 0 by decide,if_true]
   by_cases h:i<0
   ·simp only [h,if_true] <;> omega
   ·simp only [h,if_false] <;> omega
def zfO (its:List Value) (lo hi:Option Int):slicePick its.toArray lo hi none=((its.drop (HT.sIx its.length 0 lo)).take (HT.sIx its.length its.length hi-HT.sIx its.length 0 lo)).toArray:=by
 obtain ⟨h1,h2,h3⟩:=zgz lo hi its.toArray.size; unfold slicePick; rw [h1,h2,h3]
 simp only [sliceRange_one,pick_run,yQ] <;> rfl
def zwl (K:W.Frag):V->Option Int->Option Int->Hp->VK->Prop:=fun x lo hi H Q=>∃ a xs,x=.ref a/\SqL K H a xs/\∀ p,H p=none->Q (.ref p) (upd H p (.lst (zmb xs lo hi)))
def zpx:SlR X (zwl X.K):=by
 intro pins s σ H x v vl vu lo hi sl Q I rx hs pl pu h; obtain ⟨a,xs,rfl,hx,q⟩:=h; cases rx; obtain ⟨its,r,ht,hz⟩:=I.list hx; have hlen:=r.length; refine ⟨"list",_,slot_list_getitem.lookup,ht.isList.typeIs,?_⟩
 refine wpAny_getItem_list_slice ht.isList hs pl pu .none (by simp) ?_ (by rw [yQ] <;> omega)
 rw [zfO,<- hlen]
 refine ⟨.ref s.heap.objs.size,_,I.laid (t':=s.toks) (o:=.lst (zmb xs lo hi)) (fun b ob q=>yB _ q) (yD _) ?_,rfl,q _ (I.hok.fresh (yD _))⟩
 exact ⟨yq (ze4 xs lo hi) hz,_,0,(r.drop (HT.sIx xs.length 0 lo)).take (HT.sIx xs.length xs.length hi-HT.sIx xs.length 0 lo),yJ _ rfl⟩
def ze0:V->Bool
 | .non=>true
 | .bl _=>true
 | .int _=>true
 | .str _=>true
 | _=>false
def eqV:V->V->Bool
 | .non,.non=>true
 | .bl a,.bl b=>a == b
 | .bl a,.int b=>(if a then 1 else 0) == b
 | .int a,.bl b=>a == (if b then 1 else 0)
 | .int a,.int b=>a == b
 | .str a,.str b=>a == b
 | _,_=>false
def zlU {A:Around} {s:Shared} {y x:V} {u v:Value} (ry:zaw y u) (rx:zaw x v) (fy:ze0 y=true) (fx:ze0 x=true):SeqAt.EqAt A s u v (eqV y x):=by
 cases y with
 | non =>
  cases ry
  cases x with
  | non=>cases rx; exact SeqAt.EqAt.same _
  | bl b=>cases rx; exact SeqAt.EqAt.none_bool b
  | int b=>obtain ⟨t,rfl⟩:=rx; exact SeqAt.EqAt.none_int b t
  | str b=>obtain ⟨t,rfl⟩:=rx; exact SeqAt.EqAt.none_str b t
  | _=>exact yN (show false=true from fx) yO
 | bl a =>
  cases ry
  cases x with
  | non=>cases rx; exact SeqAt.EqAt.bool_none a
  | bl b=>cases rx; exact SeqAt.EqAt.bool_bool a b
  | int b=>obtain ⟨t,rfl⟩:=rx; exact SeqAt.EqAt.bool_int a b t
  | str b=>obtain ⟨t,rfl⟩:=rx; exact SeqAt.EqAt.bool_str a b t
  | _=>exact yN (show false=true from fx) yO
 | int a =>
  obtain ⟨t',rfl⟩:=ry
  cases x with
  | non=>cases rx; exact SeqAt.EqAt.int_none a t'
  | bl b=>cases rx; exact SeqAt.EqAt.int_bool a t' b
  | int b=>obtain ⟨t,rfl⟩:=rx; exact SeqAt.EqAt.int_int a t' b t
  | str b=>obtain ⟨t,rfl⟩:=rx; exact SeqAt.EqAt.int_str a t' b t
  | _=>exact yN (show false=true from fx) yO
 | str a =>
  obtain ⟨t',rfl⟩:=ry
  cases x with
  | non=>cases rx; exact SeqAt.EqAt.str_none a t'
  | bl b=>cases rx; exact SeqAt.EqAt.str_bool a t' b
  | int b=>obtain ⟨t,rfl⟩:=rx; exact SeqAt.EqAt.str_int a t' b t
  | str b=>obtain ⟨t,rfl⟩:=rx; exact SeqAt.EqAt.str_str a t' b t
  | _=>exact yN (show false=true from fx) yO
 | _=>exact yN (show false=true from fy) yO
def eqU (x:V) (u:Value):Bool:=match u with
 | .none=>eqV .non x
 | .bool b=>eqV (.bl b) x
 | .int i _=>eqV (.int i) x
 | .str z _=>eqV (.str z) x
 | _=>false
def zoY {x y:V} {u:Value} (r:zaw y u) (f:ze0 y=true):eqU x u=eqV y x:=by
 cases y with
 | non=>cases r; rfl
 | bl b=>cases r; rfl
 | int i=>obtain ⟨t,rfl⟩:=r; rfl
 | str z=>obtain ⟨t,rfl⟩:=r; rfl
 | _=>exact yN (show false=true from f) yO
theorem ze7 {x:V}:∀ {xs:List V} {us:List Value},zah xs us->xs.all ze0=true->us.any (eqU x)=xs.any fun y=>eqV y x
 | _,_,.nil,_=>rfl
 | y :: xs,u :: us,.cons r t,f=>by
  rw [List.all_cons,yr] at f; rw [List.any_cons,List.any_cons,zoY r f.1,ze7 t f.2]
theorem zdq {A:Around} {s:Shared} {x:V} {v:Value} (rx:zaw x v) (fx:ze0 x=true):∀ {xs:List V} {us:List Value},zah xs us->xs.all ze0=true->∀ u ∈ us,SeqAt.EqAt A s u v (eqU x u)
 | _,_,.nil,_=>fun u hu=>by cases hu
 | y :: xs,u :: us,.cons r t,f=>fun u' hu=>by
  rw [List.all_cons,yr] at f
  rcases yP.mp hu with rfl | hu
  ·rw [zoY r f.1]; exact zlU r rx f.1 fx
  ·exact zdq rx fx t f.2 u' hu
def inV (x:V) (xs:List V):Bool:=xs.any fun y=>eqV y x
def rIn (K:W.Frag) (neg:Bool):R2:=fun x y H Q=>∃ p xs,y=.ref p/\(SqL K H p xs\/SqT K H p xs)/\ze0 x=true/\xs.all ze0=true/\Q (.bl (if neg then !inV x xs else inV x xs)) H
def zlf:OpR X (compareOp .In) (rIn X.K false):=by
 intro pins s σ H x y v u Q I rx ry h; obtain ⟨p,xs,rfl,hq,fx,fs,q⟩:=h; cases ry
 rcases hq with hq | hq
 ·obtain ⟨its,r,pl,hz⟩:=I.list hq
  refine SeqAt.in_listAt (eqU x) pl.isList (fun w hw=>zdq rx fx r fs w (by simpa using hw)) ⟨.bl _,H,I,rfl,?_⟩
  rw [show its.toArray.any (eqU x)=its.any (eqU x) by simp,ze7 r fs]
  exact q
 ·obtain ⟨its,r,pl,hz⟩:=I.tuple hq
  refine SeqAt.in_tupleAt (eqU x) pl (fun w hw=>zdq rx fx r fs w (by simpa using hw)) ⟨.bl _,H,I,rfl,?_⟩
  rw [show its.toArray.any (eqU x)=its.any (eqU x) by simp,ze7 r fs]
  exact q
def zgN:OpR X (compareOp .NotIn) (rIn X.K true):=by
 intro pins s σ H x y v u Q I rx ry h; obtain ⟨p,xs,rfl,hq,fx,fs,q⟩:=h; cases ry
 rcases hq with hq | hq
 ·obtain ⟨its,r,pl,hz⟩:=I.list hq
  refine SeqAt.notIn_listAt (eqU x) pl.isList (fun w hw=>zdq rx fx r fs w (by simpa using hw)) ⟨.bl _,H,I,rfl,?_⟩
  rw [show its.toArray.any (eqU x)=its.any (eqU x) by simp,ze7 r fs]
  exact q
 ·obtain ⟨its,r,pl,hz⟩:=I.tuple hq
  refine SeqAt.notIn_tupleAt (eqU x) pl (fun w hw=>zdq rx fx r fs w (by simpa using hw)) ⟨.bl _,H,I,rfl,?_⟩
  rw [show its.toArray.any (eqU x)=its.any (eqU x) by simp,ze7 r fs]
  exact q
def zho:zb6 X (.builtin "len") (fun xs H Q=>∃ p ys,xs=[.ref p]/\(SqL X.K H p ys\/SqT X.K H p ys)/\Q (.int ys.length) H):=by
 intro pins s σ H xs us Q I r h; obtain ⟨p,ys,rfl,hq,q⟩:=h; obtain ⟨u,rfl,rx⟩:=zcH r; cases rx; have hn:=zgX
 rcases hq with hq | hq
 ·obtain ⟨its,r',pl,hz⟩:=I.list hq
  have hlen:=r'.length
  exact Calls.call_len_list pl.isList (by simp only [yQ] <;> omega) ⟨.int ys.length,H,I.tok _,⟨s.toks+1,by rw [yQ,hlen]⟩,q⟩
 ·obtain ⟨its,r',pl,hz⟩:=I.tuple hq
  have hlen:=r'.length
  exact len_tuple pl (by simp only [yQ] <;> omega) ⟨.int ys.length,H,I.tok _,⟨s.toks+1,by rw [yQ,hlen]⟩,q⟩
def zhn:zb6 X (.builtin "len") (fun xs H Q=>∃ z,xs=[.str z]/\z.length<=sizeLine/\Q (.int z.length) H):=by
 intro pins s σ H xs us Q I r h; obtain ⟨z,rfl,hz,q⟩:=h; obtain ⟨u,rfl,t,rfl⟩:=zcH r; have hn:=zgX
 exact len_str (by omega) ⟨.int z.length,H,I.tok _,⟨_,rfl⟩,q⟩
def zb6.or {f:Value} {r r':List V->Hp->VK->Prop} (h:zb6 X f r) (h':zb6 X f r'):zb6 X f (fun xs H Q=>r xs H Q\/r' xs H Q):=by
 intro pins s σ H xs us Q I rs q
 rcases q with q | q
 ·exact h pins s σ H xs us Q I rs q
 ·exact h' pins s σ H xs us Q I rs q
def zhm:zb6 X (.type "list") (fun xs H Q=>∃ p ys,xs=[.ref p]/\(SqL X.K H p ys\/SqT X.K H p ys)/\∀ l,H l=none->Q (.ref l) (upd H l (.lst ys))):=by
 intro pins s σ H xs us Q I r h; obtain ⟨p,ys,rfl,hq,q⟩:=h; obtain ⟨u,rfl,rx⟩:=zcH r; cases rx
 have fin:∀ (its:List Value),zah ys its->ys.length<=sizeLine->∀ (h':Heap) (c':Nat),(∀ b o',s.heap.get? b=some o'->h'.get? b=some o') ->
   h'.get? s.heap.objs.size=some { cls:=.type "list",dict:=none,data:=.seq its.toArray c',slots:=#[] }->EP X pins σ Q (.ref s.heap.objs.size) { s with heap:=h' }:=fun its r' hz h' c' kp e =>
  ⟨.ref s.heap.objs.size,_,I.laid (t':=s.toks) kp (yD _) (show zap X.prog X.w _ h' _ (.lst ys) from ⟨hz,its,c',r',e⟩),rfl,q _ (I.hok.fresh (yD _))⟩
 rcases hq with hq | hq
 ·obtain ⟨its,r',pl,hz⟩:=I.list hq
  have hlen:=r'.length; obtain ⟨o,ho,hc,n,hd⟩:=pl.isList
  exact call_list_seq p (.inl rfl) ho hc hd (fun h' c' kp e=>fin its r' hz h' c' kp e) (by simp only [yQ] <;> omega)
 ·obtain ⟨its,r',pl,hz⟩:=I.tuple hq
  have hlen:=r'.length; obtain ⟨o,ho,hc,n,hd⟩:=pl
  exact call_list_seq p (.inr rfl) ho hc hd (fun h' c' kp e=>fin its r' hz h' c' kp e) (by simp only [yQ] <;> omega)
def zgk:zb6 X (.type "tuple") (fun xs H Q=>∃ p ys,xs=[.ref p]/\((SqL X.K H p ys/\∀ l,H l=none->Q (.ref l) (upd H l (.tup ys)))\/(SqT X.K H p ys/\Q (.ref p) H))):=by
 intro pins s σ H xs us Q I r h; obtain ⟨p,ys,rfl,h⟩:=h; obtain ⟨u,rfl,rx⟩:=zcH r; cases rx
 rcases h with ⟨hq,q⟩ | ⟨hq,q⟩
 ·obtain ⟨its,r',pl,hz⟩:=I.list hq
  have hlen:=r'.length
  refine call_tuple_list pl.isList (fun h' kp=>?_) (by simp only [yQ] <;> omega)
  have I1:Inv X pins σ H { s with heap:=h' }:=I.kept (t':=s.toks) kp
  have I2:Inv X pins σ (upd H h'.objs.size (.tup ys)) { s with heap:=h'.push { cls:=.type "tuple",data:=.seq its.toArray } } :=
   I1.laid (t':=s.toks) (fun b o e=>yB _ e) (yD _) (show zap X.prog X.w _ _ _ (.tup ys) from ⟨hz,its,r',IsTup.new _ _⟩)
  exact ⟨.ref h'.objs.size,_,I2,rfl,q _ (I1.hok.fresh (yD _))⟩
 ·obtain ⟨its,r',pl,hz⟩:=I.tuple hq
  exact call_tuple_same pl ⟨.ref p,H,I,rfl,q⟩
def tyV (K:W.Frag) (T:String) (x:V) (H:Hp):Prop:=match x with
 | .str _=>T="str"
 | .int _=>T="int"
 | .ref p=>(T="list"/\∃ xs,SqL K H p xs)\/(T="tuple"/\∃ o,K.lookup p=some o/\o.cls=.type "tuple"/\o.dict=none) \/
   (T="dict"/\((∃ kvs,H p=some (.dK kvs))\/∃ kvs,H p=some (.dT kvs)))\/(T="set"/\∃ S n,H p=some (.set S n))
 | _=>False
def zru {pins:yyL} {σ:St} {H:Hp} {s:Shared} {T:String} {x:V} {v:Value} (I:Inv X pins σ H s) (r:zaw x v) (ty:tyV X.K T x H) :
  s.TypeIs v T/\∀ a,v=.ref a->∃ ob,s.heap.get? a=some ob/\ob.dict=none:=by
 cases x with
 | str z =>
  obtain ⟨t,rfl⟩:=r
  cases (show T="str" from ty)
  exact ⟨typeIs_str s z t,fun _ e=>nomatch e⟩
 | int i =>
  obtain ⟨t,rfl⟩:=r
  cases (show T="int" from ty)
  exact ⟨typeIs_int s i t,fun _ e=>nomatch e⟩
 | ref p =>
  cases r
  rcases ty with ⟨rfl,xs,hq⟩ | ⟨rfl,o,hk,hc,hd⟩ | ⟨rfl,hk⟩ | ⟨rfl,S,n,hk⟩
  ·obtain ⟨its,_,pl,_⟩:=I.list hq
   refine ⟨pl.isList.typeIs,fun a e=>?_⟩
   cases e; obtain ⟨o,n,e,c,hd,_⟩:=pl; exact ⟨o,e,hd⟩
  ·refine ⟨⟨o,I.kIn p o hk,hc⟩,fun a e=>?_⟩
   cases e; exact ⟨o,I.kIn _ o hk,hd⟩
  ·have z:∃ o,s.heap.get? p=some o/\o.ExactDict:=by
    rcases hk with ⟨kvs,hk⟩ | ⟨kvs,hk⟩
    ·obtain ⟨_,_,_,_,o,_,_,e,ex,_⟩:=I.hok p _ hk
     exact ⟨o,e,ex⟩
    ·obtain ⟨_,_,_,_,o,_,_,e,ex,_⟩:=I.hok p _ hk
     exact ⟨o,e,ex⟩
   obtain ⟨o,e,ex⟩:=z
   refine ⟨⟨o,e,ex.1⟩,fun a e2=>?_⟩
   cases e2; exact ⟨o,e,ex.2.1⟩
  ·obtain ⟨o,_,_,_,e,ex,_⟩:=I.hok p _ hk
   refine ⟨⟨o,e,ex.1⟩,fun a e2=>?_⟩
   cases e2; exact ⟨o,e,ex.2.1⟩
 | _=>exact False.elim ty
def tBM (K:W.Frag) (T:String) (r:V->List V->Hp->VK->Prop) (to:TE) (t:TA):TE:=fun σ H Q=>to σ H fun x H1=>tyV K T x H1/\t σ H1 fun xs H2=>r x xs H2 Q
variable {o e:Expr} {es:List Expr} {to:TE} {t:TA} {name:Str} {apos cpos:Pos} {T id:String} {r:V->List V->Hp->VK->Prop}
def zsv (pa:PlainAttrs T) (slot:Slot T name id) (hty:typeOf (.builtin id)=pure (.type "method_descriptor")) (hm:MtR X id r) (ho:PE X o to) (ha:PA X (e :: es) t)
  (hbase:attributeBase o name X.env (eval o X.env)=eval o X.env:=by rfl)
  (hfew:((backTo cpos (starEach (e :: es) X.env)).all (fun x=>!x.1) && (backToKw cpos (keywordEach [] X.env)).all (fun x=>x.1.isSome)
   && decide ((e :: es).length+([]:List Keyword).length+(if ([]:List Keyword).isEmpty then 0 else 1)<30))=true:=by rfl)
  (hline:(apos.endLine == cpos.line)=true:=by rfl) (hs:starEach (e :: es) X.env=(false,eval e X.env) :: starEach es X.env:=by rfl) (hplain:(backTo cpos (starEach es X.env)).any (·.1)=false:=by rfl) :
  PE X (.Call (.Attribute o name apos) (e :: es) [] cpos) (tBM X.K T r to t):=by
 intro pins s σ H Q I h
 refine wpAny_Call_method_late hbase hfew hline rfl (thn (ho pins s σ H _ I h) fun v s1 ⟨x,H1,I1,r1,ty,q1⟩=>?_)
 obtain ⟨h1,h2⟩:=zru I1 r1 ty; refine ⟨T,id,pa,slot,hty,h1,h2,?_⟩; have hA:=ha cpos pins s1 σ H1 _ I1 q1; rw [hs] at hA ⊢
 refine Calls.callWith_builtin (by show (false || (backTo cpos (starEach es X.env)).any (·.1))=false; rw [hplain] <;> rfl) (Calls.evalArgs_plain ?_)
 exact thn hA fun us s2 ⟨vs,H2,I2,r2,q2⟩=>hm pins s2 σ H2 x vs v us Q I2 r1 r2 q2
end
def MtM (X:Cx) (id:String) (r:V->List V->Hp->VK->Prop):Prop :=
 ∀ (pins:yyL) (s:Shared) (σ:St) (H:Hp) (x:V) (xs:List V) (v:Value) (us:List Value) (Q:VK),Inv X pins σ H s->zaw x v->zah xs us->r x xs H Q ->
  wpAny (model X.prog X.w) X.A (call (.builtin id) (v :: us)) (EP X pins σ Q) X.xe s
theorem zah.one:∀ {x:V} {us:List Value},zah [x] us->∃ u,us=[u]/\zaw x u
 | _,_,.cons r .nil=>⟨_,rfl,r⟩
theorem zah.rep {xs:List V} {us:List Value} (h:zah xs us):∀ k:Nat,zah (List.replicate k xs).flatten (List.replicate k us).flatten
 | 0=>.nil
 | k+1=>by
  rw [Yi,Yi,JG,JG]; exact zah.append h (zah.rep h k)
theorem foldl_rep (its:List Value):∀ (k:Nat) (acc:List Value),
  List.foldl (fun x1 x2=>x1 ++ x2) acc.toArray (List.replicate k its.toArray)=(acc ++ (List.replicate k its).flatten).toArray
 | 0,acc=>by simp
 | k+1,acc=>by
  have e:acc.toArray ++ its.toArray=(acc ++ its).toArray:=by simp
  have e2:(acc ++ its) ++ (List.replicate k its).flatten=acc ++ (List.replicate (k+1) its).flatten:=by
   rw [Yi,JG,Ya]
  rw [<- e2,<- foldl_rep its k (acc ++ its),<- e,Yi,List.foldl_cons]
section
variable {l b:Addr} {xs ys zs:List V}
def Inv.lset {its its':List Value} {n:Nat} {f:Array Value->Array Value} {t':Nat} (I:Inv X pins σ H s) (hH:H l=some (.lst xs))
  (e:s.heap.get? l=some { cls:=.type "list",data:=.seq its.toArray n }) (hf:f its.toArray=its'.toArray) (hv:zah ys its') (hz:ys.length<=sizeLine) :
  Inv X pins σ (upd H l (.lst ys)) { s with heap:=s.heap.update l (Obj.mapSeq f),toks:=t' }:=by
 have q:=PySem.IsL.update e f; rw [hf] at q
 refine I.write (x:=l) (e:=l) (by rw [hH]; exact trivial) (.inl rfl) (fun b' u hb hu=>(yj s.heap (Obj.mapSeq f) (Ne.symm hb)).trans hu) ⟨_,q⟩ ?_
 exact ⟨hz,its',_,hv,q⟩
def Inv.lnew {its:List Value} {t':Nat} (I:Inv X pins σ H s) (hv:zah ys its) (hz:ys.length<=sizeLine) :
  Inv X pins σ (upd H s.heap.objs.size (.lst ys)) { s with heap:=s.heap.push { cls:=.type "list",data:=.seq its.toArray },toks:=t' } :=
 I.laid (fun _ _ q=>yB _ q) (yD _) ⟨hz,its,0,hv,yJ _ rfl⟩
def Inv.fresh (I:Inv X pins σ H s):H s.heap.objs.size=none:=I.hok.fresh (yD _)
def Inv.lstM (I:Inv X pins σ H s) (hH:H l=some (.lst xs)):xs.length<=sizeLine/\∃ (its:List Value) (n:Nat),zah xs its/\xs.length=its.length/\s.heap.get? l=some { cls:=.type "list",data:=.seq its.toArray n }:=by
 obtain ⟨z,its,n,r,e⟩:=I.hok l _ hH; exact ⟨z,its,n,r,r.length,e⟩
end
section
def zpF:V->List V->Hp->VK->Prop:=fun x vs H Q=>∃ l xs y,x=.ref l/\vs=[y]/\H l=some (.lst xs)/\xs.length<sizeLine/\Q .non (upd H l (.lst (xs ++ [y])))
def zeG:MtM X "list.append" zpF:=by
 intro pins s σ H x vs v us Q I rx rv h; obtain ⟨l,xs,y,rfl,rfl,hH,hz,q⟩:=h; cases rx; obtain ⟨u,rfl,ru⟩:=rv.one; obtain ⟨z,its,n,r,hl,e⟩:=I.lstM hH
 refine call_meets F.slot_list_append ⟨_,e,rfl⟩ F.entry_list_append (F.args_list_append_2 _ _) (PySem.list_append l its.toArray n u (by rw [yQ]; omega)) ⟨e,?_⟩
 refine ⟨.non,_,I.lset (its':=its ++ [u]) hH e (by simp) (r.append (.cons ru .nil)) ?_,rfl,q⟩
 rw [yV,List.length_singleton]; omega
def len_rep {α:Type} (xs:List α) (k:Nat):(List.replicate k xs).flatten.length=k * xs.length:=by
 induction k with
 | zero=>simp
 | succ k ih=>rw [Yi,JG,yV,ih,Nat.succ_mul,Nat.add_comm]
end
section
set_option maxRecDepth 100000 in
end
section
end
end L2
namespace Att
open PySem PySem.W PySem.Calls PyProof.Rows
def zeW {P:Params} {h:Heap}:∀ (ns:List Int) (vs:List Value),WellAll P h vs (ns.map WData.int)->IntsAre vs ns:=by
 intro ns
 induction ns with
 | nil =>
  intro vs w; rw [List.map_nil] at w; cases w; exact .nil
 | cons n ns ih =>
  intro vs w; rw [yW] at w
  cases w with
  | cons a b =>
   cases a; exact .cons _ _ (ih _ b)
def zkQ {l:OpenLaw} {n:Nat} (hn:l.most=some n) {P:Params} {h:Heap} {args:List WData} {vals:List Value}
  (hpre:l.row.toRowW.claim.pre args=true) (hwl:WellAll P h vals args) :
  ∃ a vs ns,vals=[Value.ref a]/\args=[WData.list (ns.map WData.int)]/\h.get? a=some { cls:=.type "list",data:=.seq vs.toArray }/\IntsAre vs ns/\ns.length<=n:=by
 have hsh:WShape.hasAll [] args [.list .int]=true:=(pre_splitW hpre).1
 have hc:l.pre.holds [] { args:=args }=true:=(pre_splitW hpre).2
 obtain ⟨d,r,rfl,h1,h2⟩:=hasAllW_cons hsh
 obtain rfl:=hasAllW_nil h2
 obtain ⟨xs,rfl,h3⟩:=hasW_list h1; obtain ⟨ns,rfl⟩:=items_int h3
 have hlen:ns.length<=n:=by
  unfold OpenLaw.pre at hc
  have h4:(WTm.not (.lt (.lit (.int (n:Int))) (.len (.arg 0)))).holds [] { args:=[.list (ns.map .int)] }=true:=by
   have h4:=(holds_andW hc).1; rw [hn] at h4; exact h4
  have h5:=condW_of h4 (w_not (w_lt w_lit (w_len_list (w_arg rfl)))); rw [yE] at h5
  refine Nat.le_of_not_lt fun q=>?_
  have q':(n:Int)<((ns.length:Nat):Int):=by omega
  first
   | (rw [Yl q'] at h5; exact yN h5 (by decide))
   | (simp at h5; omega)
 cases hwl with
 | cons w1 w2 =>
  cases w2
  cases w1 with
  | list ho hall=>exact ⟨_,_,ns,rfl,rfl,ho,zeW ns _ hall,hlen⟩
def zk5 (l:OpenLaw) (args:List WData):l.row.toRowW.claim.post args (.bool true) args=true :=
 postW_of (r:=l.row.toRowW) (X:=(true == true))
  (show WShape.has [] (.bool true) .bool=true by first | rfl | decide | simp [WShape.has,WShape.arms,WShape.armsAll])
  (show (WTm.eq .res (.lit (.bool true))).value [] { args:=args,res:=some (.bool true),after:=args }=some (.bool (true == true)) from w_eq_bool (w_res rfl) w_lit) rfl
def attach_call {l:OpenLaw} {n:Nat} {q:Program} {loose:List Str} {XP:(Str->Option Value)->Heap->Prop} {YP:World->Heap->Prop} {d:DefRec}
  (hn:l.most=some n) (hdf:d.params.defaults=[])
  (call:∀ (w:World) (s₀ s₁:Shared) (mg mb:Str->Option Value) (fa:Addr) (o:Obj) (pm cd doc:Value) (a:Addr) (vs:List Value) (ns:List Int),
   Ground q loose [] XP w s₀ mg mb s₁.heap->YP w s₁.heap ->
   s₁.heap.get? fa=some o->o.data=.func (docDef d.name d.params d.body d.scope pm cd doc)->s₁.heap.CodeRec cd d.name->mg d.name=some (.ref fa) ->
   s₁.heap.get? a=some { cls:=.type "list",data:=.seq vs.toArray }->IntsAre vs ns->ns.length<=n->s₁.gens=#[] ->
   codeAny (model l.prog w) callerA (.call (.ref fa) ⟨[.ref a],[]⟩) (fun r s'=>r=.ok (.ret (.bool true))/\OldK s₁.heap s'.heap/\s'.os=s₁.os/\AllBare s'.gens) s₁) :
  WalkO q loose XP YP l.row.toRowW d [] (fun f vs=>PySem.call f vs):=by
 intro w s₀ s₁ mg mb G Y fa o pm cd doc dV kV ho hd hcd hD hmg hg args vals as hpre hlay hrd hwl hlo
 obtain rfl:dV=.none:=Dflts.none hD hdf
 obtain rfl:kV=.none:=Dflts.noKw hD
 obtain ⟨a,vs,ns,rfl,rfl,hobj,hints,hlen⟩:=zkQ hn hpre hwl
 refine enter_call (codeAny_mono (call w s₀ s₁ mg mb fa o pm cd doc a vs ns G Y ho (fd_plain hd) hcd hmg hobj hints hlen hg) fun r s' hq=>?_)
 obtain ⟨rfl,h2,h3,h4⟩:=hq
 exact ⟨.inl ⟨.bool true,.bool true,[],rfl,fun _=>rfl,.bool true,zk5 l _,fun _=>⟨List.Pairwise.nil,fun _ hm=>(nomatch hm)⟩⟩,h2,h3,h4⟩
section
variable {K:Frag}
def zvW (h:Heap) (L d:Addr):yyL:=(List.range h.objs.size).filterMap fun a=>if a=L\/a=d then none else (h.get? a).map fun o=>(a,o)
end
end Att
namespace L2
open PySem PySem.Spec PyProof.Rows
theorem zgq:∀ {vs:List Value} {ns:List Int},IntsAre vs ns->zah (ns.map V.int) vs
 | _,_,.nil=>.nil
 | _,_,.cons n t h=>.cons ⟨t,rfl⟩ (zgq h)
def zqJ (s:Stmt) (j:Nat):Stmt:=match s with
 | .ClassDef _ _ _ body _ _ _ _ _ _ _=>body.getD j (.Pass ⟨0,0,0,0⟩)
 | _=>.Pass ⟨0,0,0,0⟩
def zbA (s:Stmt):Arguments:=match s with
 | .FunctionDef _ a _ _ _ _ _ _ _ _=>a
 | _=>{ posonlyargs:=[],args:=[],vararg:=none,kwonlyargs:=[],kw_defaults:=[],kwarg:=none,defaults:=[] }
def zak (s:Stmt):List Stmt:=match s with
 | .FunctionDef _ _ b _ _ _ _ _ _ _=>b
 | _=>[]
def zl (s:Stmt):Scope:=match s with
 | .FunctionDef _ _ _ _ _ _ sc _ _ _=>sc
 | _=>{ kind:=.function,names:=[],isGenerator:=false,isCoroutine:=false }
abbrev CX0:CXT:=fun _ _ _ _ _ _=>False
abbrev E0:XK:=fun _ _ _=>False
def zqc {X:Cx}:zmr CX0 X E0:=fun _ _ _ _ _ _ _ h=>h.elim
structure Fun (K:W.Frag) (x qual:Str) (st:Stmt) (f:Addr) (fd:FuncData):Prop where
 ex:∃ (oc:Value) (od:Option Addr) (kV doc pm:Value) (an:Option Addr) (cdv ct:Value) (osl:Array (Option Value)),
  fd=W.fnOf x qual (zbA st) (zak st) (zl st) .none kV doc pm an cdv ct/\K.lookup f=some ⟨oc,od,.func fd,osl⟩/\W.codeIn K cdv qual=true
 kp:W.keepIn K (.ref f)=true
section
def Fun.ok {x qual:Str} {st:Stmt} {f:Addr} {fd:FuncData} {N ps:List Str} {k:Nat} {sp:Sp} (F:Fun K x qual st f fd) (S:FnScope N ps (zl st)) (len:∀ vs H Q E,sp vs H Q E->vs.length=ps.length)
  (hbody:∀ (cdv:Value) (A:Around) (outer:List Env) (s:Shared) (H:Hp) (vs:List V) (Q:VK) (E:XK),Room k (A.deeper (envOfC qual (zl st) s.heap.objs.size f cdv))->sp vs H Q E ->
   ∃ t,PSs (zdy CX0 P w K mg base N qual (zl st) f cdv A outer s H E).nox (zak st) t/\t { nx:=fun _ H'=>Q .non H',rt:=Q } (start N vs) H):FnOk P w K mg base CX0 (k+1) f fd ps sp:=by
 obtain ⟨oc,od,kV,doc,pm,an,cdv,ct,osl,rfl,lk,hcd⟩:=F.ex
 refine zqL lk hcd S len fun A outer s H vs Q E hr hsp=>?_
 obtain ⟨t,h,q⟩:=hbody cdv A outer s H vs Q E hr hsp; exact ⟨t,h.nox,q⟩
def Fun.binds {x qual:Str} {st:Stmt} {f:Addr} {fd:FuncData} {ps:List Str} (F:Fun K x qual st f fd)
  (h:∀ (kV doc pm:Value) (an:Option Addr) (cdv ct:Value) (us:List Value),us.length=ps.length->bindArgs (W.fnOf x qual (zbA st) (zak st) (zl st) .none kV doc pm an cdv ct) ⟨us,[]⟩=pure (ps.zip us)):zb7 K fd ps []:=by
 obtain ⟨oc,od,kV,doc,pm,an,cdv,ct,osl,rfl,lk,hcd⟩:=F.ex; exact .all (h kV doc pm an cdv ct)
def zg7 {x qual:Str} {st:Stmt} {f:Addr} {oc:Value} {od an:Option Addr} {osl:Array (Option Value)} {kV doc pm cdv ct:Value} (l:K.lookup f=some ⟨oc,od,.func (W.fnOf x qual (zbA st) (zak st) (zl st) .none kV doc pm an cdv ct),osl⟩)
  (c:W.codeIn K cdv qual=true) (k:W.keepIn K (.ref f)=true):Fun K x qual st f (W.fnOf x qual (zbA st) (zak st) (zl st) .none kV doc pm an cdv ct):=⟨⟨oc,od,kV,doc,pm,an,cdv,ct,osl,rfl,l,c⟩,k⟩
end
def zN {A:Around} {k:Nat} (hr:Room k A):A.units+1<cLine:=Nat.lt_of_le_of_lt (Nat.add_le_add_left (by decide:1<=64) _) hr.units
def zaS {n:Nat} (h:n<=1000):n<sizeLine:=Nat.lt_of_le_of_lt h (by decide)
section
def pv (i:Nat) {x:Str} {pos:Pos} (hN:X.N[i]?=some x:=by rfl) (hv:Vis X.env.scope x:=by first | exact JA rfl | exact Yd (JA rfl) | exact Yd (Yd rfl)) (hd:yyD x:=by decide)
  (hcd:(x == ("__classdict__":Str))=false:=by decide):PE X (.Name x pos) (zvG i):=zd1 hN hv hd hcd
end
def zY (H H':Hp):Prop:=∀ b o,H b=some o->H' b=some o
def zY.refl (H:Hp):zY H H:=fun _ _ h=>h
def zY.trans {H H1 H2:Hp} (a:zY H H1) (b:zY H1 H2):zY H H2:=fun c o h=>b c o (a c o h)
def zY.free {H H':Hp} (e:zY H H') {l:Addr} (h:H' l=Option.none):H l=Option.none:=by
 cases q:H l with
 | none=>rfl
 | some o =>
  rw [e l o q] at h; cases h
section
variable {κ:Type} [DecidableEq κ]
def zmL (kvs:List (κ × V)) (k:κ):Option V:=(kvs.find? fun kv=>decide (kv.1=k)).map (·.2)
def ziH (kvs:List (κ × V)) (k:κ) (v:V):List (κ × V) :=
 if (kvs.any fun kv=>decide (kv.1=k))=true then kvs.map (fun kv=>if kv.1=k then (kv.1,v) else kv) else kvs ++ [(k,v)]
def zfF {p:κ × V} {r:List (κ × V)} {k:κ} (e:p.1=k):zmL (p :: r) k=some p.2:=by simp [zmL,YR,e]
def zfG {p:κ × V} {r:List (κ × V)} {k:κ} (e:¬ p.1=k):zmL (p :: r) k=zmL r k:=by simp [zmL,YR,e]
theorem zfH (k:κ):∀ kvs:List (κ × V),(kvs.any fun kv=>decide (kv.1=k))=(zmL kvs k).isSome
 | []=>rfl
 | p :: r=>by
  rw [List.any_cons]
  by_cases e:p.1=k
  ·simp only [zfF e,Yl e,Bool.true_or,Option.isSome_some]
  ·rw [zfG e,yg e,Bool.false_or]; exact zfH k r
def zeK (kvs:List (κ × V)) (k:κ) (v:V):(ziH kvs k v).length<=kvs.length+1:=by
 unfold ziH; split
 ·rw [yE]; omega
 ·rw [yV,yo,List.length_nil]; omega
def zmp.isSome_eq {o:Option V} {u:Option Value} (r:zmp o u):o.isSome=u.isSome:=by
 cases o with
 | none=>cases u with
  | none=>rfl
  | some _=>exact (show False from r).elim
 | some _=>cases u with
  | none=>exact (show False from r).elim
  | some _=>rfl
def KV.length {kvs:List (κ × V)} {vs:List (κ × Value)} (r:KV kvs vs):kvs.length=vs.length:=Paired.length r
end
def zvc {P:Program} {w:World} {k:Key} {u:Value} (r:zaw (kV k) u):(mixKind P w).is k u=true:=by
 cases k with
 | inl i=>obtain ⟨t,e⟩:=(show ∃ t,u=Value.int i t from r); subst e; exact zh5 P w i t
 | inr x=>obtain ⟨t,e⟩:=(show ∃ t,u=Value.str x t from r); subst e; exact zh4 P w x t
theorem zg2 {P:Program} {w:World}:∀ {ks:List Key} {us:List Value},zah (ks.map kV) us->ItemsAre (mixKind P w) ks us
 | [],_,r=>by rw [List.map_nil] at r; cases r; exact .nil
 | k :: ks,_,r=>by
  rw [yW] at r
  cases r with
  | cons h t=>exact .cons (zvc h) (zg2 t)
abbrev KT (H:Hp):List (List Key × V)->List (List Key × Addr × Value)->Prop:=Paired fun p q=>p.1=q.1/\H q.2.1=some (.tup (p.1.map kV))/\zaw p.2 q.2.2
def KT.val {H:Hp} {kvs:List (List Key × V)} {xs:List (List Key × Addr × Value)} (r:KT H kvs xs) (k:List Key):zmp (zmL kvs k) ((atKey xs k).map (·.2)):=by
 induction r with
 | nil=>exact True.intro
 | @cons p q ps qs h t ih =>
  obtain ⟨h1,_,h2⟩:=h
  by_cases e:p.1=k
  ·have e':q.1=k:=h1.symm.trans e
   have b:atKey (q :: qs) k=some q.2:=by simp [atKey,YR,e']
   rw [zfF e,b]; exact h2
  ·have e':¬ q.1=k:=fun z=>e (h1.trans z)
   have b:atKey (q :: qs) k=atKey qs k:=by simp [atKey,YR,e']
   rw [zfG e,b]; exact ih
def KT.repl {H:Hp} {kvs:List (List Key × V)} {xs:List (List Key × Addr × Value)} (r:KT H kvs xs) (k:List Key) {y:V} {u:Value} (ry:zaw y u) :
  KT H (kvs.map fun kv=>if kv.1=k then (kv.1,y) else kv) (xs.map (putAt k u)):=by
 induction r with
 | nil=>exact .nil
 | @cons p q ps qs h t ih =>
  rw [yW,yW]; refine .cons ?_ ih; obtain ⟨h1,h2,h3⟩:=h; unfold putAt
  by_cases e:p.1=k
  ·rw [yM e,yM (h1.symm.trans e)]; exact ⟨h1,h2,ry⟩
  ·rw [yK e,yK (fun z=>e (h1.trans z))]; exact ⟨h1,h2,h3⟩
def KT.put {H:Hp} {kvs:List (List Key × V)} {xs:List (List Key × Addr × Value)} (r:KT H kvs xs) (k:List Key) {b:Addr} {y:V} {u:Value} (hb:H b=some (.tup (k.map kV))) (ry:zaw y u) :
  KT H (ziH kvs k y) (storedH xs k b u):=by
 have e:(kvs.any fun kv=>decide (kv.1=k))=(atKey xs k).isSome:=by
  rw [zfH,(r.val k).isSome_eq,Option.isSome_map]
 unfold ziH storedH; rw [e]
 by_cases q:(atKey xs k).isSome=true
 ·rw [yM q,yM q]; exact r.repl k ry
 ·rw [yK q,yK q]; exact Paired.snoc r ⟨rfl,hb,ry⟩
def KT.keeps {H H':Hp} {kvs:List (List Key × V)} {xs:List (List Key × Addr × Value)} (r:KT H kvs xs) (ht:∀ b ys,H b=some (.tup ys)->H' b=some (.tup ys)):KT H' kvs xs :=
 Paired.mapP r fun _ _ z=>⟨z.1,ht _ _ z.2.1,z.2.2⟩
section
variable {h:Heap} {a:Addr}
def zeT {ks:List Key} (ok:HOk P w H h) (e:H a=some (.tup (ks.map kV))):(tupleKind (mixKind P w)).is h ks a:=by
 obtain ⟨_,its,r,o,h1,h2,n,h3⟩:=(show zap P w H h a (.tup (ks.map kV)) from ok a _ e)
 exact ⟨o,its.toArray,n,h1,h2,h3,by simpa using zg2 r⟩
end
section
variable {a:Addr} {y v:V} {u r:Value} {o:Option V}
def Inv.big (I:Inv X pins σ H s):sysModules<s.heap.objs.size:=by
 have h:mainGlobals<s.heap.objs.size:=(I.mod.glob.keeps I.bk).lt
 exact JB (by decide) h
def zl7 {h':Heap} {t':Nat} {ob:HO} (I:Inv X pins σ H s) (mu:Mut (H a)) (hs:Heap.SameBut a s.heap h') (he:∃ q,h'.get? a=some q) (new:zap X.prog X.w (upd H a ob) h' a ob) :
  Inv X pins σ (upd H a ob) { s with heap:=h',toks:=t' } :=
 I.write (x:=a) (e:=a) mu (.inl rfl) (fun b q hb z=>(hs.2 b hb).trans z) he new
end
section
variable {a:Addr} {kvs:List (Key × V)} {k:Key} {u:Value}
end
section
variable {o i e value:Expr} {pos pos' tpos:Pos} {td ty tv:TE}
end
section
variable {pos:Pos}
end
section
variable {a:Addr} {y d:V} {u r:Value} {o:Option V}
end
section
variable {o e f:Expr} {apos cpos:Pos} {td ty tx:TE}
end
section
variable {a:Addr} {kvs:List (Key × V)}
end
section
variable {a:Addr} {y:V} {u:Value}
end
end L2
set_option maxHeartbeats 4000000
namespace L2
open PySem PySem.Spec PyProof.Rows
def st (l:List Nat):Str:=⟨l.toArray⟩
def zad (l:List Nat):(st l).cps.toList=l:=by simp [st]
def zbC (l:List Nat):(st l).length=l.length:=by simp [st,Str.length]
def zrL (x:Str):x=st x.cps.toList:=by cases x; simp [st]
def st_inj {a b:List Nat} (h:st a=st b):a=b:=by
 have e:=yi (fun x:Str=>x.cps.toList) h
 simpa [st] using e
def zrM (a b:List Nat):st a ++ st b=st (a ++ b):=by
 show Str.append (st a) (st b)=st (a ++ b)
 unfold Str.append st; simp
def zoT (l:List Nat) (c:Nat):(!(Builtin.Str.occurrences (st l) (st [c]) 0 (st l).length 1).isEmpty)=decide (c ∈ l):=by
 have e:=StrLaws.found_one (st l) c; rw [zad] at e; exact e
def zmX (l:List Nat) (n:Nat):Txt.slice (st l) none (some (n:Int))=st (l.take n):=by
 by_cases h:n<=l.length
 ·have q:Txt.slice (st l) none (some (n:Int))=⟨(((st l).cps.toList.drop 0).take ((n:Int)-0).toNat).toArray⟩:=StrLaws.sliceText_to ⟨by omega,by rw [zad]; omega⟩
  rw [q,zad]; simp [st]
 ·have e:Txt.slice (st l) none (some (n:Int))=Txt.slice (st l) none (some (l.length:Int)):=by
   unfold Txt.slice
   have z:Builtin.Str.strSliceIndices none (some (n:Int)) 1 (st l).length=Builtin.Str.strSliceIndices none (some (l.length:Int)) 1 (st l).length:=by
    rw [zbC]
    have h0:¬ (n:Int)<0:=by omega
    have h1:¬ ((l.length:Int)<0):=by omega
    have h2:(1:Int) > 0:=by decide
    have h3:min (n:Int) (l.length:Int)=(l.length:Int):=by omega
    simp only [Builtin.Str.strSliceIndices,h0,h1,h2,if_false,if_true,h3,Int.min_self]
   rw [z]
  have q:Txt.slice (st l) none (some (l.length:Int))=⟨(((st l).cps.toList.drop 0).take ((l.length:Int)-0).toNat).toArray⟩:=StrLaws.sliceText_to ⟨by omega,by rw [zad]; omega⟩
  rw [e,q,zad,yh (by omega:l.length<=n)]
  simp [st]
def zjE (l:List Nat) (n:Nat):Txt.slice (st l) (some (n:Int)) none=st (l.drop n):=by
 by_cases h:n<=l.length
 ·have q:Txt.slice (st l) (some (n:Int)) none=⟨(((st l).cps.toList.drop (n:Int).toNat).take (((st l).cps.toList.length:Int)-(n:Int)).toNat).toArray⟩:=StrLaws.sliceText_from ⟨by omega,by rw [zad]; omega⟩
  rw [q,zad]
  have e1:(n:Int).toNat=n:=by omega
  have e2:((l.length:Int)-(n:Int)).toNat=l.length-n:=by omega
  rw [e1,e2,yh (by rw [Yj]; omega)]
  rfl
 ·rw [slice_beyond (by rw [zbC]; omega),YZ (by omega)]
  rfl
section
def zhp:zb6 X (.type "int") (fun xs H Q=>∃ x n,xs=[.str x]/\PySem.intText? x=some n/\x.length<=640/\Q (.int n) H):=by
 intro pins s σ H xs us Q I r h; obtain ⟨x,n,rfl,hn,hl,q⟩:=h; obtain ⟨u,rfl,t,rfl⟩:=zcH r; exact W.KIN.call_text hn hl ⟨.int n,H,I.tok _,⟨_,rfl⟩,q⟩
def zwk:V->Option Int->Option Int->Hp->VK->Prop:=fun x lo hi H Q=>∃ z,x=.str z/\z.length<=sizeLine/\Q (.str (Txt.slice z lo hi)) H
def zrP:SlR X zwk:=by
 intro pins s σ H x v vl vu lo hi sl Q I rx hs pl pu h; obtain ⟨z,rfl,hz,q⟩:=h; obtain ⟨t,rfl⟩:=rx; refine ⟨"str",_,PySem.F.slot_str_getitem.lookup,typeIs_str _ _ _,?_⟩
 have fin:∀ t' k,EP X pins σ Q (.str (Txt.slice z lo hi) t') { s with toks:=k }:=fun t' k=>⟨.str (Txt.slice z lo hi),H,I.tok _,⟨_,rfl⟩,q⟩
 cases pl with
 | none =>
  cases pu with
  | none=>exact wpAny_getItem_str_slice (l:=none) (u:=none) (st:=none) hs rfl (post_val_or_str ⟨yq (Txt.slice_le z _ _) hz,fin⟩)
  | int j u=>exact wpAny_getItem_str_slice (l:=none) (u:=some (j,u)) (st:=none) hs rfl (post_val_or_str ⟨yq (Txt.slice_le z _ _) hz,fin⟩)
 | int i u' =>
  cases pu with
  | none=>exact wpAny_getItem_str_slice (l:=some (i,u')) (u:=none) (st:=none) hs rfl (post_val_or_str ⟨yq (Txt.slice_le z _ _) hz,fin⟩)
  | int j u=>exact wpAny_getItem_str_slice (l:=some (i,u')) (u:=some (j,u)) (st:=none) hs rfl (post_val_or_str ⟨yq (Txt.slice_le z _ _) hz,fin⟩)
def zlo:MtR X "str.rstrip" (fun x xs H Q=>∃ z y,x=.str z/\xs=[.str y]/\z.length<=sizeLine/\Q (.str (Txt.rstripChars z y)) H):=by
 intro pins s σ H x xs v us Q I rx rs h; obtain ⟨z,y,rfl,rfl,hz,q⟩:=h; obtain ⟨t,rfl⟩:=rx; obtain ⟨u,rfl,t',rfl⟩:=zcH rs
 exact PySem.SC.rstripChars (fun t' k=>⟨.str _,H,I.tok _,⟨_,rfl⟩,q⟩) hz
end
def ltV:V->V->Bool
 | .int i,.int j=>decide (i<j)
 | .str x,.str y=>decide (x.cps.toList<y.cps.toList)
 | _,_=>false
def zvs:V->V->Bool
 | .int _,.int _=>true
 | .str _,.str _=>true
 | _,_=>false
def zkj:List V->List V->Bool
 | [],[]=>false
 | [],_ :: _=>true
 | _ :: _,[]=>false
 | x :: xs,y :: ys=>if x=y then zkj xs ys else ltV x y
def zmg:List V->List V->Prop
 | x :: xs,y :: ys=>zvs x y=true/\zmg xs ys
 | _,_=>True
def zeJ (x y:V) (xs ys:List V):zkj (x :: xs) (y :: ys)=if x=y then zkj xs ys else ltV x y:=rfl
def zoe {A:Around} {s:Shared} {x y:V} {u v:Value} (rx:zaw x u) (ry:zaw y v) (h:zvs x y=true):∃ e,SeqAt.EqAt A s u v e/\(e=true↔x=y):=by
 cases x with
 | int i =>
  cases y with
  | int j =>
   obtain ⟨t,rfl⟩:=rx; obtain ⟨t',rfl⟩:=ry
   exact ⟨(i == j),SeqAt.EqAt.int_int i t j t',by simp⟩
  | _=>exact yN (show false=true from h) yO
 | str a =>
  cases y with
  | str b =>
   obtain ⟨t,rfl⟩:=rx; obtain ⟨t',rfl⟩:=ry
   exact ⟨(a == b),SeqAt.EqAt.str_str a t b t',by simp⟩
  | _=>exact yN (show false=true from h) yO
 | _=>cases y <;> exact yN (show false=true from h) yO
def zm0 {A:Around} {s:Shared} {x y:V} {u v:Value} (rx:zaw x u) (ry:zaw y v) (h:zvs x y=true) (prog:Program) (w:World) (E:Value->Shared->Prop) (Q:Value->Shared->Prop) (q:Q (.bool (ltV x y)) s) :
  wpAny (model prog w) A (richCompare .Lt u v) Q E s:=by
 cases x with
 | int i =>
  cases y with
  | int j =>
   obtain ⟨t,rfl⟩:=rx; obtain ⟨t',rfl⟩:=ry; exact (PyProof.Rows.lt_int q:wpAny (model prog w) A (compareOp .Lt (.int i t) (.int j t')) Q E s)
  | _=>exact yN (show false=true from h) yO
 | str a =>
  cases y with
  | str b =>
   obtain ⟨t,rfl⟩:=rx; obtain ⟨t',rfl⟩:=ry; exact (PyProof.Rows.lt_str q:wpAny (model prog w) A (compareOp .Lt (.str a t) (.str b t')) Q E s)
  | _=>exact yN (show false=true from h) yO
 | _=>cases y <;> exact yN (show false=true from h) yO
end L2
namespace HT
open PySem PyProof.Rows L2
section
open PySem.SeqAt
open PySem.AutoSeq1 (wpAny_loadPart')
open PySem.MeetsSeq PySem.MeetsSeq2 PySem.MeetsSeq3
def zfI (l b:Addr) (items items2:Array Value) (n n2:Nat) (dd dd2:Option Addr) (sl sl2:Array (Option Value)) (ns ms:List V) (hi:zah ns items.toList) (hj:zah ms items2.toList) (hc:zmg ns ms) :
  Meets (Builtin.«tuple.__lt__» ⟨[.ref l,.ref b],[]⟩)
   (fun _ R s=>s.heap.get? l=some { cls:=.type "tuple",dict:=dd,data:=.seq items n,slots:=sl }/\s.heap.get? b=some { cls:=.type "tuple",dict:=dd2,data:=.seq items2 n2,slots:=sl2 } /\
    R (.ok (.ret (.bool (zkj ns ms)))) s) :=
 .of_wp fun prog w A R s h=>by
  obtain ⟨hp,g,d,tk,os⟩:=s; obtain ⟨hl,hb,h⟩:=h
  have f2:=AutoSeq1.sub_tuple_tuple
  have z1:items.size=ns.length:=by rw [hi.length]; simp
  have z2:items2.size=ms.length:=by rw [hj.length]; simp
  wp_walk using wpAny_loadPart' hl,wpAny_loadPart' hb,wpAny_forIn_list _ (fun zbq b s'=>b.1=none/\s'=⟨hp,g,d,tk,os⟩/\∃ (vs ws:List Value) (ns' ms':List V),zbq=vs.zip ws /\
   zah ns' vs/\zah ms' ws/\zmg ns' ms'/\ns'.length+items2.size=ms'.length+items.size/\R (.ok (.ret (.bool (zkj ns' ms')))) ⟨hp,g,d,tk,os⟩) _
  case turn =>
   rintro ⟨y,x⟩ zbq b s' ⟨hb',rfl,vs,ws,ns',ms',hz,hvi,hwi,hcc,hlen,hR⟩
   cases hvi with
   | nil=>rw [List.zip_nil_left] at hz; cases hz
   | cons ra hvi' =>
    cases hwi with
    | nil=>rw [List.zip_nil_right] at hz; cases hz
    | cons rc hwi' =>
     rw [List.zip_cons_cons] at hz
     injection hz with hyx hrest
     injection hyx with hy hx
     subst hy hx
     rw [zeJ] at hR; simp only [yo] at hlen; obtain ⟨hc1,hc2⟩:=hcc; obtain ⟨e,he,hiff⟩:=zoe (A:=A.in1) (s:=⟨hp,g,d,tk,os⟩) ra rc hc1; refine yA (he prog w _ _ ?_)
     cases e with
     | true =>
      rw [yM (hiff.mp rfl)] at hR
      wp_walk
      exact ⟨rfl,rfl,_,_,_,_,hrest,hvi',hwi',hc2,by omega,hR⟩
     | false =>
      rw [yK (fun q=>yN (hiff.mpr q) yO)] at hR
      have hri:=fun E Q=>zm0 (A:=A.in1) (s:=⟨hp,g,d,tk,os⟩) ra rc hc1 prog w E Q
      wp_walk using hri
      exact ⟨_,rfl,by simpa using hR⟩
  case fin =>
   rintro ⟨b1,b2⟩ s' ⟨hb',rfl,vs,ws,ns',ms',hz,hvi,hwi,hcc,hlen,hR⟩
   simp only at hb'
   subst hb'
   have hv:zkj ns' ms'=decide (items.size<items2.size):=by
    cases hvi with
    | nil =>
     cases hwi with
     | nil =>
      simp only [List.length_nil] at hlen
      exact (yg (by omega)).symm
     | cons rc hw =>
      simp only [List.length_nil,yo] at hlen
      exact (Yl (by omega)).symm
    | cons ra hv =>
     cases hwi with
     | nil =>
      simp only [List.length_nil,yo] at hlen
      exact (yg (by omega)).symm
     | cons rc hw =>
      rw [List.zip_cons_cons] at hz; cases hz
   rw [hv] at hR
   wp_walk
   exact ⟨_,rfl,by simpa [Builtin.Tuple.tupleCompareSizes] using hR⟩
  case h =>
   exact ⟨rfl,rfl,items.toList,items2.toList,ns,ms,rfl,hi,hj,hc,by omega,h⟩
end
section
def lt_tupVals {l b:Addr} {items items2:Array Value} {ns ms:List V} {Q:Value->Shared->Prop} (hl:IsTup s.heap l items) (hb:IsTup s.heap b items2) (hi:zah ns items.toList) (hj:zah ms items2.toList) (hcc:zmg ns ms)
  (hu:A.units<cLine) (h:Q (.bool (zkj ns ms)) s):wpAny (model prog w) A (compareOp .Lt (.ref l) (.ref b)) Q E s:=by
 obtain ⟨⟨cls,dd,data,sl⟩,ho,hc,n,hd⟩:=id hl
 obtain ⟨⟨cls2,dd2,data2,sl2⟩,ho2,hc2,n2,hd2⟩:=id hb
 simp only at hc hd hc2 hd2
 subst hc hd hc2 hd2
 exact richCompare_meets_room (op:=.Lt) ⟨_,ho,rfl⟩ ⟨_,ho2,rfl⟩ PySem.F.slot_tuple_lt PySem.F.entry_tuple_lt (PySem.F.args_tuple_lt_2 _ _) (zfI l b items items2 n n2 dd dd2 sl sl2 ns ms hi hj hcc)
  ⟨ho,ho2,show Value.bool (zkj ns ms)≠Value.notImplemented/\Q (.bool (zkj ns ms)) s from ⟨(fun x=>nomatch x),h⟩⟩ hu
end
end HT
namespace L2
open PySem PySem.Spec PyProof.Rows
section
def zwm (K:W.Frag):R2:=fun x y H Q=>∃ a b ns ms,x=.ref a/\y=.ref b/\SqT K H a ns/\SqT K H b ms/\zmg ns ms/\Q (.bl (zkj ns ms)) H
def zsB (hu:X.A.units<cLine):OpR X (compareOp .Lt) (zwm X.K):=by
 intro pins s σ H x y v u Q I rx ry h; obtain ⟨a,b,ns,ms,rfl,rfl,ha,hb,hc,q⟩:=h; cases rx; cases ry; obtain ⟨its,r1,p1,_⟩:=I.tuple ha; obtain ⟨its2,r2,p2,_⟩:=I.tuple hb
 exact HT.lt_tupVals p1 p2 (by simpa using r1) (by simpa using r2) hc hu ⟨.bl (zkj ns ms),H,I,rfl,q⟩
end
def Its (l:List Nat):It:=⟨fun i _=>i<l.length,fun i H x H'=>H'=H/\∃ c,l[i]?=some c/\x=.str (st [c]),fun i _=>i=l.length⟩
def zin {P:Program} {w:World} {A:Around} {cls:String} (hA:A.handled=none) (it:Addr) (x:Str) (t:Tok) (hcls:cls="str_ascii_iterator"\/cls="str_iterator"):Walks P w A it [it] [it] x.cps.size (SignAt x) (fun i h=>h.IsStrIter it cls x t i):=by
 rcases hcls with rfl | rfl
 ·exact Walks.strAscii hA it x t
 ·exact Walks.strWide hA it x t
def ziq {P:Program} {w:World} {K:W.Frag} {tg:Expr} {cls:String} (x:Str) (t:Tok) (it:Addr) (hcls:cls="str_ascii_iterator"\/cls="str_iterator"):Turn P w K tg (Its x.cps.toList) [it] it (fun i h=>h.IsStrIter it cls x t i) where
 mem:=by simp
 obj:=fun i h stt b hb=>by
  have e:b=it:=by simpa using hb
  subst e; obtain ⟨o,e,c,d⟩:=stt
  exact ⟨o,e,fun v z=>by rw [d] at z; cases z⟩
 keep:=fun i h h' stt k=>by
  obtain ⟨o,e,r⟩:=stt
  exact ⟨o,k it (by simp) o e,r⟩
 item:=by
  intro X hP hw hK hc i pins s σ H E I hf stt hg
  subst hP hw hK
  obtain ⟨f0,f1,f2,f3,f4,f5⟩:=hf it (by simp)
  have hg':i<x.cps.toList.length:=hg
  refine (zin (I.ok.hd hc) it x t hcls).item i s _ _ (by simpa using hg') stt fun v h' tk hv st' kk=>?_
  obtain ⟨c,u,hc',rfl⟩:=hv
  have I1:Inv X pins σ H { s with heap:=h',toks:=tk }:=I.turned (fun b o hb e=>kk b o (by simpa using hb) e) f0 f1 f3 f4 f5
  obtain ⟨o,e,hcl,d⟩:=id st'
  exact ⟨_,rfl,zj3 (s:={ s with heap:=h',toks:=tk }) e hcl d (by rcases hcls with rfl | rfl <;> decide) ⟨.str (st [c]),H,I1,⟨u,rfl⟩,⟨rfl,c,by simpa using hc',rfl⟩,st',fun b hb=>(hf b hb).1⟩⟩
 done:=by
  intro X hP hw hK hc i pins s σ H E I hf stt hg
  subst hP hw hK
  obtain ⟨f0,f1,f2,f3,f4,f5⟩:=hf it (by simp)
  have hg':i=x.cps.toList.length:=hg
  subst hg'
  refine (zin (I.ok.hd hc) it x t hcls).done s _ _ (by simpa using stt) fun h' tk kk=>?_
  exact ⟨rfl,I.turned (fun b o hb e=>kk b o (by simpa using hb) e) f0 f1 f3 f4 f5⟩
 self:=fun A i s Q E stt h=>by
  rcases hcls with rfl | rfl
  ·exact wpAny_pyIter_striter_ascii stt h
  ·exact wpAny_pyIter_striter_wide stt h
section
variable {tg:Expr}
end
def zcR (cells:List (Str × Addr)):List (Str × NameKind)->List (Str × Addr)->List (Str × Addr)
 | [],acc=>acc
 | (n,k) :: r,acc=>if k == .free then zcR cells r ((n,(cells.lookup n).getD 0) :: acc) else zcR cells r acc
theorem zfB {env:Env}:∀ (l:List (Str × NameKind)) (acc:List (Str × Addr)),(∀ y ∈ l,y.2=.free->∃ c,env.cells.lookup y.1=some c) ->
  (forIn (m:=Sem) l acc fun x r=>if (x.2 == NameKind.free)=true then do let a <- cellOf env x.1; pure (ForInStep.yield ((x.1,a) :: r)) else pure (ForInStep.yield r))=pure (zcR env.cells l acc)
 | [],acc,_=>rfl
 | (n,k) :: r,acc,h=>by
  rw [List.forIn_cons]
  have ih:=fun acc'=>zfB r acc' fun y hy=>h y (yL _ hy)
  by_cases hk:k=.free
  ·subst hk
   obtain ⟨c,hc⟩:=h (n,.free) (yR ..) rfl
   have e:cellOf env n=pure c:=by
    unfold cellOf
    rw [show env.cells.lookup n=some c from hc]
   show ((if ((NameKind.free:NameKind) == NameKind.free)=true then _ else _) >>= _)=_
   rw [yM (by decide),e]
   unfold zcR
   rw [yM (by decide),show env.cells.lookup n=some c from hc]
   exact ih _
  ·have hb:(k == NameKind.free)=false:=by simpa using hk
   show ((if (k == NameKind.free)=true then _ else _) >>= _)=_
   rw [yK (by rw [hb]; decide)]
   unfold zcR
   rw [yK (by rw [hb]; decide)]
   exact ih _
def zfA {scope:Scope} {env:Env} (h:∀ y ∈ scope.names,y.2=.free->∃ c,env.cells.lookup y.1=some c):closureFor scope env=pure (zcR env.cells scope.names []):=by
 unfold closureFor; have e:=zfB scope.names [] h
 refine Eq.trans ?_ (yi (fun z=>z >>= fun cs=>(pure cs:Sem (List (Str × Addr)))) e)
 rfl
theorem zdz {cells:List (Str × Addr)} {x:Str} {c:Addr}:∀ (l:List (Str × NameKind)) (acc:List (Str × Addr)),(∀ y ∈ l,y.2=.free->∃ c,cells.lookup y.1=some c)->(∀ x c,acc.lookup x=some c->cells.lookup x=some c)->(zcR cells l acc).lookup x=some c->cells.lookup x=some c
 | [],acc,_,ha,h=>ha x c h
 | (n,k) :: r,acc,hl,ha,h=>by
  unfold zcR at h; split at h
  ·rename_i hk
   obtain ⟨c',hc'⟩:=hl (n,k) (yR ..) (by simpa using hk)
   refine zdz r _ (fun y hy=>hl y (yL _ hy)) (fun z d hz=>?_) h
   rw [show cells.lookup n=some c' from hc'] at hz
   rw [yY] at hz
   cases hzn:z == n with
   | true =>
    rw [hzn] at hz
    have e1:z=n:=by simpa using hzn
    rw [e1,show cells.lookup n=some c' from hc']
    simpa using hz
   | false =>
    rw [hzn] at hz; exact ha z d hz
  ·exact zdz r acc (fun y hy=>hl y (yL _ hy)) ha h
theorem zgj {cells:List (Str × Addr)} {x:Str}:∀ (l:List (Str × NameKind)) (acc:List (Str × Addr)),(∃ c,acc.lookup x=some c)->∃ c,(zcR cells l acc).lookup x=some c
 | [],_,h=>h
 | (n,k) :: r,acc,h=>by
  unfold zcR; split
  ·refine zgj r _ ?_
   rw [yY]; split
   ·exact ⟨_,rfl⟩
   ·exact h
  ·exact zgj r acc h
theorem zgi {cells:List (Str × Addr)} {x:Str}:∀ (l:List (Str × NameKind)) (acc:List (Str × Addr)),(x,NameKind.free) ∈ l->∃ c,(zcR cells l acc).lookup x=some c
 | [],_,h=>yN h yx
 | (n,k) :: r,acc,h=>by
  unfold zcR
  rcases yP.mp h with e | e
  ·cases e
   rw [yM (by decide)]
   refine zgj r _ ?_; rw [yY,beq_self_eq_true]; exact ⟨_,rfl⟩
  ·split
   ·exact zgi r _ e
   ·exact zgi r _ e
theorem zdP {x:Str} {k:NameKind}:∀ {l:List (Str × NameKind)},l.lookup x=some k->(x,k) ∈ l
 | [],h=>by simp at h
 | (n,j) :: r,h=>by
  rw [yY] at h
  cases e:x == n with
  | true =>
   rw [e] at h
   have e1:x=n:=by simpa using e
   have e2:j=k:=by simpa using h
   rw [e1,e2]; exact yR ..
  | false =>
   rw [e] at h; exact yL _ (zdP h)
theorem zfj {env:Env} (hk:env.scope.kind=.function) {x:Str} (hx:env.kindOf x=some .cell):∀ {l:List (Str × NameKind)},l.lookup x=some .free ->
  (l.map fun (n,k)=>if (k == NameKind.free && env.scope.kind == .function && env.kindOf n == some .cell) then (n,NameKind.cell) else (n,k)).lookup x=some .cell
 | [],h=>by simp at h
 | (n,k) :: r,h=>by
  rw [yY] at h; rw [yW]
  show List.lookup x ((if (k == NameKind.free && env.scope.kind == .function && env.kindOf n == some .cell)=true then (n,NameKind.cell) else (n,k)) :: _)=_
  cases e:x == n with
  | true =>
   rw [e] at h
   have e1:x=n:=by simpa using e
   have e2:k=.free:=by simpa using h
   subst e1 e2
   have z:((NameKind.free == NameKind.free && env.scope.kind == .function && env.kindOf x == some .cell):Bool)=true:=by rw [hk,hx]; decide
   rw [yM z,yY,beq_self_eq_true]
  | false =>
   rw [e] at h; have ih:=zfj hk hx (l:=r) h
   by_cases z:(k == NameKind.free && env.scope.kind == .function && env.kindOf n == some .cell)=true
   ·rw [yM z,yY,e]
    exact ih
   ·rw [yK z,yY,e]
    exact ih
theorem zfk {env:Env} {x:Str}:∀ {l:List (Str × NameKind)},(∀ y ∈ l,y.2≠.cell)->((l.map fun (n,k)=>if (k == NameKind.free && env.scope.kind == .function && env.kindOf n == some .cell) then (n,NameKind.cell) else (n,k)).lookup x=some .cell \/
  (l.map fun (n,k)=>if (k == NameKind.free && env.scope.kind == .function && env.kindOf n == some .cell) then (n,NameKind.cell) else (n,k)).lookup x=some .free)->(x,NameKind.free) ∈ l
 | [],_,h=>by simp at h
 | (n,k) :: r,hc,h=>by
  have again:∀ (z:(r.map fun (n,k)=>if (k == NameKind.free && env.scope.kind == .function && env.kindOf n == some .cell) then (n,NameKind.cell) else (n,k)).lookup x=some .cell\/(r.map fun (n,k)=>if (k == NameKind.free && env.scope.kind == .function && env.kindOf n == some .cell) then (n,NameKind.cell) else (n,k)).lookup x=some .free),(x,NameKind.free) ∈ (n,k) :: r :=
   fun z=>yL _ (zfk (fun y hy=>hc y (yL _ hy)) z)
  rw [yW] at h
  change List.lookup x ((if (k == NameKind.free && env.scope.kind == .function && env.kindOf n == some .cell)=true then (n,NameKind.cell) else (n,k)) :: _)=some NameKind.cell\/List.lookup x ((if (k == NameKind.free && env.scope.kind == .function && env.kindOf n == some .cell)=true then (n,NameKind.cell) else (n,k)) :: _)=some NameKind.free at h
  by_cases z:(k == NameKind.free && env.scope.kind == .function && env.kindOf n == some .cell)=true
  ·have hk:k=.free:=by
    simp only [yr,beq_iff_eq] at z; exact z.1.1
   rw [yM z,yY] at h
   cases e:x == n with
   | true =>
    have e1:x=n:=by simpa using e
    rw [e1,hk]; exact yR ..
   | false =>
    rw [e] at h; exact again h
  ·rw [yK z,yY] at h
   cases e:x == n with
   | true =>
    rw [e] at h
    have e1:x=n:=by simpa using e
    rcases h with h | h
    ·exact yN (by simpa using h) (hc (n,k) (yR ..))
    ·have e2:k=.free:=by simpa using h
     rw [e1,e2]; exact yR ..
   | false =>
    rw [e] at h; exact again h
structure Blk (N N':List Str) (src:List (Option Nat)) (fsc sc:Scope):Prop where
 kind:sc.kind=.function
 cell:∀ y ∈ sc.names,y.2≠.cell
 names:∀ y ∈ sc.names,y.2=.local->sc.names.lookup y.1=some .local
 free:∀ y ∈ sc.names,y.2=.free->fsc.names.lookup y.1=some .cell
 len:src.length=N'.length
 sees:((N'.zip src).all fun y=>match y.2 with | none=>true | some i=>decide (N[i]?=some y.1) && decide (sc.names.lookup y.1=some .free))=true
def zmY (src:List (Option Nat)) (σ:St):St:=src.map fun o=>o.bind fun i=>(σ[i]?).join
abbrev blk (X:Cx) (N':List Str) (sc:Scope) (cl:List (Str × Addr)) (C:Addr) (s:Shared) (H:Hp) (fp:List Addr) (pn:yyL):Cx :=
 { X with N:=N',s₀:=s,H₀:=H,env:=compEnvC sc cl C X.env,outer:=X.stack,ex:=fp,fn:=fun _=>false,pn:=pn }
def zo7 {X:Cx} {N N':List Str} {src:List (Option Nat)} {fsc sc:Scope} {pins:yyL} {σ:St} {H:Hp} {s:Shared} {fp:List Addr} {h':Heap} {tk:Nat} {m:Str->Option Value} (I:Inv X pins σ H s) (B:Blk N N' src fsc sc) (hN:X.N=N) (hs:X.env.scope=fsc)
  (f2:∀ b ∈ fp,zd4 X pins H b) (fb:∀ b ∈ fp,b<s.heap.objs.size) (hn:h'.Ns s.heap.objs.size m) (kp:∀ b o,s.heap.get? b=some o->h'.get? b=some o) :
  Inv (blk X N' sc (zcR X.env.cells sc.names []) s.heap.objs.size s H fp (X.pn ++ pins)) [] (zmY src σ) H { s with heap:=h',toks:=tk }:=by
 subst hN hs
 have hfr:∀ y ∈ sc.names,y.2=.free->∃ c,X.env.cells.lookup y.1=some c:=fun y hy e=>I.ok.has y.1 (.inl (B.free y hy e))
 have sub:∀ x c,(zcR X.env.cells sc.names []).lookup x=some c->X.env.cells.lookup x=some c:=fun x c e=>zdz sc.names [] hfr (fun _ _ z=>by simp at z) e
 have has:∀ x,(x,NameKind.free) ∈ sc.names->∃ c,(zcR X.env.cells sc.names []).lookup x=some c:=fun x hx=>zgi sc.names [] hx
 have ok:Cx.Ok (blk X N' sc (zcR X.env.cells sc.names []) s.heap.objs.size s H fp (X.pn ++ pins)):=by
  refine ⟨I.ok.mod,B.kind,I.ok.glob,I.ok.blt,yD _,fun x y c e1 e2=>I.ok.inj x y c (sub x c e1) (sub y c e2),fun x hx=>has x (zfk B.cell hx),fun x c e=>(nomatch e),I.ok.hd,I.ok.frames,.inl rfl,fun b hb=>⟨yU (fb b hb),fun x c e=>(f2 b hb).2.2.2.2.1 x c (sub x c e)⟩,
   I.bs,yq I.ok.bsz I.sz,fun b o e hb=>?_,fun b hb z=>?_,I.stack,I.stkFree,I.ok.tab.un I.base.tbls⟩
  ·rcases (f2 b hb).2.2.2.1 with z | z
   ·exact I.ok.noex b o e z
   ·exact yN (yT (yI e) (yq I.ok.bsz z)) (YX _)
  ·rcases yP.mp (I.stkSub b z) with e | e
   ·exact (f2 b hb).2.1 e
   ·exact (f2 b hb).2.2.1 e
 refine ⟨ok,rfl,I.bare,Un.kept kp,⟨m,hn,fun j x v e1 e2 e3=>?_⟩,fun x c e=>?_,I.hok.fresh (yD _),fun x c e=>I.freeC x c (sub x c e),fun p hp=>?_,I.hok.kept kp,?_⟩
 ·have e2':(src[j]?).map (fun o=>o.bind fun i=>(σ[i]?).join)=some (some v):=by
   have z:=e2; unfold zmY at z; rw [yH] at z; exact z
  cases hj:src[j]? with
  | none=>rw [hj] at e2'; cases e2'
  | some o =>
   rw [hj] at e2'
   cases o with
   | none=>cases e2'
   | some i =>
    have hσ:σ[i]?=some (some v):=by
     have z:(σ[i]?).join=some v:=by simpa using e2'
     cases hz:σ[i]? with
     | none=>rw [hz] at z; cases z
     | some w=>rw [hz] at z; exact yi some z
    have hz:(x,some i) ∈ N'.zip src:=by
     have q:(N'.zip src)[j]?=some (x,some i):=by
      rw [List.getElem?_zip_eq_some]; exact ⟨e1,hj⟩
     exact yf q
    have q:=Yk.mp B.sees _ hz; simp only [yr,YE] at q; obtain ⟨q1,q2⟩:=q
    have hkc:X.env.kindOf x=some .cell:=B.free _ (zdP q2) rfl
    obtain ⟨m0,_,hl⟩:=I.loc; obtain ⟨u,ru,lk⟩:=hl i x v q1 hσ (.inr (.inl hkc)); refine ⟨u,ru,.inr ⟨.inl (zfj I.ok.kind hkc q2),?_⟩⟩
    rcases lk with ⟨k,_⟩ | ⟨_,c,e,z⟩
    ·rw [hkc] at k; cases k
    ·obtain ⟨c',hc'⟩:=has x (zdP q2)
     have e':=sub x c' hc'; rw [e] at e'; cases e'; obtain ⟨o,ho,hd⟩:=z; exact ⟨c,hc',o,kp _ _ ho,hd⟩
 ·obtain ⟨v,o,ho,hd⟩:=I.cell x c (sub x c e)
  exact ⟨v,o,kp _ _ ho,hd⟩
 ·rw [yb] at hp
  obtain ⟨e,n,ne,nf,d⟩:=I.pin p hp
  refine ⟨kp _ _ e,n,yU (yI e),fun z=>?_,d⟩
  rcases yP.mp (I.stkSub p.1 z) with q | q
  ·exact ne q
  ·exact nf q
 ·show (zmY src σ).length=N'.length
  unfold zmY; rw [yE,B.len]
def Un.same {fs ex:List Addr} {H H1:Hp} {h h1 h2:Heap} {a:Addr} (u:Un fs ex H H1 h h1) (hs:Heap.SameBut a h1 h2) (ha:h.objs.size<=a):Un fs ex H H1 h h2:=by
 have ne:∀ b o,h.get? b=some o->b≠a:=fun b o e=>yU (yT (yI e) ha)
 refine ⟨fun b o e n h1 h2=>?_,fun b o e n h1 h2=>?_,u.free,fun b o e h1=>?_,u.tups,u.frzs,u.tbls⟩
 ·exact (hs.2 b (ne b o e)).trans (u.keep b o e n h1 h2)
 ·obtain ⟨sl,q⟩:=u.slot b o e n h1 h2
  exact ⟨sl,(hs.2 b (ne b o e)).trans q⟩
 ·obtain ⟨o',q⟩:=u.there b o e h1
  exact ⟨o',(hs.2 b (ne b o e)).trans q⟩
def HOk.same {P:Program} {w:World} {H:Hp} {h h':Heap} {a:Addr} (x:HOk P w H h) (hs:Heap.SameBut a h h') (ha:H a=none):HOk P w H h':=fun b o e=>by
 refine (x b o e).stay (fun c u hc q=>(hs.2 c ?_).trans q) (fun _ q=>q) fun _ _ q=>q
 rintro rfl
 rcases hc with rfl | hc
 ·rw [ha] at e; cases e
 ·rw [ha] at hc; cases hc
def PTs (X:Cx) (ifs:List Expr) (t:TT):Prop :=
 ∀ (pins:yyL) (s:Shared) (σ:St) (H:Hp) (Q:Bool->Hp->Prop),Inv X pins σ H s->t σ H Q ->
  wpAny (model X.prog X.w) X.A (forIn ifs true fun c r=>if r=true then do let ok <- isTrue c X.env (eval c X.env); pure (ForInStep.yield ok) else pure (ForInStep.yield r)) (TP X pins σ Q) X.xe s
def zpK {X:Cx}:PTs X [] (fun _ H Q=>Q true H):=fun _ _ _ H _ I h=>yF ⟨H,I,h⟩
def zpJ {X:Cx} {c:Expr} {t:TT} (h:PT X c t):PTs X [c] t:=fun pins s σ H Q I q=>wpAny_tests_one (h pins s σ H Q I q)
def zhi {P:Program} {w:World} {A:Around} {R:Result->Shared->Prop} {s:Shared} {elt tg iter:Expr} {ifs:List Expr} {sc:Scope} {pos:Pos} {it acc:Value} {env:Env} (J:Nat->Shared->Prop)
  (turn:∀ k s',J k s'->wpAny (model P w) A (pyNext it) (fun r s1=>match r with
   | none=>R (.ok .next) s1
   | some v=>wpAny (model P w) A (letOwnedTupleGo tg it v) (fun _ s2=>wpAny (model P w) A (assign tg env v) (fun _ s3 =>
     wpAny (model P w) A (forIn ifs true fun c r=>if r=true then do let ok <- isTrue c env (eval c env); pure (ForInStep.yield ok) else pure (ForInStep.yield r)) (fun b s4 =>
      if b=true then wpAny (model P w) A (eval elt env) (fun y s5=>wpAny (model P w) A (call (.builtin "list.append") [acc,y]) (fun _ s6=>∃ m,m<k/\J m s6) (fun _ _=>False) s5) (fun _ _=>False) s4
      else ∃ m,m<k/\J m s4) (fun _ _=>False) s3) (fun _ _=>False) s2) (fun _ _=>False) s1) (fun _ _=>False) s')
  (k:Nat) (h:J k s):codeAny (model P w) A (.compLoop (.ListComp elt [⟨tg,iter,ifs,0⟩] sc pos) 0 it acc env) R s:=by
 have no:∀ {α:Type} {t:Sem α} {Q Q':α->Shared->Prop} {E:Value->Shared->Prop} {z:Shared},wpAny (model P w) A t Q (fun _ _=>False) z->(∀ a z',Q a z'->Q' a z')->wpAny (model P w) A t Q' E z:=fun g1 g2=>yp g1 g2 fun _ _ f=>f.elim
 refine codeAny_loop rfl J (fun k s' hJ=>?_) k h
 show wpAny _ A ((compTurn (.ListComp elt [⟨tg,iter,ifs,0⟩] sc pos) 0 it acc env).onRaise (fun x=>do noteFrame x env; theTreesLotGoes x)) _ _ s'
 refine wpAny_noted ?_; rw [compTurn_list]
 refine yA (wpAny_standAt (yA (no (turn k s' hJ) fun r s1 h1=>?_)))
 cases r with
 | none=>exact yF h1
 | some v =>
  refine yA (no h1 fun _ s2 h2=>yA (no h2 fun _ s3 h3=>yA (no h3 fun b s4 h4=>?_)))
  cases b with
  | false=>exact yF ⟨rfl,h4⟩
  | true=>exact yA (yA (no h4 fun y s5 h5=>yA (no h5 fun _ s6 h6=>yF (yF ⟨rfl,h6⟩))))
def zrG (wi:TI) (src:List (Option Nat)) (g:TG) (tc:TT) (te:TE):TE:=fun σ H Q=>wi σ H fun J H1=>∀ D,H1 D=none->∃ W:Nat->Nat->St->Hp->Prop,(∃ m,W 0 m (zmY src σ) (upd H1 D (.lst [])))/\∀ i m σ2 H2,W i m σ2 H2 ->
 (J.stop i H2/\Q (.ref D) H2)\/(J.go i H2/\∃ M:St->Hp->Prop,(∀ σ' H',M σ' H'->∃ m',m'<m/\W (i+1) m' σ' H')/\∀ x H',J.yld i H2 x H'->g x σ2 H' fun σ3 H3=>tc σ3 H3 fun b H4 =>
  if b=true then te σ3 H4 fun y H5=>∃ ys,H5 D=some (.lst ys)/\ys.length<sizeLine/\M σ3 (upd H5 D (.lst (ys ++ [y]))) else M σ3 H4)
def zp8 {X:Cx} {elt tg iter:Expr} {ifs:List Expr} {sc fsc:Scope} {pos:Pos} {wi:TI} {g:TG} {tc:TT} {te:TE} {N N':List Str} {src:List (Option Nat)} (B:Blk N N' src fsc sc) (hi:PI X tg iter wi)
  (hg:∀ cl C s H fp pn,PG (blk X N' sc cl C s H fp pn) tg g) (ht:∀ cl C s H fp pn,PTs (blk X N' sc cl C s H fp pn) ifs tc) (he:∀ cl C s H fp pn,PE (blk X N' sc cl C s H fp pn) elt te)
  (hx:X.xe=(fun _ _=>False):=by rfl) (hc:X.calm=true:=by rfl) (hN:X.N=N:=by rfl) (hs:X.env.scope=fsc:=by rfl)
  (hf:∀ x,foldedSetIterable iter X.env x=pure x:=by intro _; rfl):PE X (.ListComp elt [⟨tg,iter,ifs,0⟩] sc pos) (zrG wi src g tc te):=by
 intro pins s σ H Q I h; rw [eval_ListComp]
 have hfr:∀ y ∈ sc.names,y.2=.free->∃ c,X.env.cells.lookup y.1=some c:=fun y hy e=>I.ok.has y.1 (.inl (by have:=B.free y hy e; rw [<- hs] at this; exact this))
 refine wpAny_comprehension_free (use:=none) (cl:=zcR X.env.cells sc.names []) rfl hf (zfA hfr) B.kind B.names ?_
 refine thn (hi pins s σ H _ I h) fun v s1 h1=>thn h1 fun itv s2 h2=>?_
 obtain ⟨it,fp,tn,J,H2,e,I2,T,st2,f2,q⟩:=h2; subst e
 obtain ⟨W,⟨m0,w0⟩,turn⟩:=q s2.heap.objs.size (I2.hok.fresh (yD _))
 refine YD (wpAny_newFunctionEnv B.cell (by intro y hy; simp at hy) (fun h1 hns hsb=>?_) B.kind)
 dsimp only at hns hsb ⊢
 have I3:Inv X pins σ (upd H2 s2.heap.objs.size (.lst [])) { s2 with heap:=s2.heap.push { cls:=.type "list",dict:=none,data:=.seq ([]:List Value).toArray } } :=
  I2.laid (t':=s2.toks) (fun b o e=>yB _ e) (yD _) ⟨YB _,[],0,.nil,yJ _ rfl⟩
 have fb:∀ b ∈ fp,b<s2.heap.objs.size:=fun b hb=>by
  obtain ⟨o,e,_⟩:=T.obj 0 _ st2 b hb; exact yI e
 have f3:∀ b ∈ fp,zd4 X pins (upd H2 s2.heap.objs.size (.lst [])) b:=fun b hb=>by
  refine ⟨?_,(f2 b hb).2⟩; rw [zq (yU (fb b hb))]; exact (f2 b hb).1
 generalize hh3:s2.heap.push { cls:=.type "list",dict:=none,data:=.seq ([]:List Value).toArray }=h3 at hns hsb I3 ⊢
 have z3:s2.heap.objs.size<h3.objs.size:=by rw [<- hh3,Ym]; exact Nat.lt_succ_self _
 have k3:∀ b o,h3.get? b=some o->h1.get? b=some o:=fun b o e=>hsb.extBut b o (yU (yI e)) (yB _ e)
 have I4:=zo7 (tk:=s2.toks+([]:List (Str × Value)).length) I3 B hN hs f3 (fun b hb=>JB (fb b hb) z3) hns k3
 have st4:tn 0 h1:=T.keep 0 _ _ st2 fun b hb o e=>k3 b o (by rw [<- hh3]; exact yB _ e)
 have fok:∀ {H':Hp},(∀ b ∈ fp,H' b=none)->∀ b ∈ fp,zd4 (blk X N' sc (zcR X.env.cells sc.names []) h3.objs.size { s2 with heap:=h3 } (upd H2 s2.heap.objs.size (.lst [])) fp (X.pn ++ pins)) [] H' b:=fun hn b hb=>by
  obtain ⟨_,g1,g2,g3,g4,g5⟩:=f3 b hb
  refine ⟨hn b hb,yU (JB (fb b hb) z3),fun z=>?_,.inl hb,fun x c e=>g4 x c (zdz sc.names [] hfr (fun _ _ z=>by simp at z) e),fun p hp=>g5 p (by rw [yb] at hp; exact hp)⟩
  rcases yP.mp (I3.stkSub b z) with e | e
  ·exact g1 e
  ·exact g2 e
 have loop:∀ s4:Shared,s4={ s2 with heap:=h1,toks:=s2.toks+([]:List (Str × Value)).length } ->
   codeAny (model X.prog X.w) X.A (.compLoop (.ListComp elt [⟨tg,iter,ifs,0⟩] sc pos) 0 (.ref it) (.ref s2.heap.objs.size) (compEnvC sc (zcR X.env.cells sc.names []) h3.objs.size X.env))
    (compPost (model X.prog X.w) X.A X.xe none (EP X pins σ Q) (.ref s2.heap.objs.size) h3.objs.size) s4:=by
  rintro s4 rfl
  refine zhi (fun k s'=>∃ i σ5 H5,Inv (blk X N' sc (zcR X.env.cells sc.names []) h3.objs.size { s2 with heap:=h3 } (upd H2 s2.heap.objs.size (.lst [])) fp (X.pn ++ pins)) [] σ5 H5 s'/\tn i s'.heap/\(∀ b ∈ fp,H5 b=none)/\W i k σ5 H5) ?_ m0
   ⟨0,_,_,I4,st4,fun b hb=>(f3 b hb).1,w0⟩
  rintro k s5 ⟨i,σ5,H5,I5,st5,fr5,w5⟩
  rcases turn i k σ5 H5 w5 with ⟨stop,qd⟩ | ⟨go,M,hM,step⟩
  ·refine thn (T.done (blk X N' sc (zcR X.env.cells sc.names []) h3.objs.size { s2 with heap:=h3 } (upd H2 s2.heap.objs.size (.lst [])) fp (X.pn ++ pins)) rfl rfl rfl hc i [] s5 σ5 H5 _ I5 (fok fr5) st5 stop) fun r s6 ⟨hr,I6⟩=>?_
   subst hr; obtain ⟨m6,hn6,_⟩:=id I6.loc
   refine ⟨m6,hn6,fun h' hsb'=>⟨.ref s2.heap.objs.size,H5,?_,rfl,qd⟩⟩
   exact I3.call' (s':={ s6 with heap:=h' }) (ch:=fp) I6.os (Un.same I6.base hsb' (yD _)) (HOk.same I6.hok hsb' I6.free) I6.bare fun b hb=>⟨(f3 b hb).2.2.2.1,(f3 b hb).2.1,(f3 b hb).2.2.2.2.1,(f3 b hb).2.2.2.2.2⟩
  ·refine thn (T.item (blk X N' sc (zcR X.env.cells sc.names []) h3.objs.size { s2 with heap:=h3 } (upd H2 s2.heap.objs.size (.lst [])) fp (X.pn ++ pins)) rfl rfl rfl hc i [] s5 σ5 H5 _ I5 (fok fr5) st5 go) fun r s6 ⟨u,hr,h6⟩=>?_
   subst hr
   refine thn h6 fun _ s7 ⟨x,H7,I7,r7,y7,st7,fr7⟩=>?_
   have I7':=I7.pinned (fok fr7) (T.obj _ _ st7)
   have back:∀ {σ8:St} {H8:Hp} {s8:Shared},Inv (blk X N' sc (zcR X.env.cells sc.names []) h3.objs.size { s2 with heap:=h3 } (upd H2 s2.heap.objs.size (.lst [])) fp (X.pn ++ pins)) ([] ++ zfq fp s7.heap) σ8 H8 s8->tn (i+1) s8.heap/\∀ b ∈ fp,H8 b=none:=fun {σ8 H8 s8} I8=>by
    have pn8:∀ b ∈ fp,∀ o,s7.heap.get? b=some o->s8.heap.get? b=some o/\H8 b=none:=fun b hb o e=>by
     have q:=I8.pin (b,o) (yc _ (yc _ (zcE hb e))); exact ⟨q.1,q.2.1⟩
    refine ⟨T.keep _ _ _ st7 fun b hb o e=>(pn8 b hb o e).1,fun b hb=>?_⟩
    obtain ⟨o,e,_⟩:=T.obj _ _ st7 b hb; exact (pn8 b hb o e).2
   have xf:∀ {α:Type} {t:Sem α} {Q1 Q2:α->Shared->Prop} {z:Shared},wpAny (model X.prog X.w) X.A t Q1 X.xe z->(∀ a z',Q1 a z'->Q2 a z')->wpAny (model X.prog X.w) X.A t Q2 (fun _ _=>False) z:=fun g1 g2=>by
    rw [hx] at g1; exact thn g1 g2
   refine xf (hg _ _ _ _ _ _ _ s7 σ5 H7 x u _ I7' r7 (step x H7 y7)) fun _ s8 ⟨σ8,H8,I8,q8⟩=>?_
   refine xf (ht _ _ _ _ _ _ _ s8 σ8 H8 _ I8 q8) fun b s9 ⟨H9,I9,q9⟩=>?_
   cases b with
   | false =>
    obtain ⟨m',hm,w'⟩:=hM σ8 H9 (by simpa using q9)
    obtain ⟨g1,g2⟩:=back I9; exact ⟨m',hm,i+1,σ8,H9,I9.unpinned,g1,g2,w'⟩
   | true =>
    rw [yM rfl] at q9 ⊢
    refine xf (he _ _ _ _ _ _ _ s9 σ8 H9 _ I9 q9) fun y s10 ⟨yv,H10,I10,r10,ys,hy,hz,w⟩=>?_
    obtain ⟨m',hm,w'⟩:=hM _ _ w
    refine xf (zeG (X:=(blk X N' sc (zcR X.env.cells sc.names []) h3.objs.size { s2 with heap:=h3 } (upd H2 s2.heap.objs.size (.lst [])) fp (X.pn ++ pins))) _ s10 σ8 H10 (.ref s2.heap.objs.size) [yv] _ [y] (fun _ H11=>H11=upd H10 s2.heap.objs.size (.lst (ys ++ [yv]))) I10 rfl (.cons r10 .nil) ⟨_,ys,yv,rfl,rfl,hy,hz,rfl⟩) fun _ s11 ⟨_,H11,I11,_,e11⟩=>?_
    subst e11; obtain ⟨g1,g2⟩:=back I11; exact ⟨m',hm,i+1,σ8,_,I11.unpinned,g1,g2,w'⟩
 exact codeAny_compStart_list (loop _ rfl) (T.self _ 0 _ _ _ st4 (loop _ rfl))
def zhh {J:It} {n:Nat} {g:TG} {tc:TT} {te:TE} {Q:VK} {D:Addr} {σ0:St} {H0:Hp} (Pv:Nat->St->Hp->Prop) (h0:Pv 0 σ0 H0)
  (hs:∀ i σ H,i<n->Pv i σ H->J.go i H/\∀ x H',J.yld i H x H'->g x σ H' fun σ3 H3=>tc σ3 H3 fun b H4=>if b=true then te σ3 H4 fun y H5=>∃ ys,H5 D=some (.lst ys)/\ys.length<sizeLine/\Pv (i+1) σ3 (upd H5 D (.lst (ys ++ [y]))) else Pv (i+1) σ3 H4)
  (hd:∀ σ H,Pv n σ H->J.stop n H/\Q (.ref D) H) :
  ∃ W:Nat->Nat->St->Hp->Prop,(∃ m,W 0 m σ0 H0)/\∀ i m σ2 H2,W i m σ2 H2 ->
   (J.stop i H2/\Q (.ref D) H2)\/(J.go i H2/\∃ M:St->Hp->Prop,(∀ σ' H',M σ' H'->∃ m',m'<m/\W (i+1) m' σ' H')/\∀ x H',J.yld i H2 x H'->g x σ2 H' fun σ3 H3=>tc σ3 H3 fun b H4 =>
    if b=true then te σ3 H4 fun y H5=>∃ ys,H5 D=some (.lst ys)/\ys.length<sizeLine/\M σ3 (upd H5 D (.lst (ys ++ [y]))) else M σ3 H4):=by
 refine ⟨fun i m σ H=>m=n-i/\i<=n/\Pv i σ H,⟨n,by simp,YB _,h0⟩,?_⟩
 rintro i m σ2 H2 ⟨rfl,hi,p⟩
 by_cases hlt:i<n
 ·obtain ⟨go,stp⟩:=hs i σ2 H2 hlt p
  exact .inr ⟨go,Pv (i+1),fun σ' H' p'=>⟨n-(i+1),by omega,rfl,hlt,p'⟩,stp⟩
 ·have e:i=n:=by omega
  subst e; exact .inl (hd σ2 H2 p)
end L2
namespace L2
open PySem
def XAt (a C:Addr) (dd:Option Addr):Heap->Prop:=fun h=>∃ vs sl,h.get? a=some ⟨.ref C,dd,.fields vs,sl⟩
end L2
namespace PL
open PySem L2
inductive D where
 | non | bl (b:Bool) | int (i:Int) | str (l:List Nat) | ty (n:String) | rng (lo hi:Int) | cls (C:Addr) | adr (b:Addr)
 | tup (l:List D) | lst (l:List D) | dic (l:List (D × D)) | dit (l:List (D × D)) | obj (C:Addr) (fs:List (Str × D)) | exc (C:Addr) (fs:List (Str × D))
inductive OD where
 | lst (l:List D) | dic (l:List (D × D)) | dit (l:List (D × D)) | obj (C:Addr) (fs:List (Str × D))
def OD.toD:OD->D
 | .lst l=>.lst l
 | .dic l=>.dic l
 | .dit l=>.dit l
 | .obj C fs=>.obj C fs
theorem paired_of {α β:Type} {R:α->β->Prop}:∀ {l:List α} {m:List β},l.length=m.length->(∀ (i:Nat) a b,l[i]?=some a->m[i]?=some b->R a b)->Paired R l m
 | [],[],_,_=>.nil
 | a :: l,b :: m,h,r=>.cons (r 0 a b rfl rfl) (paired_of (by simpa using h) fun i x y hx hy=>r (i+1) x y (by simpa using hx) (by simpa using hy))
 | [],_ :: _,h,_=>by simp at h
 | _ :: _,[],h,_=>by simp at h
theorem paired_get {α β:Type} {R:α->β->Prop}:∀ {l:List α} {m:List β} (i:Nat) {a:α} {b:β},Paired R l m->l[i]?=some a->m[i]?=some b->R a b
 | _,_,_,_,_,.nil,h,_=>by simp at h
 | _,_,0,_,_,.cons r _,h1,h2=>by simp at h1 h2; subst h1; subst h2; exact r
 | _,_,i+1,_,_,.cons _ t,h1,h2=>paired_get i t (by simpa using h1) (by simpa using h2)
def zj {α β:Type} {R:α->β->Prop} {l:List α} {m:List β} (h:Paired R l m):l.length=m.length:=Paired.length h
def zX {α β:Type} {R:α->β->Prop} {l:List α} {m:List β} (h:Paired R l m) {i:Nat} {b:β} (e:m[i]?=some b):∃ a,l[i]?=some a/\R a b:=by
 have hl:=zj h
 have hi:i<l.length:=by rw [hl]; exact (yG.mp e).1
 exact ⟨l[i],yC hi,paired_get i h (yC hi) e⟩
def zb2 {α β:Type} {R:α->β->Prop} {l:List α} {m:List β} (h:Paired R l m) {i:Nat} {a:α} (e:l[i]?=some a):∃ b,m[i]?=some b/\R a b:=by
 have hl:=zj h
 have hi:i<m.length:=by rw [<- hl]; exact (yG.mp e).1
 exact ⟨m[i],yC hi,paired_get i h e (yC hi)⟩
theorem zat {α β:Type} {R:α->β->Prop}:∀ {l l':List α} {m m':List β},Paired R l m->Paired R l' m'->Paired R (l ++ l') (m ++ m')
 | _,_,_,_,.nil,h=>h
 | _,_,_,_,.cons r t,h=>.cons r (zat t h)
theorem zeA {α β:Type} {R:α->β->Prop}:∀ {l:List α} {m:List β} (n:Nat),Paired R l m->Paired R (l.take n) (m.take n)
 | _,_,0,_=>.nil
 | _,_,_+1,.nil=>.nil
 | _,_,n+1,.cons r t=>.cons r (zeA n t)
theorem zeB {α β:Type} {R:α->β->Prop}:∀ {l:List α} {m:List β} (n:Nat),Paired R l m->Paired R (l.drop n) (m.drop n)
 | _,_,0,h=>h
 | _,_,_+1,.nil=>.nil
 | _,_,n+1,.cons _ t=>zeB n t
def keyD:Key->D
 | .inl i=>.int i
 | .inr x=>.str x.cps.toList
inductive Den (K:W.Frag) (H:Hp):V->D->Prop where
 | non:Den K H .non .non
 | bl (b:Bool):Den K H (.bl b) (.bl b)
 | int (i:Int):Den K H (.int i) (.int i)
 | str (l:List Nat):Den K H (.str (st l)) (.str l)
 | ty (n:String):Den K H (.ty n) (.ty n)
 | rng {a:Addr} {lo hi:Int} (h:Rd H a (.rng lo hi)):Den K H (.ref a) (.rng lo hi)
 | cls (C:Addr):Den K H (.ref C) (.cls C)
 | adr (b:Addr):Den K H (.ref b) (.adr b)
 | tup {a:Addr} {vs:List V} {ds:List D} (h:H a=some (.tup vs)) (l:vs.length=ds.length) (r:∀ (i:Nat) v d,vs[i]?=some v->ds[i]?=some d->Den K H v d):Den K H (.ref a) (.tup ds)
 | lst {a:Addr} {vs:List V} {ds:List D} (h:SqL K H a vs) (l:vs.length=ds.length) (r:∀ (i:Nat) v d,vs[i]?=some v->ds[i]?=some d->Den K H v d):Den K H (.ref a) (.lst ds)
 | dicK {a:Addr} {kvs:List (Key × V)} {ds:List (D × D)} (h:Rd H a (.dK kvs)) (l:kvs.length=ds.length) (r:∀ (i:Nat) p q,kvs[i]?=some p->ds[i]?=some q->q.1=keyD p.1) (r2:∀ (i:Nat) p q,kvs[i]?=some p->ds[i]?=some q->Den K H p.2 q.2):Den K H (.ref a) (.dic ds)
 | dicT {a:Addr} {kvs:List (List Key × V)} {ep:Nat} {ds:List (D × D)} (h:H a=some (.dE kvs ep)) (l:kvs.length=ds.length) (r:∀ (i:Nat) p q,kvs[i]?=some p->ds[i]?=some q->q.1=.tup (p.1.map keyD)) (r2:∀ (i:Nat) p q,kvs[i]?=some p->ds[i]?=some q->Den K H p.2 q.2):Den K H (.ref a) (.dit ds)
 | obj {a C dx:Addr} {fs:List (Str × V)} {ds:List (Str × D)} (h:H a=some (.ins C dx fs)) (l:fs.length=ds.length) (r:∀ (i:Nat) p q,fs[i]?=some p->ds[i]?=some q->q.1=p.1) (r2:∀ (i:Nat) p q,fs[i]?=some p->ds[i]?=some q->Den K H p.2 q.2):Den K H (.ref a) (.obj C ds)
 | excN {a C:Addr} (h:H a=some (.ext (XAt a C none))):Den K H (.ref a) (.exc C [])
 | exc {a C dx:Addr} {fs:List (Str × V)} {ds:List (Str × D)} (h:H a=some (.ext (XAt a C (some dx)))) (h2:H dx=some (.xd fs)) (l:fs.length=ds.length) (r:∀ (i:Nat) p q,fs[i]?=some p->ds[i]?=some q->q.1=p.1) (r2:∀ (i:Nat) p q,fs[i]?=some p->ds[i]?=some q->Den K H p.2 q.2):Den K H (.ref a) (.exc C ds)
abbrev ztB (K:W.Frag) (H:Hp):List (Key × V)->List (D × D)->Prop:=Paired fun p q=>q.1=keyD p.1/\Den K H p.2 q.2
abbrev zjs (K:W.Frag) (H:Hp):List (List Key × V)->List (D × D)->Prop:=Paired fun p q=>q.1=.tup (p.1.map keyD)/\Den K H p.2 q.2
abbrev zmD (K:W.Frag) (H:Hp):List (Str × V)->List (Str × D)->Prop:=Paired fun p q=>q.1=p.1/\Den K H p.2 q.2
abbrev zaU (K:W.Frag) (H:Hp):List V->List D->Prop:=Paired (Den K H)
section
variable {H':Hp} {v:V} {a:Addr} {vs:List V} {ds:List D}
def zdL {u:HO} (e:zY H H') (h:Rd H a u):Rd H' a u:=by
 rcases h with h | ⟨o,h⟩
 ·exact .inl (e _ _ h)
 ·exact .inr ⟨o,e _ _ h⟩
def zR (e:zY H H') (h:SqT K H a vs):SqT K H' a vs:=by
 rcases h with h | h
 ·exact .inl (zdL e h)
 ·exact .inr h
def zL (e:zY H H') (h:SqL K H a vs):SqL K H' a vs:=by
 rcases h with h | h
 ·exact .inl (zdL e h)
 ·exact .inr h
def Den.mono {d:D} (h:Den K H v d) (e:zY H H'):Den K H' v d:=by
 induction h with
 | non=>exact .non
 | bl b=>exact .bl b
 | int i=>exact .int i
 | str l=>exact .str l
 | ty n=>exact .ty n
 | rng h=>exact .rng (zdL e h)
 | cls C=>exact .cls C
 | adr C=>exact .adr C
 | tup h l r ih=>exact .tup (e _ _ h) l ih
 | lst h l r ih=>exact .lst (zL e h) l ih
 | dicK h l r r2 ih=>exact .dicK (zdL e h) l r ih
 | dicT h l r r2 ih=>exact .dicT (e _ _ h) l r ih
 | obj h l r r2 ih=>exact .obj (e _ _ h) l r ih
 | excN h=>exact .excN (e _ _ h)
 | exc h h2 l r r2 ih=>exact .exc (e _ _ h) (e _ _ h2) l r ih
def zaU.mono (h:zaU K H vs ds) (e:zY H H'):zaU K H' vs ds:=Paired.mapP h fun _ _ q=>q.mono e
def ztB.mono {kvs:List (Key × V)} {es:List (D × D)} (h:ztB K H kvs es) (e:zY H H'):ztB K H' kvs es:=Paired.mapP h fun _ _ q=>⟨q.1,q.2.mono e⟩
def zjs.mono {kvs:List (List Key × V)} {es:List (D × D)} (h:zjs K H kvs es) (e:zY H H'):zjs K H' kvs es:=Paired.mapP h fun _ _ q=>⟨q.1,q.2.mono e⟩
def zmD.mono {fs:List (Str × V)} {es:List (Str × D)} (h:zmD K H fs es) (e:zY H H'):zmD K H' fs es:=Paired.mapP h fun _ _ q=>⟨q.1,q.2.mono e⟩
def Den.mkO {C dx:Addr} {fs:List (Str × V)} {es:List (Str × D)} (h:H a=some (.ins C dx fs)) (r:zmD K H fs es):Den K H (.ref a) (.obj C es):=.obj h (zj r) (fun i _ _ h1 h2=>(paired_get i r h1 h2).1) fun i _ _ h1 h2=>(paired_get i r h1 h2).2
def Den.objI {C:Addr} {es:List (Str × D)} (h:Den K H v (.obj C es)):∃ a dx fs,v=.ref a/\H a=some (.ins C dx fs)/\zmD K H fs es:=by
 cases h with
 | obj h l r r2=>exact ⟨_,_,_,rfl,h,paired_of l fun i p q h1 h2=>⟨r i p q h1 h2,r2 i p q h1 h2⟩⟩
def zo8 (K:W.Frag) (H:Hp) (dd:Option Addr) (es:List (Str × D)):Prop:=(dd=none/\es=[])\/∃ dx fs,dd=some dx/\H dx=some (.xd fs)/\zmD K H fs es
def zo8.mono {dd:Option Addr} {es:List (Str × D)} (h:zo8 K H dd es) (e:zY H H'):zo8 K H' dd es:=by
 rcases h with h | ⟨dx,fs,h1,h2,h3⟩
 ·exact .inl h
 ·exact .inr ⟨dx,fs,h1,e _ _ h2,h3.mono e⟩
def Den.mkX {C:Addr} {dd:Option Addr} {es:List (Str × D)} (h:H a=some (.ext (XAt a C dd))) (x:zo8 K H dd es):Den K H (.ref a) (.exc C es):=by
 rcases x with ⟨rfl,rfl⟩ | ⟨dx,fs,rfl,h2,r⟩
 ·exact .excN h
 ·exact .exc h h2 (zj r) (fun i _ _ h1 h2=>(paired_get i r h1 h2).1) fun i _ _ h1 h2=>(paired_get i r h1 h2).2
def Den.excI {C:Addr} {es:List (Str × D)} (h:Den K H v (.exc C es)):∃ a dd,v=.ref a/\H a=some (.ext (XAt a C dd))/\zo8 K H dd es:=by
 cases h with
 | excN h=>exact ⟨_,_,rfl,h,.inl ⟨rfl,rfl⟩⟩
 | exc h h2 l r r2=>exact ⟨_,_,rfl,h,.inr ⟨_,_,rfl,h2,paired_of l fun i p q h1 h2=>⟨r i p q h1 h2,r2 i p q h1 h2⟩⟩⟩
def Den.adrI {b:Addr} (h:Den K H v (.adr b)):v=.ref b:=by cases h; rfl
def Den.mkDK {kvs:List (Key × V)} {es:List (D × D)} (h:Rd H a (.dK kvs)) (r:ztB K H kvs es):Den K H (.ref a) (.dic es):=.dicK h (zj r) (fun i _ _ h1 h2=>(paired_get i r h1 h2).1) fun i _ _ h1 h2=>(paired_get i r h1 h2).2
def Den.mkDT {kvs:List (List Key × V)} {ep:Nat} {es:List (D × D)} (h:H a=some (.dE kvs ep)) (r:zjs K H kvs es):Den K H (.ref a) (.dit es):=.dicT h (zj r) (fun i _ _ h1 h2=>(paired_get i r h1 h2).1) fun i _ _ h1 h2=>(paired_get i r h1 h2).2
def Den.ditI {es:List (D × D)} (h:Den K H v (.dit es)):∃ a kvs ep,v=.ref a/\H a=some (.dE kvs ep)/\zjs K H kvs es:=by
 cases h with
 | dicT h l r r2=>exact ⟨_,_,_,rfl,h,paired_of l fun i p q h1 h2=>⟨r i p q h1 h2,r2 i p q h1 h2⟩⟩
def Den.mkT (h:H a=some (.tup vs)) (r:zaU K H vs ds):Den K H (.ref a) (.tup ds):=.tup h (zj r) fun i _ _ h1 h2=>paired_get i r h1 h2
def Den.mkL (h:SqL K H a vs) (r:zaU K H vs ds):Den K H (.ref a) (.lst ds):=.lst h (zj r) fun i _ _ h1 h2=>paired_get i r h1 h2
def Den.tupJ (h:Den K H v (.tup ds)):∃ a vs,v=.ref a/\H a=some (.tup vs)/\zaU K H vs ds:=by
 cases h with
 | tup h l r=>exact ⟨_,_,rfl,h,paired_of l r⟩
def Den.tupI (h:Den K H v (.tup ds)):∃ a vs,v=.ref a/\SqT K H a vs/\zaU K H vs ds:=by
 cases h with
 | tup h l r=>exact ⟨_,_,rfl,SqT.of h,paired_of l r⟩
def Den.lstI (h:Den K H v (.lst ds)):∃ a vs,v=.ref a/\SqL K H a vs/\zaU K H vs ds:=by
 cases h with
 | lst h l r=>exact ⟨_,_,rfl,h,paired_of l r⟩
def Den.intI {i:Int} (h:Den K H v (.int i)):v=.int i:=by cases h; rfl
def Den.blI {b:Bool} (h:Den K H v (.bl b)):v=.bl b:=by cases h; rfl
def Den.strI {l:List Nat} (h:Den K H v (.str l)):v=.str (st l):=by cases h; rfl
def Den.nonI (h:Den K H v .non):v=.non:=by cases h; rfl
def Den.non_iff {d:D} (h:Den K H v d):v=.non↔d=.non:=by cases h <;> simp
end
inductive Slot where
 | emp | val (d:D) | own (o:OD)
 | bk (d:D->D) (b:Addr) (xs:OD)
abbrev Sts:=List Slot
structure Wd where
 H₀:Hp
 Hi₀:Hp
 F:List Addr
def za5 (K:W.Frag) (Hi H:Hp) (a:Addr):OD->Prop
 | .lst ds=>∃ vs,H a=some (.lst vs)/\zaU K Hi vs ds
 | .dic ds=>∃ kvs,H a=some (.dK kvs)/\ztB K Hi kvs ds
 | .dit ds=>∃ kvs ep,H a=some (.dE kvs ep)/\zjs K Hi kvs ds
 | .obj C ds=>∃ dx fs,H a=some (.ins C dx fs)/\zmD K Hi fs ds
def zpA:Option (Option V)->Option Addr
 | some (some (.ref a))=>some a
 | _=>none
def adr (n:Nat) (W:Wd) (σ:St) (i:Nat):Option Addr:=if i<n then zpA σ[i]? else W.F[i-n]?
structure Free (n:Nat) (W:Wd) (Γ:Sts) (σ:St) (a:Addr):Prop where
 own:∀ (j:Nat) o',Γ[j]?=some (.own o')->adr n W σ j≠some a
 bk:∀ (j:Nat) d xs,Γ[j]?≠some (.bk d a xs)
def Hol (K:W.Frag) (d:D->D):Prop:=∀ (b:Addr) (Hi:Hp) (v:V) (o:OD),Den K Hi (.ref b) o.toD->Den K Hi v (d (.adr b))->Den K Hi v (d o.toD)
structure BkAt (K:W.Frag) (n:Nat) (W:Wd) (Hi:Hp) (Γ:Sts) (σ:St) (H:Hp) (i:Nat) (d:D->D) (b:Addr) (xs:OD):Prop where
 val:∃ v,σ[i]?=some (some v)/\Den K Hi v (d (.adr b))
 hol:Hol K d
 hi:Hi b=none
 h0:b ∉ W.F->W.H₀ b=none
 at_:za5 K Hi H b xs
 one:∀ (j:Nat) d' xs',Γ[j]?=some (.bk d' b xs')->j=i
 ne:∀ (j:Nat) o',Γ[j]?=some (.own o')->adr n W σ j≠some b
structure Fz (Hi H:Hp):Prop where
 sub:zY Hi H
 tups:∀ a xs,H a=some (.tup xs)->Hi a=some (.tup xs)
structure Good (K:W.Frag) (n:Nat) (W:Wd) (Hi:Hp) (Γ:Sts) (σ:St) (H:Hp):Prop where
 len:σ.length=n
 fz:Fz Hi H
 keep:∀ a o,W.H₀ a=some o->a ∉ W.F->H a=some o
 there:∀ a o,W.H₀ a=some o->∃ o',H a=some o'
 fro:∀ a o,W.H₀ a=some o->Hi a=W.Hi₀ a
 val:∀ (i:Nat) d,Γ[i]?=some (.val d)->∃ v,σ[i]?=some (some v)/\Den K Hi v d
 own:∀ (i:Nat) o,Γ[i]?=some (.own o)->∃ a,adr n W σ i=some a/\Hi a=none/\(i<n->W.H₀ a=none)/\za5 K Hi H a o
 apart:∀ (i j:Nat) o o' a,Γ[i]?=some (.own o)->Γ[j]?=some (.own o')->adr n W σ i=some a->adr n W σ j=some a->i=j
 bk:∀ (i:Nat) d b xs,Γ[i]?=some (.bk d b xs)->BkAt K n W Hi Γ σ H i d b xs
def Good.sub {K:W.Frag} {n:Nat} {W:Wd} {Hi:Hp} {Γ:Sts} {σ:St} {H:Hp} (g:Good K n W Hi Γ σ H):zY Hi H:=g.fz.sub
structure Ext (Hi H Hi' H':Hp):Prop where
 hi:zY Hi Hi'
 h:zY H H'
 fz:Fz Hi' H'
 fro:∀ a o,H a=some o->Hi' a=Hi a
def Ext.refl {Hi H:Hp} (s:Fz Hi H):Ext Hi H Hi H:=⟨zY.refl _,zY.refl _,s,fun _ _ _=>rfl⟩
def Ext.trans {A B A1 B1 A2 B2:Hp} (x:Ext A B A1 B1) (y:Ext A1 B1 A2 B2):Ext A B A2 B2 :=
 ⟨x.hi.trans y.hi,x.h.trans y.h,y.fz,fun a o e=>(y.fro a o (x.h a o e)).trans (x.fro a o e)⟩
def zM {H:Hp} {p:Addr} (h:H p=none) (o:HO):zY H (upd H p o):=fun b u q=>by rw [zq (zA q h)]; exact q
def Ext.new {Hi H:Hp} {p:Addr} (s:Fz Hi H) (h:H p=none) (o:HO):Ext Hi H (upd Hi p o) (upd H p o):=by
 have hi:Hi p=none:=s.sub.free h
 refine ⟨zM hi o,zM h o,⟨fun b u q=>?_,fun b xs q=>?_⟩,fun b u q=>?_⟩
 ·by_cases e:b=p
  ·subst e; rw [zp] at q ⊢; exact q
  ·rw [zq e] at q ⊢; exact s.sub b u q
 ·by_cases e:b=p
  ·subst e; rw [zp] at q ⊢; exact q
  ·rw [zq e] at q ⊢; exact s.tups b xs q
 ·exact zq (zA q h)
def Ext.newO {Hi H:Hp} {p:Addr} (s:Fz Hi H) (h:H p=none) (o:HO) (ho:∀ xs,o≠.tup xs):Ext Hi H Hi (upd H p o) :=
 ⟨zY.refl _,zM h o,⟨s.sub.trans (zM h o),fun b xs q=>by
  by_cases e:b=p
  ·subst e; rw [zp] at q; exact yN (Option.some.inj q) (ho xs)
  ·rw [zq e] at q; exact s.tups b xs q⟩,fun _ _ _=>rfl⟩
section
variable {n:Nat} {W:Wd} {Hi Hi' H':Hp} {Γ:Sts} {a:Addr} {o:OD}
def za5.there (h:za5 K Hi H a o):∃ u,H a=some u:=by
 cases o with
 | lst ds=>obtain ⟨vs,e,_⟩:=h; exact ⟨_,e⟩
 | dic ds=>obtain ⟨kvs,e,_⟩:=h; exact ⟨_,e⟩
 | dit ds=>obtain ⟨kvs,ep,e,_⟩:=h; exact ⟨_,e⟩
 | obj C ds=>obtain ⟨dx,fs,e,_⟩:=h; exact ⟨_,e⟩
def za5.mono (h:za5 K Hi H a o) (hi:zY Hi Hi') (e:∀ u,H a=some u->H' a=some u):za5 K Hi' H' a o:=by
 cases o with
 | lst ds=>obtain ⟨vs,q,r⟩:=h; exact ⟨vs,e _ q,r.mono hi⟩
 | dic ds=>obtain ⟨kvs,q,r⟩:=h; exact ⟨kvs,e _ q,r.mono hi⟩
 | dit ds=>obtain ⟨kvs,ep,q,r⟩:=h; exact ⟨kvs,ep,e _ q,r.mono hi⟩
 | obj C ds=>obtain ⟨dx,fs,q,r⟩:=h; exact ⟨dx,fs,e _ q,r.mono hi⟩
def za5.notTup (h:za5 K Hi H a o):∀ xs,H a≠some (.tup xs):=fun xs z=>by
 cases o with
 | lst ds=>obtain ⟨vs,e,_⟩:=h; rw [e] at z; cases z
 | dic ds=>obtain ⟨kvs,e,_⟩:=h; rw [e] at z; cases z
 | dit ds=>obtain ⟨kvs,ep,e,_⟩:=h; rw [e] at z; cases z
 | obj C ds=>obtain ⟨dx,fs,e,_⟩:=h; rw [e] at z; cases z
def Good.ext (g:Good K n W Hi Γ σ H) (e:Ext Hi H Hi' H'):Good K n W Hi' Γ σ H' where
 len:=g.len
 fz:=e.fz
 keep:=fun a o h n=>e.h a o (g.keep a o h n)
 there:=fun a o h=>by
  obtain ⟨o',q⟩:=g.there a o h; exact ⟨o',e.h a o' q⟩
 fro:=fun a o h=>by
  obtain ⟨o',q⟩:=g.there a o h; exact (e.fro a o' q).trans (g.fro a o h)
 val:=fun i d h=>by
  obtain ⟨v,h1,h2⟩:=g.val i d h; exact ⟨v,h1,h2.mono e.hi⟩
 own:=fun i o h=>by
  obtain ⟨a,h1,h2,h3,h4⟩:=g.own i o h; obtain ⟨u,hu⟩:=h4.there
  exact ⟨a,h1,(e.fro a u hu).trans h2,h3,h4.mono e.hi fun u q=>e.h a u q⟩
 apart:=g.apart
 bk:=fun i d b xs h=>by
  obtain ⟨⟨v,h0,h1⟩,h2,h3,h4,h5,h6,h7⟩:=g.bk i d b xs h
  obtain ⟨u,hu⟩:=h5.there
  exact ⟨⟨v,h0,h1.mono e.hi⟩,h2,(e.fro b u hu).trans h3,h4,h5.mono e.hi fun u q=>e.h b u q,h6,h7⟩
def Good.weak (g:Good K n W Hi Γ σ H) {Γ':Sts} (h:∀ (i:Nat) s,Γ'[i]?=some s->s=.emp\/Γ[i]?=some s):Good K n W Hi Γ' σ H where
 len:=g.len
 fz:=g.fz
 keep:=g.keep
 there:=g.there
 fro:=g.fro
 val:=fun i d e=>by
  rcases h i _ e with z | z
  ·cases z
  ·exact g.val i d z
 own:=fun i d e=>by
  rcases h i _ e with z | z
  ·cases z
  ·exact g.own i d z
 apart:=fun i j o o' a e1 e2=>by
  rcases h i _ e1 with z | z
  ·cases z
  ·rcases h j _ e2 with y | y
   ·cases y
   ·exact g.apart i j o o' a z y
 bk:=fun i d b xs e=>by
  rcases h i _ e with z | z
  ·cases z
  ·obtain ⟨h0,h1,h2,h3,h4,h5,h6⟩:=g.bk i d b xs z
   refine ⟨h0,h1,h2,h3,h4,fun j d' xs' q=>?_,fun j o' q=>?_⟩
   ·rcases h j _ q with y | y
    ·cases y
    ·exact h5 j _ _ y
   ·rcases h j _ q with y | y
    ·cases y
    ·exact h6 j o' y
def zdK {o:Option (Option V)} (h:zpA o=some a):o=some (some (.ref a)):=by
 unfold zpA at h; split at h
 ·cases h; rfl
 ·cases h
def Good.set (g:Good K n W Hi Γ σ H) {i:Nat} {v:V} {d:D} (hi:i<n) (r:Den K Hi v d):Good K n W Hi (Γ.set i (.val d)) (σ.set i (some v)) H:=by
 have ad:∀ j,j≠i->adr n W (σ.set i (some v)) j=adr n W σ j:=fun j hj=>by
  unfold adr
  rw [yZ (fun z=>hj z.symm)]
 have inv:∀ (j:Nat) (s:Slot),(Γ.set i (.val d))[j]?=some s->(j=i/\s=.val d)\/(j≠i/\Γ[j]?=some s):=fun j s e=>by
  by_cases hj:j=i
  ·subst hj
   refine .inl ⟨rfl,?_⟩; rw [List.getElem?_set] at e; simp only [if_true] at e; split at e
   ·exact (Option.some.inj e).symm
   ·cases e
  ·rw [yZ (fun z=>hj z.symm)] at e
   exact .inr ⟨hj,e⟩
 refine ⟨by rw [List.length_set]; exact g.len,g.fz,g.keep,g.there,g.fro,fun j d' e=>?_,fun j o e=>?_,fun j k o o' a e1 e2 h1 h2=>?_,fun j d' b xs e=>?_⟩
 ·rcases inv j _ e with ⟨rfl,z⟩ | ⟨hj,z⟩
  ·cases z
   exact ⟨v,by rw [YG (by rw [g.len]; exact hi)],r⟩
  ·obtain ⟨w,h1,h2⟩:=g.val j d' z
   exact ⟨w,by rw [yZ (fun z=>hj z.symm)]; exact h1,h2⟩
 ·rcases inv j _ e with ⟨rfl,z⟩ | ⟨hj,z⟩
  ·cases z
  ·obtain ⟨a,h1,h2⟩:=g.own j o z
   exact ⟨a,by rw [ad j hj]; exact h1,h2⟩
 ·rcases inv j _ e1 with ⟨rfl,z⟩ | ⟨hj,z⟩
  ·cases z
  ·rcases inv k _ e2 with ⟨rfl,y⟩ | ⟨hk,y⟩
   ·cases y
   ·exact g.apart j k o o' a z y (by rw [<- ad j hj]; exact h1) (by rw [<- ad k hk]; exact h2)
 ·rcases inv j _ e with ⟨rfl,z⟩ | ⟨hj,z⟩
  ·cases z
  ·obtain ⟨⟨w,w1,w2⟩,h1,h2,h3,h4,h5,h6⟩:=g.bk j d' b xs z
   refine ⟨⟨w,by rw [yZ (fun z=>hj z.symm)]; exact w1,w2⟩,h1,h2,h3,h4,fun k d' xs' q=>?_,fun k o' q=>?_⟩
   ·rcases inv k _ q with ⟨rfl,y⟩ | ⟨hk,y⟩
    ·cases y
    ·exact h5 k _ _ y
   ·rcases inv k _ q with ⟨rfl,y⟩ | ⟨hk,y⟩
    ·cases y
    ·rw [ad k hk]
     exact h6 k o' y
def Good.setO (g:Good K n W Hi Γ σ H) {i:Nat} (hi:i<n) (h0:Hi a=none) (h1:W.H₀ a=none) (fr:Free n W Γ σ a) (h3:za5 K Hi H a o):Good K n W Hi (Γ.set i (.own o)) (σ.set i (some (.ref a))) H:=by
 have ad:∀ j,j≠i->adr n W (σ.set i (some (.ref a))) j=adr n W σ j:=fun j hj=>by
  unfold adr
  rw [yZ (fun z=>hj z.symm)]
 have ai:adr n W (σ.set i (some (.ref a))) i=some a:=by
  unfold adr
  rw [yM hi,YG (by rw [g.len]; exact hi)]
  rfl
 have inv:∀ (j:Nat) (s:Slot),(Γ.set i (.own o))[j]?=some s->(j=i/\s=.own o)\/(j≠i/\Γ[j]?=some s):=fun j s e=>by
  by_cases hj:j=i
  ·subst hj
   refine .inl ⟨rfl,?_⟩; rw [List.getElem?_set] at e; simp only [if_true] at e; split at e
   ·exact (Option.some.inj e).symm
   ·cases e
  ·rw [yZ (fun z=>hj z.symm)] at e
   exact .inr ⟨hj,e⟩
 refine ⟨by rw [List.length_set]; exact g.len,g.fz,g.keep,g.there,g.fro,fun j d' e=>?_,fun j o e=>?_,fun j k o o' b e1 e2 q1 q2=>?_,fun j d' b xs e=>?_⟩
 ·rcases inv j _ e with ⟨rfl,z⟩ | ⟨hj,z⟩
  ·cases z
  ·obtain ⟨w,h1,h2⟩:=g.val j d' z
   exact ⟨w,by rw [yZ (fun z=>hj z.symm)]; exact h1,h2⟩
 ·rcases inv j _ e with ⟨rfl,z⟩ | ⟨hj,z⟩
  ·cases z
   exact ⟨a,ai,h0,fun _=>h1,h3⟩
  ·obtain ⟨b,q1,q2⟩:=g.own j o z
   exact ⟨b,by rw [ad j hj]; exact q1,q2⟩
 ·rcases inv j _ e1 with ⟨rfl,z⟩ | ⟨hj,z⟩
  ·rcases inv k _ e2 with ⟨rfl,y⟩ | ⟨hk,y⟩
   ·rfl
   ·rw [ai] at q1
    cases q1; rw [ad k hk] at q2; exact yN q2 (fr.own k _ y)
  ·rcases inv k _ e2 with ⟨rfl,y⟩ | ⟨hk,y⟩
   ·rw [ai] at q2
    cases q2; rw [ad j hj] at q1; exact yN q1 (fr.own j _ z)
   ·exact g.apart j k o o' b z y (by rw [<- ad j hj]; exact q1) (by rw [<- ad k hk]; exact q2)
 ·rcases inv j _ e with ⟨rfl,z⟩ | ⟨hj,z⟩
  ·cases z
  ·obtain ⟨⟨w,w1,w2⟩,h1,h2,h3,h4,h5,h6⟩:=g.bk j d' b xs z
   refine ⟨⟨w,by rw [yZ (fun z=>hj z.symm)]; exact w1,w2⟩,h1,h2,h3,h4,fun k d' xs' q=>?_,fun k o' q=>?_⟩
   ·rcases inv k _ q with ⟨rfl,y⟩ | ⟨hk,y⟩
    ·cases y
    ·exact h5 k _ _ y
   ·rcases inv k _ q with ⟨rfl,y⟩ | ⟨hk,y⟩
    ·rw [ai]
     intro w; cases w; exact fr.bk j _ _ z
    ·rw [ad k hk]
     exact h6 k o' y
def Good.put (g:Good K n W Hi Γ σ H) {i:Nat} {o0:OD} {u:HO} (e0:Γ[i]?=some (.own o0)) (ha:adr n W σ i=some a) (hn:za5 K Hi (upd H a u) a o):Good K n W Hi (Γ.set i (.own o)) σ (upd H a u):=by
 obtain ⟨a',h1,h2,h3,h4⟩:=g.own i _ e0; rw [ha] at h1; cases h1
 have hF:i<n\/a ∈ W.F:=by
  by_cases hi:i<n
  ·exact .inl hi
  ·unfold adr at ha
   rw [yK hi] at ha; exact .inr (yf ha)
 have inv:∀ (j:Nat) (s:Slot),(Γ.set i (.own o))[j]?=some s->(j=i/\s=.own o)\/(j≠i/\Γ[j]?=some s):=fun j s e=>by
  by_cases hj:j=i
  ·subst hj
   refine .inl ⟨rfl,?_⟩; rw [List.getElem?_set] at e; simp only [if_true] at e; split at e
   ·exact (Option.some.inj e).symm
   ·cases e
  ·rw [yZ (fun z=>hj z.symm)] at e
   exact .inr ⟨hj,e⟩
 refine ⟨g.len,⟨fun b w q=>?_,fun b xs q=>?_⟩,fun b w q nf=>?_,fun b w q=>?_,g.fro,fun j d' e=>?_,fun j o' e=>?_,fun j k o1 o2 b e1 e2 q1 q2=>?_,fun j d' b xs e=>?_⟩
 ·rw [zq (fun z=>by rw [z,h2] at q; cases q)]
  exact g.sub b w q
 ·by_cases hb:b=a
  ·subst hb
   exact yN q (hn.notTup xs)
  ·rw [zq hb] at q
   exact g.fz.tups b xs q
 ·have hb:b≠a:=fun z=>by
   subst z
   rcases hF with hi | hf
   ·rw [h3 hi] at q; cases q
   ·exact nf hf
  rw [zq hb]; exact g.keep b w q nf
 ·by_cases hb:b=a
  ·exact ⟨u,by rw [hb,zp]⟩
  ·obtain ⟨w',hw⟩:=g.there b w q
   exact ⟨w',by rw [zq hb]; exact hw⟩
 ·rcases inv j _ e with ⟨rfl,z⟩ | ⟨hj,z⟩
  ·cases z
  ·exact g.val j d' z
 ·rcases inv j _ e with ⟨rfl,z⟩ | ⟨hj,z⟩
  ·cases z
   exact ⟨a,ha,h2,h3,hn⟩
  ·obtain ⟨b,q1,q2,q3,q4⟩:=g.own j o' z
   have hb:b≠a:=fun w=>hj (g.apart j i _ _ a z e0 (by rw [<- w]; exact q1) ha)
   exact ⟨b,q1,q2,q3,q4.mono (zY.refl _) fun w hw=>by rw [zq hb]; exact hw⟩
 ·have e1':∃ oo,Γ[j]?=some (.own oo):=by
   rcases inv j _ e1 with ⟨rfl,z⟩ | ⟨hj,z⟩
   ·exact ⟨_,e0⟩
   ·exact ⟨_,z⟩
  have e2':∃ oo,Γ[k]?=some (.own oo):=by
   rcases inv k _ e2 with ⟨rfl,z⟩ | ⟨hj,z⟩
   ·exact ⟨_,e0⟩
   ·exact ⟨_,z⟩
  obtain ⟨_,z1⟩:=e1'; obtain ⟨_,z2⟩:=e2'; exact g.apart j k _ _ b z1 z2 q1 q2
 ·rcases inv j _ e with ⟨rfl,z⟩ | ⟨hj,z⟩
  ·cases z
  ·obtain ⟨p0,p1,p2,p3,p4,p5,p6⟩:=g.bk j d' b xs z
   have hb:b≠a:=fun w=>p6 i _ e0 (by rw [w]; exact ha)
   refine ⟨p0,p1,p2,p3,p4.mono (zY.refl _) fun w hw=>by rw [zq hb]; exact hw,fun k d' xs' q=>?_,fun k o' q=>?_⟩
   ·rcases inv k _ q with ⟨rfl,y⟩ | ⟨hk,y⟩
    ·cases y
    ·exact p5 k _ _ y
   ·rcases inv k _ q with ⟨rfl,y⟩ | ⟨hk,y⟩
    ·exact p6 k _ e0
    ·exact p6 k o' y
def Good.freezeA (g:Good K n W Hi Γ σ H) (h0:Hi a=none) (h1:W.H₀ a=none) (fr:Free n W Γ σ a) {u:HO} (hu:H a=some u):Good K n W (upd Hi a u) Γ σ H:=by
 have hs:zY Hi (upd Hi a u):=zM h0 u
 refine ⟨g.len,⟨fun b w q=>?_,fun b xs q=>?_⟩,g.keep,g.there,fun b w q=>?_,fun j d' e=>?_,fun j o' e=>?_,g.apart,fun j d' b xs e=>?_⟩
 ·by_cases hb:b=a
  ·subst hb; rw [zp] at q; cases q; exact hu
  ·rw [zq hb] at q; exact g.sub b w q
 ·have hb:b≠a:=fun z=>by
   have:=g.fz.tups b xs q
   rw [z,h0] at this; cases this
  rw [zq hb]; exact g.fz.tups b xs q
 ·have hb:b≠a:=fun z=>by subst z; rw [h1] at q; cases q
  rw [zq hb]; exact g.fro b w q
 ·obtain ⟨w,q1,q2⟩:=g.val j d' e
  exact ⟨w,q1,q2.mono hs⟩
 ·obtain ⟨b,q1,q2,q3,q4⟩:=g.own j o' e
  have hb:b≠a:=fun z=>fr.own j o' e (by rw [<- z]; exact q1)
  exact ⟨b,q1,by rw [zq hb]; exact q2,q3,q4.mono hs fun _ z=>z⟩
 ·obtain ⟨⟨w,w1,w2⟩,p1,p2,p3,p4,p5,p6⟩:=g.bk j d' b xs e
  have hb:b≠a:=fun z=>fr.bk j _ _ (by rw [<- z]; exact e)
  exact ⟨⟨w,w1,w2.mono hs⟩,p1,by rw [zq hb]; exact p2,p3,p4.mono hs fun _ z=>z,p5,p6⟩
def za5.den (h:za5 K Hi H a o) (h0:Hi a=none) {u:HO} (hu:H a=some u):Den K (upd Hi a u) (.ref a) o.toD:=by
 cases o with
 | lst ds =>
  obtain ⟨vs,q,r⟩:=h; rw [hu] at q; cases q; exact Den.mkL (SqL.of zp) (r.mono (zM h0 _))
 | dic ds =>
  obtain ⟨kvs,q,r⟩:=h; rw [hu] at q; cases q; exact Den.mkDK (.inl zp) (r.mono (zM h0 _))
 | dit ds =>
  obtain ⟨kvs,ep,q,r⟩:=h; rw [hu] at q; cases q; exact Den.mkDT zp (r.mono (zM h0 _))
 | obj C ds =>
  obtain ⟨dx,fs,q,r⟩:=h; rw [hu] at q; cases q; exact Den.mkO zp (r.mono (zM h0 _))
end
abbrev TE':=Sts->(D->Sts->Prop)->Prop
abbrev TT':=Sts->(Bool->Sts->Prop)->Prop
abbrev TA':=Sts->(List D->Sts->Prop)->Prop
abbrev TO':=Sts->(OD->Sts->Prop)->Prop
abbrev TI':=Sts->(List D->Sts->Prop)->Prop
abbrev TG':=D->Sts->(Sts->Prop)->Prop
inductive Res where
 | val (d:D) | own (o:OD)
 | bk (d:D->D) (o:OD)
def Res.toD:Res->D
 | .val d=>d
 | .own o=>o.toD
 | .bk d o=>d o.toD
structure Ends' where
 nx:Sts->Prop
 rt:Res->Sts->Prop
 bk:Sts->Prop:=fun _=>False
 ct:Sts->Prop:=fun _=>False
abbrev TS':=Ends'->Sts->Prop
def ztw (K:W.Frag) (n:Nat) (W:Wd) (Hi:Hp) (σ:St) (Q:D->Sts->Prop):VK:=fun v H'=>∃ Hi' d Γ',zY Hi Hi'/\Good K n W Hi' Γ' σ H'/\Den K Hi' v d/\Q d Γ'
def tOf (K:W.Frag) (n:Nat) (t:TE'):TE:=fun σ H Q2=>∃ W Hi Γ Q,Good K n W Hi Γ σ H/\t Γ Q/\∀ v H',ztw K n W Hi σ Q v H'->Q2 v H'
def zq6 (K:W.Frag) (n:Nat) (t:TT'):TT:=fun σ H Q2=>∃ W Hi Γ Q,Good K n W Hi Γ σ H/\t Γ Q/\∀ b H' Hi' Γ',zY Hi Hi'->Good K n W Hi' Γ' σ H'->Q b Γ'->Q2 b H'
def zuq (K:W.Frag) (n:Nat) (t:TA'):TA:=fun σ H Q2=>∃ W Hi Γ Q,Good K n W Hi Γ σ H/\t Γ Q/\∀ vs H' Hi' Γ' ds,zY Hi Hi'->Good K n W Hi' Γ' σ H'->zaU K Hi' vs ds->Q ds Γ'->Q2 vs H'
structure New (K:W.Frag) (n:Nat) (W:Wd) (Hi:Hp) (Γ:Sts) (σ:St) (H:Hp) (a:Addr) (o:OD):Prop where
 hi:Hi a=none
 h0:W.H₀ a=none
 ne:Free n W Γ σ a
 own:za5 K Hi H a o
def oOf (K:W.Frag) (n:Nat) (t:TO'):TE:=fun σ H Q2=>∃ W Hi Γ Q,Good K n W Hi Γ σ H/\t Γ Q/\∀ a H' Hi' Γ' o,zY Hi Hi'->Good K n W Hi' Γ' σ H'->New K n W Hi' Γ' σ H' a o->Q o Γ'->Q2 (.ref a) H'
def gOf (K:W.Frag) (n:Nat) (g:TG'):TG:=fun v σ H Q2=>∃ W Hi Γ d Q,Good K n W Hi Γ σ H/\Den K Hi v d/\g d Γ Q/\∀ σ' H' Hi' Γ',zY Hi Hi'->Good K n W Hi' Γ' σ' H'->Q Γ'->Q2 σ' H'
def zq4 (K:W.Frag) (H₀ Hi H:Hp) (v:V):Res->Prop
 | .val d=>Den K Hi v d
 | .own o=>∃ a,v=.ref a/\Hi a=none/\H₀ a=none/\za5 K Hi H a o
 | .bk d o=>∃ b,Den K Hi v (d (.adr b))/\Hol K d/\Hi b=none/\H₀ b=none/\za5 K Hi H b o
structure Lifts (K:W.Frag) (n:Nat) (W:Wd) (Hi:Hp) (N:Ends') (N2:Ends):Prop where
 nx:∀ σ' H' Hi' Γ',zY Hi Hi'->Good K n W Hi' Γ' σ' H'->N.nx Γ'->N2.nx σ' H'
 bk:∀ σ' H' Hi' Γ',zY Hi Hi'->Good K n W Hi' Γ' σ' H'->N.bk Γ'->N2.bk σ' H'
 ct:∀ σ' H' Hi' Γ',zY Hi Hi'->Good K n W Hi' Γ' σ' H'->N.ct Γ'->N2.ct σ' H'
 rt:∀ v σ' H' Hi' Γ' r,zY Hi Hi'->Good K n W Hi' Γ' σ' H'->zq4 K W.H₀ Hi' H' v r->N.rt r Γ'->N2.rt v H'
def Lifts.mono {K:W.Frag} {n:Nat} {W:Wd} {Hi Hi':Hp} {N:Ends'} {N2:Ends} (l:Lifts K n W Hi N N2) (s:zY Hi Hi'):Lifts K n W Hi' N N2 :=
 ⟨fun σ' H' Hi2 Γ' e=>l.nx σ' H' Hi2 Γ' (s.trans e),fun σ' H' Hi2 Γ' e=>l.bk σ' H' Hi2 Γ' (s.trans e),fun σ' H' Hi2 Γ' e=>l.ct σ' H' Hi2 Γ' (s.trans e),fun v σ' H' Hi2 Γ' r e=>l.rt v σ' H' Hi2 Γ' r (s.trans e)⟩
def sOf (K:W.Frag) (n:Nat) (t:TS'):TS:=fun N2 σ H=>∃ W Hi Γ N,Good K n W Hi Γ σ H/\t N Γ/\Lifts K n W Hi N N2
def ItD (K:W.Frag) (Hi:Hp) (J:It) (ds:List D):Prop:=∀ Hi' H',zY Hi Hi'->Fz Hi' H' ->
 (∀ (i:Nat) d,ds[i]?=some d->J.go i H'/\∀ x H'',J.yld i H' x H''->∃ Hi'',Ext Hi' H' Hi'' H''/\Den K Hi'' x d)/\J.stop ds.length H'
def iOf (K:W.Frag) (n:Nat) (t:TI'):TI:=fun σ H R=>∃ W Hi Γ Q,Good K n W Hi Γ σ H/\t Γ Q/\∀ J H' Hi' Γ' ds,zY Hi Hi'->Good K n W Hi' Γ' σ H'->ItD K Hi' J ds->Q ds Γ'->R J H'
structure PE' (X:Cx) (e:Expr) (t:TE'):Prop where
 h:PE X e (tOf X.K X.N.length t)
structure PO' (X:Cx) (e:Expr) (t:TO'):Prop where
 h:PE X e (oOf X.K X.N.length t)
structure PT' (X:Cx) (e:Expr) (t:TT'):Prop where
 h:PT X e (zq6 X.K X.N.length t)
structure PW' (X:Cx) (e:Expr) (t:TT'):Prop where
 h:PW X e (zq6 X.K X.N.length t)
def zcp:Expr->Bool
 | .Starred _ _=>true
 | _=>false
def zbE:List Expr->Bool
 | []=>true
 | e :: es=>!zcp e && zbE es
def zS {e:Expr} {es:List Expr} {env:Env} (h:zcp e=false):starEach (e :: es) env=(false,eval e env) :: starEach es env:=by
 cases e <;> first | rfl | (exact yN (show true=false from h) Bool.noConfusion)
theorem zae {pos:Pos} {env:Env}:∀ {es:List Expr},zbE es=true->(backTo pos (starEach es env)).any (·.1)=false
 | [],_=>rfl
 | e :: es,h=>by
  have h1:zcp e=false/\zbE es=true:=by
   unfold zbE at h
   simpa using h
  rw [zS h1.1]
  show (false || (backTo pos (starEach es env)).any (·.1))=false
  rw [zae h1.2]; rfl
def zx {e:Expr} {es:List Expr} (h:zbE (e :: es)=true):zcp e=false/\zbE es=true:=by
 unfold zbE at h
 simpa using h
structure PA' (X:Cx) (es:List Expr) (t:TA'):Prop where
 pa:PA X es (zuq X.K X.N.length t)
 pl:zbE es=true
structure PS' (X:Cx) (s:Stmt) (t:TS'):Prop where
 h:PS X s (sOf X.K X.N.length t)
structure PSs' (X:Cx) (s:List Stmt) (t:TS'):Prop where
 h:PSs X s (sOf X.K X.N.length t)
structure PG' (X:Cx) (tg:Expr) (g:TG'):Prop where
 h:PG X tg (gOf X.K X.N.length g)
structure PI' (X:Cx) (tg iter:Expr) (t:TI'):Prop where
 h:PI X tg iter (iOf X.K X.N.length t)
section
def PE.weak {e:Expr} {t t2:TE} (h:PE X e t) (w:∀ σ H Q,t2 σ H Q->t σ H Q):PE X e t2:=fun pins s σ H Q I q=>h pins s σ H Q I (w _ _ _ q)
def PT.weak {e:Expr} {t t2:TT} (h:PT X e t) (w:∀ σ H Q,t2 σ H Q->t σ H Q):PT X e t2:=fun pins s σ H Q I q=>h pins s σ H Q I (w _ _ _ q)
def PW.weak {e:Expr} {t t2:TT} (h:PW X e t) (w:∀ σ H Q,t2 σ H Q->t σ H Q):PW X e t2:=fun wh pins s σ H Q I q=>h wh pins s σ H Q I (w _ _ _ q)
def PA.weak {es:List Expr} {t t2:TA} (h:PA X es t) (w:∀ σ H Q,t2 σ H Q->t σ H Q):PA X es t2:=fun pos pins s σ H Q I q=>h pos pins s σ H Q I (w _ _ _ q)
def PS.weak {st:Stmt} {t t2:TS} (h:PS X st t) (w:∀ N σ H,t2 N σ H->t N σ H):PS X st t2:=fun pins s σ H N I q=>h pins s σ H N I (w _ _ _ q)
def PSs.weak {st:List Stmt} {t t2:TS} (h:PSs X st t) (w:∀ N σ H,t2 N σ H->t N σ H):PSs X st t2:=fun pins s σ H N I q=>h pins s σ H N I (w _ _ _ q)
def PG.weak {tg:Expr} {t t2:TG} (h:PG X tg t) (w:∀ v σ H Q,t2 v σ H Q->t v σ H Q):PG X tg t2:=fun pins s σ H v u Q I r q=>h pins s σ H v u Q I r (w _ _ _ _ q)
def PI.weak {tg iter:Expr} {t t2:TI} (h:PI X tg iter t) (w:∀ σ H Q,t2 σ H Q->t σ H Q):PI X tg iter t2:=fun pins s σ H Q I q=>h pins s σ H Q I (w _ _ _ q)
def zC (i:Nat):TE':=fun Γ Q=>∃ d,Γ[i]?=some (.val d)/\Q d Γ
def tC' (d:D):TE':=fun Γ Q=>Q d Γ
def pv' (i:Nat) {x:Str} {pos:Pos} (hN:X.N[i]?=some x:=by rfl) (hv:Vis X.env.scope x:=by first | exact JA rfl | exact Yd (JA rfl) | exact Yd (Yd rfl)) (hd:yyD x:=by decide)
  (hcd:(x == ("__classdict__":Str))=false:=by decide):PE' X (.Name x pos) (zC i):=by
 refine ⟨PE.weak (zd1 (i:=i) hN hv hd hcd) ?_⟩
 rintro σ H Q ⟨W,Hi,Γ,Q',g,⟨d,e,q⟩,fin⟩
 obtain ⟨v,h1,h2⟩:=g.val i d e; exact ⟨v,h1,fin v H ⟨Hi,d,Γ,zY.refl _,g,h2,q⟩⟩
def zhQ {e:Expr} {v:V} {d:D} (h:PE X e (tC v)) (r:∀ Hi,Den X.K Hi v d):PE' X e (tC' d):=by
 refine ⟨PE.weak h ?_⟩
 rintro σ H Q ⟨W,Hi,Γ,Q',g,q,fin⟩
 exact fin v H ⟨Hi,d,Γ,zY.refl _,g,r Hi,q⟩
def zk {i j pos}:PE' X (.Constant (.int i) j pos) (tC' (.int i)):=zhQ zoA fun _=>.int i
def zca {b j pos}:PE' X (.Constant (.bool b) j pos) (tC' (.bl b)):=zhQ zuY fun _=>.bl b
def zci {j pos}:PE' X (.Constant .none j pos) (tC' .non):=zhQ zsn fun _=>.non
def za3 (l:List Nat) {x j pos} (h:x=st l:=by decide +kernel):PE' X (.Constant (.str x) j pos) (tC' (.str l)):=by
 subst h
 exact zhQ zsk fun _=>.str l
def zss {x:Str} {v:V} {u:Value} {d:D} {pos:Pos} (hm:X.mg x=some u) (r:zaw v u) (rd:∀ Hi,Den X.K Hi v d) (hg:Gl X x:=by rfl) (hd:yyD x:=by decide):PE' X (.Name x pos) (tC' d):=zhQ (zp5 hg hm r hd) rd
def zsr {x:Str} {l:List Nat} {t:Tok} {pos:Pos} (hm:X.mg x=some (.str (st l) t)) (hg:Gl X x:=by rfl) (hd:yyD x:=by decide):PE' X (.Name x pos) (tC' (.str l)):=zss (v:=.str (st l)) hm ⟨_,rfl⟩ (fun _=>.str l) hg hd
def zfs {x:Str} {c:String} {pos:Pos} (hm:X.mg x=none) (hv:bootBuiltins x=some (.type c)) (hg:Gl X x:=by rfl) (hn:x≠"__name__":=by decide) (hd:yyD x:=by decide):PE' X (.Name x pos) (tC' (.ty c)) :=
 zhQ (zqa (v:=.ty c) hg hm hv rfl hn hd) fun _=>.ty c
def zbr (t:TO'):TE':=fun Γ Q=>t Γ fun o Γ1=>Q o.toD Γ1
def zbf {e:Expr} {t:TO'} (h:PO' X e t):PE' X e (zbr t):=by
 refine ⟨PE.weak h.h ?_⟩
 rintro σ H Q ⟨W,Hi,Γ,Q',g,q,fin⟩
 refine ⟨W,Hi,Γ,_,g,q,?_⟩; intro a H' Hi' Γ' o s1 g1 nw q1; obtain ⟨u,hu⟩:=nw.own.there; exact fin _ _ ⟨upd Hi' a u,_,Γ',s1.trans (zM nw.hi u),g1.freezeA nw.hi nw.h0 nw.ne hu,nw.own.den nw.hi hu,q1⟩
abbrev R2':=D->D->(D->Prop)->Prop
def zke (K:W.Frag) (r:R2) (r':R2'):Prop:=∀ (Hi H:Hp) (x y:V) (dx dy:D) (Q:D->Prop) (Q2:VK),Fz Hi H->Den K Hi x dx->Den K Hi y dy->r' dx dy Q->(∀ Hi' H' v d,Ext Hi H Hi' H'->Den K Hi' v d->Q d->Q2 v H')->r x y H Q2
def zax (r:R2') (ta tb:TE'):TE':=fun Γ Q=>ta Γ fun x Γ1=>tb Γ1 fun y Γ2=>r x y fun d=>Q d Γ2
def ziu {K:W.Frag} {n:Nat} {r:R2} {r':R2'} {ta tb:TE'} {σ:St} {H:Hp} {Q:VK} (l:zke K r r') (h:tOf K n (zax r' ta tb) σ H Q):tOp r (tOf K n ta) (tOf K n tb) σ H Q:=by
 obtain ⟨W,Hi,Γ,Q',g,h,fin⟩:=h; refine ⟨W,Hi,Γ,_,g,h,?_⟩
 rintro x H1 ⟨Hi1,dx,Γ1,s1,g1,den1,h1⟩
 refine ⟨W,Hi1,Γ1,_,g1,h1,?_⟩
 rintro y H2 ⟨Hi2,dy,Γ2,s2,g2,den2,h2⟩
 refine l Hi2 H2 x y dx dy _ _ g2.fz (den1.mono s2) den2 h2 ?_
 rintro Hi3 H3 v d e den q
 exact fin v H3 ⟨Hi3,d,Γ2,s1.trans (s2.trans e.hi),g2.ext e,den,q⟩
structure Op2 (X:Cx) (f:Value->Value->Sem Value) (r':R2'):Prop where
 ex:∃ r,OpR X f r/\zke X.K r r'
def Op2.or {f:Value->Value->Sem Value} {r r':R2'} (h:Op2 X f r) (h':Op2 X f r'):Op2 X f (fun x y Q=>r x y Q\/r' x y Q):=by
 obtain ⟨a,ha,la⟩:=h.ex; obtain ⟨b,hb,lb⟩:=h'.ex
 refine ⟨_,ha.or hb,fun Hi H x y dx dy Q Q2 s d1 d2 q fin=>?_⟩
 rcases q with q | q
 ·exact .inl (la Hi H x y dx dy Q Q2 s d1 d2 q fin)
 ·exact .inr (lb Hi H x y dx dy Q Q2 s d1 d2 q fin)
def zB {a b:Expr} {op:Operator} {r':R2'} {ta tb:TE'} {pos:Pos} (h:Op2 X (binaryOp op) r') (ha:PE' X a ta) (hb:PE' X b tb):PE' X (.BinOp a op b pos) (zax r' ta tb):=by
 obtain ⟨r,ho,l⟩:=h.ex
 exact ⟨PE.weak (zsl ho ha.h hb.h) fun σ H Q q=>ziu l q⟩
def zlc {a b:Expr} {op:CmpOp} {r':R2'} {ta tb:TE'} {pos:Pos} (h:Op2 X (compareOp op) r') (ha:PE' X a ta) (hb:PE' X b tb) (hm:behindInMarks op b=false:=by first | exact zoE _ | rfl):PE' X (.Compare a [op] [b] pos) (zax r' ta tb):=by
 obtain ⟨r,ho,l⟩:=h.ex
 exact ⟨PE.weak (zp9 ho ha.h hb.h hm) fun σ H Q q=>ziu l q⟩
def tB' (t:TE'):TT':=fun Γ Q=>t Γ fun d Γ1=>∃ b,d=.bl b/\Q b Γ1
def zrJ {K:W.Frag} {n:Nat} {t:TE'} {σ:St} {H:Hp} {Q:Bool->Hp->Prop} (h:zq6 K n (tB' t) σ H Q):tOf K n t σ H fun x H1=>∃ c,x=.bl c/\Q c H1:=by
 obtain ⟨W,Hi,Γ,Q',g,h,fin⟩:=h; refine ⟨W,Hi,Γ,_,g,h,?_⟩
 rintro x H1 ⟨Hi1,dx,Γ1,s1,g1,den1,b,rfl,h1⟩
 exact ⟨b,den1.blI,fin b H1 Hi1 Γ1 s1 g1 h1⟩
def zaE {e:Expr} {t:TE'} (h:PE' X e t) (he:∀ whole,isTrue e X.env whole=(do let v <- whole; standAt e.pos; holding [v] (truthy v)):=by intro _; rfl):PT' X e (tB' t) :=
 ⟨PT.weak (zsb h.h he) fun σ H Q q=>zrJ q⟩
def zK {a b:Expr} {op:CmpOp} {r':R2'} {ta tb:TE'} {pos:Pos} (h:Op2 X (compareOp op) r') (ha:PE' X a ta) (hb:PE' X b tb) (hm:behindInMarks op b=false:=by first | exact zoE _ | rfl):PT' X (.Compare a [op] [b] pos) (tB' (zax r' ta tb)):=by
 obtain ⟨r,ho,l⟩:=h.ex
 exact ⟨PT.weak (zpL ho ha.h hb.h hm) fun σ H Q q=>ziu l (zrJ q)⟩
def zdh (t u:TT'):TT':=fun Γ Q=>t Γ fun c Γ1=>if c=true then u Γ1 Q else Q false Γ1
def zkg (t u:TT'):TT':=fun Γ Q=>t Γ fun c Γ1=>if c=true then Q true Γ1 else u Γ1 Q
def zde (t:TT'):TT':=fun Γ Q=>t Γ fun c Γ1=>Q (!c) Γ1
variable {a b c:Expr} {tA tB2:TT'} {zbq:List Expr} {pos:Pos} {ta tb:TE'}
def zeb (ha:PT' X a tA):PW' X (.BoolOp .And [a] pos) tA:=⟨zpG ha.h⟩
def zdM (ha:PT' X a tA):PW' X (.BoolOp .Or [a] pos) tA:=⟨zr8 ha.h⟩
def zfW (ha:PT' X a tA) (hb:PW' X (.BoolOp .And (b :: zbq) pos) tB2):PW' X (.BoolOp .And (a :: b :: zbq) pos) (zdh tA tB2):=by
 refine ⟨PW.weak (zr9 ha.h hb.h) ?_⟩
 rintro σ H Q ⟨W,Hi,Γ,Q',g,h,fin⟩
 refine ⟨W,Hi,Γ,_,g,h,?_⟩; intro k H1 Hi1 Γ1 s1 g1 h1
 cases k with
 | true=>exact ⟨W,Hi1,Γ1,_,g1,h1,fun b H2 Hi2 Γ2 s2 g2 q=>fin b H2 Hi2 Γ2 (s1.trans s2) g2 q⟩
 | false=>exact fin false H1 Hi1 Γ1 s1 g1 h1
def zdl (ha:PT' X a tA) (hb:PW' X (.BoolOp .Or (b :: zbq) pos) tB2):PW' X (.BoolOp .Or (a :: b :: zbq) pos) (zkg tA tB2):=by
 refine ⟨PW.weak (zuS ha.h hb.h) ?_⟩
 rintro σ H Q ⟨W,Hi,Γ,Q',g,h,fin⟩
 refine ⟨W,Hi,Γ,_,g,h,?_⟩; intro k H1 Hi1 Γ1 s1 g1 h1
 cases k with
 | false=>exact ⟨W,Hi1,Γ1,_,g1,h1,fun b H2 Hi2 Γ2 s2 g2 q=>fin b H2 Hi2 Γ2 (s1.trans s2) g2 q⟩
 | true=>exact fin true H1 Hi1 Γ1 s1 g1 h1
def PW'.pt {e:Expr} {t:TT'} (h:PW' X e t):PT' X e t:=⟨h.h _⟩
def zc2 (ha:PT' X a tA):PT' X (.UnaryOp .Not a pos) (zde tA):=by
 refine ⟨PT.weak (zsc ha.h) ?_⟩
 rintro σ H Q ⟨W,Hi,Γ,Q',g,h,fin⟩
 exact ⟨W,Hi,Γ,_,g,h,fun k H1 Hi1 Γ1 s1 g1 h1=>fin _ H1 Hi1 Γ1 s1 g1 h1⟩
def ziw (ta tb:TE'):TE':=fun Γ Q=>ta Γ fun x Γ1=>∃ c,x=.bl c/\if c=true then tb Γ1 Q else Q (.bl false) Γ1
def zp3 {op} (h:PE' X a ta):PE' X (.BoolOp op [a] pos) ta:=⟨zsm h.h⟩
def zqb (ha:PE' X a ta) (hb:PE' X (.BoolOp .And (b :: zbq) pos) tb):PE' X (.BoolOp .And (a :: b :: zbq) pos) (ziw ta tb):=by
 refine ⟨PE.weak (zsw ha.h hb.h) ?_⟩
 rintro σ H Q ⟨W,Hi,Γ,Q',g,h,fin⟩
 refine ⟨W,Hi,Γ,_,g,h,?_⟩
 rintro x H1 ⟨Hi1,dx,Γ1,s1,g1,den1,k,rfl,h1⟩
 refine ⟨k,den1.blI,?_⟩
 cases k with
 | true=>exact ⟨W,Hi1,Γ1,_,g1,h1,fun v H2 ⟨Hi2,d,Γ2,s2,g2,d2,q⟩=>fin v H2 ⟨Hi2,d,Γ2,s1.trans s2,g2,d2,q⟩⟩
 | false=>exact fin _ H1 ⟨Hi1,_,Γ1,s1,g1,.bl false,h1⟩
def zps (t:TT') (ta tb:TE'):TE':=fun Γ Q=>t Γ fun c Γ1=>if c=true then ta Γ1 Q else tb Γ1 Q
def zsq (hc:PT' X c tA) (ha:PE' X a ta) (hb:PE' X b tb):PE' X (.IfExp c a b pos) (zps tA ta tb):=by
 refine ⟨PE.weak (zno hc.h ha.h hb.h) ?_⟩
 rintro σ H Q ⟨W,Hi,Γ,Q',g,h,fin⟩
 refine ⟨W,Hi,Γ,_,g,h,?_⟩; intro k H1 Hi1 Γ1 s1 g1 h1
 cases k with
 | true=>exact ⟨W,Hi1,Γ1,_,g1,h1,fun v H2 ⟨Hi2,d,Γ2,s2,g2,d2,q⟩=>fin v H2 ⟨Hi2,d,Γ2,s1.trans s2,g2,d2,q⟩⟩
 | false=>exact ⟨W,Hi1,Γ1,_,g1,h1,fun v H2 ⟨Hi2,d,Γ2,s2,g2,d2,q⟩=>fin v H2 ⟨Hi2,d,Γ2,s1.trans s2,g2,d2,q⟩⟩
def zQ:TA':=fun Γ Q=>Q [] Γ
def zv (ta:TE') (tr:TA'):TA':=fun Γ Q=>ta Γ fun x Γ1=>tr Γ1 fun xs Γ2=>Q (x :: xs) Γ2
def zi:PA' X [] zQ:=by
 refine ⟨PA.weak ziT ?_,rfl⟩
 rintro σ H Q ⟨W,Hi,Γ,Q',g,h,fin⟩
 exact fin [] H Hi Γ [] (zY.refl _) g .nil h
def zc {e:Expr} {es:List Expr} {te:TE'} {t:TA'} (ha:PE' X e te) (hr:PA' X es t) (hs:zcp e=false:=by rfl):PA' X (e :: es) (zv te t):=by
 refine ⟨PA.weak (zck ha.h hr.pa (zS hs)) ?_,by unfold zbE; rw [hs,hr.pl]; rfl⟩
 rintro σ H Q ⟨W,Hi,Γ,Q',g,h,fin⟩
 refine ⟨W,Hi,Γ,_,g,h,?_⟩
 rintro x H1 ⟨Hi1,dx,Γ1,s1,g1,den1,h1⟩
 refine ⟨W,Hi1,Γ1,_,g1,h1,?_⟩; intro vs H2 Hi2 Γ2 ds s2 g2 dl q; exact fin (x :: vs) H2 Hi2 Γ2 (dx :: ds) (s1.trans s2) g2 (.cons (den1.mono s2) dl) q
def zau (t:TA'):TE':=fun Γ Q=>t Γ fun ds Γ1=>ds.length<=sizeLine/\Q (.tup ds) Γ1
def zT {es:List Expr} {t:TA'} {x1} (h:PA' X es t):PE' X (.Tuple es x1 pos) (zau t):=by
 refine ⟨PE.weak (zsj h.pa) ?_⟩
 rintro σ H Q ⟨W,Hi,Γ,Q',g,h,fin⟩
 refine ⟨W,Hi,Γ,_,g,h,?_⟩
 rintro vs H1 Hi1 Γ1 ds s1 g1 dl ⟨hl,q⟩
 refine ⟨by rw [zj dl]; exact hl,fun p hp=>?_⟩
 have e:=Ext.new g1.fz hp (.tup vs); exact fin _ _ ⟨_,_,Γ1,s1.trans e.hi,g1.ext e,Den.mkT zp (dl.mono e.hi),q⟩
def New.mk' {K:W.Frag} {n:Nat} {W:Wd} {Hi H:Hp} {Γ:Sts} {σ:St} {p:Addr} {u:HO} {o:OD} (g:Good K n W Hi Γ σ H) (hp:H p=none) (own:za5 K Hi (upd H p u) p o):New K n W Hi Γ σ (upd H p u) p o:=by
 refine ⟨g.sub.free hp,?_,⟨fun j o' e z=>?_,fun j d xs e=>?_⟩,own⟩
 ·cases q:W.H₀ p with
  | none=>rfl
  | some w =>
   obtain ⟨w',hw⟩:=g.there p w q
   rw [hp] at hw; cases hw
 ·obtain ⟨a,h1,_,_,h4⟩:=g.own j o' e
  rw [z] at h1; cases h1; obtain ⟨w,hw⟩:=h4.there
  rw [hp] at hw; cases hw
 ·obtain ⟨w,hw⟩:=(g.bk j d p xs e).at_.there
  rw [hp] at hw; cases hw
def zdC (t:TA'):TO':=fun Γ Q=>t Γ fun ds Γ1=>ds.length<=sizeLine/\Q (.lst ds) Γ1
def zfo {es:List Expr} {t:TA'} (h:PA' X es t):PO' X (.List es pos) (zdC t):=by
 refine ⟨PE.weak (zso h.pa) ?_⟩
 rintro σ H Q ⟨W,Hi,Γ,Q',g,h,fin⟩
 refine ⟨W,Hi,Γ,_,g,h,?_⟩
 rintro vs H1 Hi1 Γ1 ds s1 g1 dl ⟨hl,q⟩
 refine ⟨by rw [zj dl]; exact hl,fun p hp=>?_⟩
 exact fin p _ Hi1 Γ1 (.lst ds) s1 (g1.ext (Ext.newO g1.fz hp _ (fun _ z=>by cases z))) (New.mk' g1 hp ⟨vs,zp,dl⟩) q
abbrev RC':=List D->(D->Prop)->Prop
def ztx (K:W.Frag) (r:List V->Hp->VK->Prop) (r':RC'):Prop:=∀ (Hi H:Hp) (vs:List V) (ds:List D) (Q:D->Prop) (Q2:VK),Fz Hi H->zaU K Hi vs ds->r' ds Q->(∀ Hi' H' v d,Ext Hi H Hi' H'->Den K Hi' v d->Q d->Q2 v H')->r vs H Q2
structure Cal (X:Cx) (f:Value) (r':RC'):Prop where
 ex:∃ r,zb6 X f r/\ztx X.K r r'
def Cal.or {f:Value} {r r':RC'} (h:Cal X f r) (h':Cal X f r'):Cal X f (fun x Q=>r x Q\/r' x Q):=by
 obtain ⟨a,ha,la⟩:=h.ex; obtain ⟨b,hb,lb⟩:=h'.ex
 refine ⟨_,ha.or hb,fun Hi H vs ds Q Q2 s d q fin=>?_⟩
 rcases q with q | q
 ·exact .inl (la Hi H vs ds Q Q2 s d q fin)
 ·exact .inr (lb Hi H vs ds Q Q2 s d q fin)
def zbB (r:RC') (t:TA'):TE':=fun Γ Q=>t Γ fun ds Γ1=>r ds fun d=>Q d Γ1
def zos {K:W.Frag} {n:Nat} {r:List V->Hp->VK->Prop} {r':RC'} {t:TA'} {σ:St} {H:Hp} {Q:VK} (l:ztx K r r') (h:tOf K n (zbB r' t) σ H Q):tCB r (zuq K n t) σ H Q:=by
 obtain ⟨W,Hi,Γ,Q',g,h,fin⟩:=h; refine ⟨W,Hi,Γ,_,g,h,?_⟩; intro vs H1 Hi1 Γ1 ds s1 g1 dl h1; refine l Hi1 H1 vs ds _ _ g1.fz dl h1 ?_; intro Hi2 H2 v d e den q; exact fin v H2 ⟨Hi2,d,Γ1,s1.trans e.hi,g1.ext e,den,q⟩
variable {x:Str} {p:Pos} {e:Expr} {es:List Expr} {t:TA'} {id T:String}
def zw {r':RC'} (hc:Cal X (.builtin id) r') (hm:X.mg x=none) (hv:bootBuiltins x=some (.builtin id)) (ha:PA' X (e :: es) t) (hg:Gl X x:=by rfl) (hn:x≠"__name__":=by decide) (hdb:yyD x:=by decide):PE' X (.Call (.Name x p) (e :: es) [] pos) (zbB r' t):=by
 obtain ⟨r,ho,l⟩:=hc.ex; obtain ⟨p1,p2⟩:=zx ha.pl
 exact ⟨PE.weak (znu ho hg hm hv ha.pa hn hdb (zS p1) (zae p2)) fun σ H Q q=>zos l q⟩
def zaj {r':RC'} (hc:Cal X (.type T) r') (hm:X.mg x=none) (hv:bootBuiltins x=some (.type T)) (ha:PA' X (e :: es) t) (hg:Gl X x:=by rfl) (hn:x≠"__name__":=by decide) (hdb:yyD x:=by decide):PE' X (.Call (.Name x p) (e :: es) [] pos) (zbB r' t):=by
 obtain ⟨r,ho,l⟩:=hc.ex; obtain ⟨p1,p2⟩:=zx ha.pl
 exact ⟨PE.weak (zgK ho hg hm hv ha.pa hn hdb (zS p1) (zae p2)) fun σ H Q q=>zos l q⟩
end
section
variable {a b c:Expr} {pos:Pos} {ta tb:TE'}
structure Ixs (X:Cx) (r':R2'):Prop where
 ex:∃ r,IxR X r/\zke X.K r r'
def Ixs.or {r r':R2'} (h:Ixs X r) (h':Ixs X r'):Ixs X (fun x y Q=>r x y Q\/r' x y Q):=by
 obtain ⟨a,ha,la⟩:=h.ex; obtain ⟨b,hb,lb⟩:=h'.ex
 refine ⟨_,ha.or hb,fun Hi H x y dx dy Q Q2 s d1 d2 q fin=>?_⟩
 rcases q with q | q
 ·exact .inl (la Hi H x y dx dy Q Q2 s d1 d2 q fin)
 ·exact .inr (lb Hi H x y dx dy Q Q2 s d1 d2 q fin)
def zD {r':R2'} (h:Ixs X r') (ha:PE' X a ta) (hb:PE' X b tb) (hs:zmq b:=by intro _ _; rfl):PE' X (.Subscript a b pos) (zax r' ta tb):=by
 obtain ⟨r,ho,l⟩:=h.ex
 exact ⟨PE.weak (zuX ho ha.h hb.h hs) fun σ H Q q=>ziu l q⟩
abbrev TP':=Sts->(Option Int->Sts->Prop)->Prop
def zv6 (K:W.Frag) (n:Nat) (t:TP'):TO:=fun σ H Q2=>∃ W Hi Γ Q,Good K n W Hi Γ σ H/\t Γ Q/\∀ i H' Hi' Γ',zY Hi Hi'->Good K n W Hi' Γ' σ H'->Q i Γ'->Q2 i H'
structure PB' (X:Cx) (e:Option Expr) (t:TP'):Prop where
 h:PO X e (zv6 X.K X.N.length t)
def zba:TP':=fun Γ Q=>Q none Γ
def zdY (t:TE'):TP':=fun Γ Q=>t Γ fun d Γ1=>∃ i,d=.int i/\Q (some i) Γ1
def PO.weak {e:Option Expr} {t t2:TO} (h:PO X e t) (w:∀ σ H Q,t2 σ H Q->t σ H Q):PO X e t2:=fun pins s σ H Q I q=>h pins s σ H Q I (w _ _ _ q)
def zd7:PB' X none zba:=by
 refine ⟨PO.weak zpS ?_⟩
 rintro σ H Q ⟨W,Hi,Γ,Q',g,h,fin⟩
 exact fin none H Hi Γ (zY.refl _) g h
def zcI {e:Expr} {te:TE'} (h:PE' X e te):PB' X (some e) (zdY te):=by
 refine ⟨PO.weak (zpR h.h) ?_⟩
 rintro σ H Q ⟨W,Hi,Γ,Q',g,h,fin⟩
 refine ⟨W,Hi,Γ,_,g,h,?_⟩
 rintro v H1 ⟨Hi1,d,Γ1,s1,g1,den,i,rfl,q⟩
 exact ⟨i,den.intI,fin _ H1 Hi1 Γ1 s1 g1 q⟩
abbrev RS':=D->Option Int->Option Int->(D->Prop)->Prop
def zvC (K:W.Frag) (r:V->Option Int->Option Int->Hp->VK->Prop) (r':RS'):Prop:=∀ (Hi H:Hp) (x:V) (dx:D) (lo hi:Option Int) (Q:D->Prop) (Q2:VK),Fz Hi H->Den K Hi x dx->r' dx lo hi Q->(∀ Hi' H' v d,Ext Hi H Hi' H'->Den K Hi' v d->Q d->Q2 v H')->r x lo hi H Q2
structure Sli (X:Cx) (r':RS'):Prop where
 ex:∃ r,SlR X r/\zvC X.K r r'
def Sli.or {r r':RS'} (h:Sli X r) (h':Sli X r'):Sli X (fun x lo hi Q=>r x lo hi Q\/r' x lo hi Q):=by
 obtain ⟨a,ha,la⟩:=h.ex; obtain ⟨b,hb,lb⟩:=h'.ex
 refine ⟨_,ha.or hb,fun Hi H x dx lo hi Q Q2 s d1 q fin=>?_⟩
 rcases q with q | q
 ·exact .inl (la Hi H x dx lo hi Q Q2 s d1 q fin)
 ·exact .inr (lb Hi H x dx lo hi Q Q2 s d1 q fin)
def zdW (r:RS') (te:TE') (tl th:TP'):TE':=fun Γ Q=>te Γ fun x Γ1=>tl Γ1 fun l Γ2=>th Γ2 fun u Γ3=>r x l u fun d=>Q d Γ3
def zbF {e:Expr} {lo hi:Option Expr} {p2:Pos} {te:TE'} {tl th:TP'} {r':RS'} (h:Sli X r') (he:PE' X e te) (hl:PB' X lo tl) (hu:PB' X hi th):PE' X (.Subscript e (.Slice lo hi none p2) pos) (zdW r' te tl th):=by
 obtain ⟨r,ho,l⟩:=h.ex; refine ⟨PE.weak (znn ho he.h hl.h hu.h) ?_⟩
 rintro σ H Q ⟨W,Hi,Γ,Q',g,h,fin⟩
 refine ⟨W,Hi,Γ,_,g,h,?_⟩
 rintro x H1 ⟨Hi1,dx,Γ1,s1,g1,den1,h1⟩
 refine ⟨W,Hi1,Γ1,_,g1,h1,?_⟩; intro i H2 Hi2 Γ2 s2 g2 h2; refine ⟨W,Hi2,Γ2,_,g2,h2,?_⟩; intro j H3 Hi3 Γ3 s3 g3 h3; refine l Hi3 H3 x dx i j _ _ g3.fz (den1.mono (s2.trans s3)) h3 ?_; intro Hi4 H4 v d e den q; exact fin v H4 ⟨Hi4,d,Γ3,s1.trans (s2.trans (s3.trans e.hi)),g3.ext e,den,q⟩
abbrev RM':=D->List D->(D->Prop)->Prop
def zvD (K:W.Frag) (T:String) (r:V->List V->Hp->VK->Prop) (r':RM'):Prop:=∀ (Hi H:Hp) (x:V) (vs:List V) (dx:D) (ds:List D) (Q:D->Prop) (Q2:VK),Fz Hi H->Den K Hi x dx->zaU K Hi vs ds->r' dx ds Q->(∀ Hi' H' v d,Ext Hi H Hi' H'->Den K Hi' v d->Q d->Q2 v H')->r x vs H Q2
def tyD (T:String):D->Prop
 | .str _=>T="str"
 | .int _=>T="int"
 | .lst _=>T="list"
 | _=>False
def zrv {K:W.Frag} {Hi H:Hp} {x:V} {dx:D} (s:zY Hi H) (den:Den K Hi x dx) (h:tyD T dx):tyV K T x H:=by
 cases den with
 | str l=>exact h
 | int i=>exact h
 | lst hq l r =>
  refine .inl ⟨h,_,zL s hq⟩
 | _=>exact h.elim
structure Met (X:Cx) (T:String) (id:String) (r':RM'):Prop where
 ex:∃ r,MtR X id r/\zvD X.K T r r'
def zvI (T:String) (r:RM') (to:TE') (t:TA'):TE':=fun Γ Q=>to Γ fun x Γ1=>tyD T x/\t Γ1 fun ds Γ2=>r x ds fun d=>Q d Γ2
def zsu {o e:Expr} {es:List Expr} {to:TE'} {t:TA'} {name:Str} {apos cpos:Pos} {T id:String} {r':RM'} (h:Met X T id r') (pa:PlainAttrs T) (slot:PySem.Slot T name id) (hty:typeOf (.builtin id)=pure (.type "method_descriptor")) (ho:PE' X o to) (ha:PA' X (e :: es) t)
  (hbase:attributeBase o name X.env (eval o X.env)=eval o X.env:=by rfl) (hlen:(e :: es).length<30:=by decide)
  (hline:(apos.endLine == cpos.line)=true:=by rfl) :
  PE' X (.Call (.Attribute o name apos) (e :: es) [] cpos) (zvI T r' to t):=by
 obtain ⟨r,hm,l⟩:=h.ex; obtain ⟨p1,p2⟩:=zx ha.pl
 have hfew:((backTo cpos (starEach (e :: es) X.env)).all (fun x=>!x.1) && (backToKw cpos (keywordEach [] X.env)).all (fun x=>x.1.isSome)
   && decide ((e :: es).length+([]:List Keyword).length+(if ([]:List Keyword).isEmpty then 0 else 1)<30))=true:=by
  have h1:(backTo cpos (starEach (e :: es) X.env)).all (fun x=>!x.1)=true:=by
   rw [Yk]; intro y hy
   have:=zae (pos:=cpos) (env:=X.env) ha.pl
   rw [List.any_eq_false] at this
   simpa using this y hy
  rw [h1,Yl (by simpa using hlen)]
  rfl
 refine ⟨PE.weak (zsv pa slot hty hm ho.h ha.pa hbase hfew hline (zS p1) (zae p2)) ?_⟩
 rintro σ H Q ⟨W,Hi,Γ,Q',g,h,fin⟩
 refine ⟨W,Hi,Γ,_,g,h,?_⟩
 rintro x H1 ⟨Hi1,dx,Γ1,s1,g1,den1,ty,h1⟩
 refine ⟨zrv g1.sub den1 ty,W,Hi1,Γ1,_,g1,h1,?_⟩; intro vs H2 Hi2 Γ2 ds s2 g2 dl h2; refine l Hi2 H2 x vs dx ds _ _ g2.fz (den1.mono s2) dl h2 ?_; intro Hi3 H3 v d e den q; exact fin v H3 ⟨Hi3,d,Γ2,s1.trans (s2.trans e.hi),g2.ext e,den,q⟩
def zO:TS':=fun N Γ=>N.nx Γ
def zag (t u:TS'):TS':=fun N Γ=>t { N with nx:=u N } Γ
def zU:PSs' X [] zO:=by
 refine ⟨PSs.weak zpM ?_⟩
 rintro N2 σ H ⟨W,Hi,Γ,N,g,h,l⟩
 exact l.nx σ H Hi Γ (zY.refl _) g h
def zm {s:Stmt} {zbq:List Stmt} {t u:TS'} (h1:PS' X s t) (h2:PSs' X zbq u):PSs' X (s :: zbq) (zag t u):=by
 refine ⟨PSs.weak (ziI h1.h h2.h) ?_⟩
 rintro N2 σ H ⟨W,Hi,Γ,N,g,h,l⟩
 refine ⟨W,Hi,Γ,_,g,h,?_,l.bk,l.ct,l.rt⟩; intro σ1 H1 Hi1 Γ1 s1 g1 q; exact ⟨W,Hi1,Γ1,N,g1,q,l.mono s1⟩
def zo {s:Stmt} {t:TS'} (h1:PS' X s t):PSs' X [s] t:=⟨zkZ h1.h⟩
def zP (te:TE'):TS':=fun N Γ=>te Γ fun d Γ1=>N.rt (.val d) Γ1
def zkD (te:TO'):TS':=fun N Γ=>te Γ fun o Γ1=>N.rt (.own o) Γ1
def zI {e:Expr} {te:TE'} (he:PE' X e te):PS' X (.Return (some e) pos) (zP te):=by
 refine ⟨PS.weak (zk1 he.h) ?_⟩
 rintro N2 σ H ⟨W,Hi,Γ,N,g,h,l⟩
 refine ⟨W,Hi,Γ,_,g,h,?_⟩
 rintro v H1 ⟨Hi1,d,Γ1,s1,g1,den,q⟩
 exact l.rt v σ H1 Hi1 Γ1 (.val d) s1 g1 den q
def znc {e:Expr} {te:TO'} (he:PO' X e te):PS' X (.Return (some e) pos) (zkD te):=by
 refine ⟨PS.weak (zk1 he.h) ?_⟩
 rintro N2 σ H ⟨W,Hi,Γ,N,g,h,l⟩
 refine ⟨W,Hi,Γ,_,g,h,?_⟩; intro a H1 Hi1 Γ1 o s1 g1 nw q; exact l.rt _ σ H1 Hi1 Γ1 (.own o) s1 g1 ⟨a,rfl,nw.hi,nw.h0,nw.own⟩ q
def zit (n i:Nat):TS':=fun N Γ=>i<n/\∃ o,Γ[i]?=some (.own o)/\N.rt (.own o) Γ
def znb (i:Nat) {x:Str} {p:Pos} (hN:X.N[i]?=some x:=by rfl) (hv:Vis X.env.scope x:=by first | exact JA rfl | exact Yd (JA rfl) | exact Yd (Yd rfl)) (hd:yyD x:=by decide)
  (hcd:(x == ("__classdict__":Str))=false:=by decide):PS' X (.Return (some (.Name x p)) pos) (zit X.N.length i):=by
 refine ⟨PS.weak (zk1 (zd1 (i:=i) hN hv hd hcd)) ?_⟩
 rintro N2 σ H ⟨W,Hi,Γ,N,g,⟨hi,o,e,q⟩,l⟩
 obtain ⟨a,h1,h2,h3,h4⟩:=g.own i o e; unfold adr at h1; rw [yM hi] at h1; exact ⟨.ref a,zdK h1,l.rt _ σ H Hi Γ (.own o) (zY.refl _) g ⟨a,rfl,h2,h3 hi,h4⟩ q⟩
def zaz (c:TT') (t u:TS'):TS':=fun N Γ=>c Γ fun b Γ1=>if b=true then t N Γ1 else u N Γ1
def zam {c:Expr} {sa sb:List Stmt} {tc:TT'} {t u:TS'} (hc:PT' X c tc) (ha:PSs' X sa t) (hb:PSs' X sb u):PS' X (.If c sa sb pos) (zaz tc t u):=by
 refine ⟨PS.weak (zuU hc.h ha.h hb.h) ?_⟩
 rintro N2 σ H ⟨W,Hi,Γ,N,g,h,l⟩
 refine ⟨W,Hi,Γ,_,g,h,?_⟩; intro k H1 Hi1 Γ1 s1 g1 q
 cases k with
 | true=>exact ⟨W,Hi1,Γ1,N,g1,q,l.mono s1⟩
 | false=>exact ⟨W,Hi1,Γ1,N,g1,q,l.mono s1⟩
def zdf (te:TE'):TS':=fun N Γ=>te Γ fun _ Γ1=>N.nx Γ1
def ziJ {e:Expr} {te:TE'} (he:PE' X e te) (hs:swapsWith e none pos.line X.env=pure false:=by rfl):PS' X (.Expr e pos) (zdf te):=by
 refine ⟨PS.weak (zhO he.h hs) ?_⟩
 rintro N2 σ H ⟨W,Hi,Γ,N,g,h,l⟩
 refine ⟨W,Hi,Γ,_,g,h,?_⟩
 rintro v H1 ⟨Hi1,d,Γ1,s1,g1,den,q⟩
 exact l.nx σ H1 Hi1 Γ1 s1 g1 q
def zt (i:Nat):TG':=fun d Γ Q=>Q (Γ.set i (.val d))
def zaa (i:Nat) {x:Str} (hN:X.N.Nodup) (hi:X.N[i]?=some x:=by rfl) (hx:Loc X.env.scope x:=by first | exact JA rfl | exact Yd rfl) (hf:X.fn x=true\/X.env.scope.names.lookup x=some .local:=by first | exact .inl rfl | exact .inr rfl | assumption):PG' X (.Name x pos) (zt i):=by
 refine ⟨PG.weak (zp2 (i:=i) hN hi hx hf) ?_⟩
 rintro v σ H Q ⟨W,Hi,Γ,d,Q',g,den,q,fin⟩
 exact fin _ H Hi _ (zY.refl _) (g.set (yG.mp hi).1 den) q
def zal (te:TE') (g:TG'):TS':=fun N Γ=>te Γ fun d Γ1=>g d Γ1 N.nx
def zH (i:Nat) {x:Str} {e:Expr} {te:TE'} {pos':Pos} (hN:X.N.Nodup) (he:PE' X e te) (hi:X.N[i]?=some x:=by rfl) (hx:Loc X.env.scope x:=by first | exact JA rfl | exact Yd rfl) (hs:swapsWith e (some (.Name x pos')) pos.line X.env=pure false:=by rfl)
  (hf:X.fn x=true\/X.env.scope.names.lookup x=some .local:=by first | exact .inl rfl | exact .inr rfl | assumption):PS' X (.Assign [.Name x pos'] e pos) (zal te (zt i)):=by
 refine ⟨PS.weak (zoz (i:=i) hN hi hx he.h hs hf) ?_⟩
 rintro N2 σ H ⟨W,Hi,Γ,N,g,h,l⟩
 refine ⟨W,Hi,Γ,_,g,h,?_⟩
 rintro v H1 ⟨Hi1,d,Γ1,s1,g1,den,q⟩
 exact l.nx _ H1 Hi1 _ s1 (g1.set (yG.mp hi).1 den) q
def zaM (te:TO') (i:Nat):TS':=fun N Γ=>te Γ fun o Γ1=>N.nx (Γ1.set i (.own o))
def zcC (i:Nat) {x:Str} {e:Expr} {te:TO'} {pos':Pos} (hN:X.N.Nodup) (he:PO' X e te) (hi:X.N[i]?=some x:=by rfl) (hx:Loc X.env.scope x:=by first | exact JA rfl | exact Yd rfl) (hs:swapsWith e (some (.Name x pos')) pos.line X.env=pure false:=by rfl)
  (hf:X.fn x=true\/X.env.scope.names.lookup x=some .local:=by first | exact .inl rfl | exact .inr rfl | assumption):PS' X (.Assign [.Name x pos'] e pos) (zaM te i):=by
 refine ⟨PS.weak (zoz (i:=i) hN hi hx he.h hs hf) ?_⟩
 rintro N2 σ H ⟨W,Hi,Γ,N,g,h,l⟩
 refine ⟨W,Hi,Γ,_,g,h,?_⟩; intro a H1 Hi1 Γ1 o s1 g1 nw q; exact l.nx _ H1 Hi1 _ s1 (g1.setO (yG.mp hi).1 nw.hi nw.h0 nw.ne nw.own) q
def zgn (g:TG') (tb:TS') (N:Ends'):List D->Sts->Prop
 | [],Γ=>N.nx Γ
 | d :: ds,Γ=>g d Γ fun Γ2=>tb { N with nx:=zgn g tb N ds,ct:=zgn g tb N ds,bk:=N.nx } Γ2
def zaX (ti:TI') (g:TG') (tb:TS'):TS':=fun N Γ=>ti Γ fun ds Γ1=>zgn g tb N ds Γ1
def zbJ {tg iter:Expr} {body:List Stmt} {ti:TI'} {g:TG'} {tb:TS'} (hi:PI' X tg iter ti) (hg:PG' X tg g) (hb:PSs' X body tb) (hp:PassesOwn (model X.prog X.w) X.A X.env X.xe:=by exact PassesOwn.never) (hc:X.calm=true:=by rfl)
  (hs:∀ x,foldedSetIterable iter X.env x=pure x:=by intro _; rfl):PS' X (.For tg iter body [] pos) (zaX ti g tb):=by
 refine ⟨PS.weak (zsd hp hc hi.h hg.h hb.h hs) ?_⟩
 rintro N2 σ H ⟨W,Hi,Γ,N,gd,h,l⟩
 refine ⟨W,Hi,Γ,_,gd,h,?_⟩; intro J H1 Hi1 Γ1 ds s1 g1 itd q
 refine ⟨fun i m σ' H'=>m=ds.length-i/\i<=ds.length/\∃ Hi' Γ',zY Hi1 Hi'/\Good X.K X.N.length W Hi' Γ' σ' H'/\zgn g tb N (ds.drop i) Γ',⟨ds.length,by simp,YB _,Hi1,Γ1,zY.refl _,g1,by simpa using q⟩,?_⟩
 rintro i m σ' H' ⟨rfl,hi',Hi',Γ',s2,g2,q2⟩
 have wk:=itd Hi' H' s2 g2.fz
 by_cases hlt:i<ds.length
 ·have hd:ds.drop i=ds[i] :: ds.drop (i+1):=YN hlt
  rw [hd] at q2; obtain ⟨go,yl⟩:=wk.1 i ds[i] (yC hlt)
  refine .inr ⟨go,fun σ3 H3=>∃ Hi3 Γ3,zY Hi' Hi3/\Good X.K X.N.length W Hi3 Γ3 σ3 H3/\zgn g tb N (ds.drop (i+1)) Γ3,fun σ3 H3 ⟨Hi3,Γ3,s3,g3,q3⟩=>⟨ds.length-(i+1),by omega,rfl,hlt,Hi3,Γ3,s2.trans s3,g3,q3⟩,fun x H'' y=>?_⟩
  obtain ⟨Hi'',ex,den⟩:=yl x H'' y; refine ⟨W,Hi'',Γ',ds[i],_,g2.ext ex,den,q2,?_⟩; intro σ4 H4 Hi4 Γ4 s4 g4 q4
  have sx:zY Hi' Hi4:=ex.hi.trans s4
  refine ⟨W,Hi4,Γ4,_,g4,q4,?_⟩
  refine ⟨fun σ5 H5 Hi5 Γ5 s5 g5 q5=>⟨Hi5,Γ5,sx.trans s5,g5,q5⟩,fun σ5 H5 Hi5 Γ5 s5 g5 q5=>l.nx σ5 H5 Hi5 Γ5 (s1.trans (s2.trans (sx.trans s5))) g5 q5,fun σ5 H5 Hi5 Γ5 s5 g5 q5=>⟨Hi5,Γ5,sx.trans s5,g5,q5⟩,fun v σ5 H5 Hi5 Γ5 r s5 g5 ro q5=>l.rt v σ5 H5 Hi5 Γ5 r (s1.trans (s2.trans (sx.trans s5))) g5 ro q5⟩
 ·have e:i=ds.length:=by omega
  subst e; rw [YZ (yD _)] at q2; exact .inl ⟨wk.2,l.nx σ' H' Hi' Γ' (s1.trans s2) g2 q2⟩
def zkC (c:TT') (tb:TS'):TS':=fun N Γ=>∃ Wv:Nat->Sts->Prop,(∃ m,Wv m Γ)/\∀ m Γ,Wv m Γ->c Γ fun b Γ1=>if b=true then tb { N with nx:=fun Γ2=>∃ m',m'<m/\Wv m' Γ2,ct:=fun Γ2=>∃ m',m'<m/\Wv m' Γ2,bk:=N.nx } Γ1 else N.nx Γ1
def zk0 {c:Expr} {body:List Stmt} {tc:TT'} {tb:TS'} (hc:PT' X c tc) (hb:PSs' X body tb) (hp:PassesOwn (model X.prog X.w) X.A X.env X.xe:=by exact PassesOwn.never):PS' X (.While c body [] pos) (zkC tc tb):=by
 refine ⟨PS.weak (zm9 hp hc.h hb.h) ?_⟩
 rintro N2 σ H ⟨W,Hi,Γ,N,gd,⟨Wv,⟨m0,w0⟩,turn⟩,l⟩
 refine ⟨fun m σ' H'=>∃ Hi' Γ',zY Hi Hi'/\Good X.K X.N.length W Hi' Γ' σ' H'/\Wv m Γ',⟨m0,Hi,Γ,zY.refl _,gd,w0⟩,?_⟩
 rintro m σ' H' ⟨Hi',Γ',s1,g1,w1⟩
 refine ⟨W,Hi',Γ',_,g1,turn m Γ' w1,?_⟩; intro k H1 Hi1 Γ1 s2 g2 q
 cases k with
 | false=>exact l.nx σ' H1 Hi1 Γ1 (s1.trans s2) g2 q
 | true =>
  refine ⟨fun σ3 H3=>∃ m',m'<m/\∃ Hi3 Γ3,zY Hi Hi3/\Good X.K X.N.length W Hi3 Γ3 σ3 H3/\Wv m' Γ3,fun σ3 H3 z=>z,W,Hi1,Γ1,_,g2,q,?_⟩
  refine ⟨fun σ5 H5 Hi5 Γ5 s5 g5 ⟨m',hm,q5⟩=>⟨m',hm,Hi5,Γ5,s1.trans (s2.trans s5),g5,q5⟩,fun σ5 H5 Hi5 Γ5 s5 g5 q5=>l.nx σ5 H5 Hi5 Γ5 (s1.trans (s2.trans s5)) g5 q5,fun σ5 H5 Hi5 Γ5 s5 g5 ⟨m',hm,q5⟩=>⟨m',hm,Hi5,Γ5,s1.trans (s2.trans s5),g5,q5⟩,fun v σ5 H5 Hi5 Γ5 r s5 g5 ro q5=>l.rt v σ5 H5 Hi5 Γ5 r (s1.trans (s2.trans s5)) g5 ro q5⟩
def zn6 {K:W.Frag} {Hi:Hp} {a:Addr} {vs:List V} {ds:List D} (h:SqL K Hi a vs) (r:zaU K Hi vs ds):ItD K Hi (Itl K a) ds:=by
 intro Hi' H' s1 s2
 have hq:SqL K H' a vs:=zL (s1.trans s2.sub) h
 refine ⟨fun i d e=>?_,vs,hq,by rw [zj r]; exact yD _⟩
 obtain ⟨v,e1,e2⟩:=zX r e; refine ⟨⟨vs,v,hq,e1⟩,?_⟩
 rintro x H'' ⟨rfl,y⟩
 have:=y vs hq
 rw [e1] at this; cases this; exact ⟨Hi',Ext.refl s2,e2.mono s1⟩
def zqH {K:W.Frag} {Hi:Hp} {a:Addr} {vs:List V} {ds:List D} (h:SqT K Hi a vs) (r:zaU K Hi vs ds):ItD K Hi (Itt K a) ds:=by
 intro Hi' H' s1 s2
 have hq:SqT K H' a vs:=zR (s1.trans s2.sub) h
 refine ⟨fun i d e=>?_,vs,hq,by rw [zj r]; exact yD _⟩
 obtain ⟨v,e1,e2⟩:=zX r e; refine ⟨⟨vs,v,hq,e1⟩,?_⟩
 rintro x H'' ⟨rfl,y⟩
 have:=y vs hq
 rw [e1] at this; cases this; exact ⟨Hi',Ext.refl s2,e2.mono s1⟩
def zqI {K:W.Frag} {Hi:Hp} (l:List Nat):ItD K Hi (Its l) (l.map fun c=>.str [c]):=by
 intro Hi' H' s1 s2
 refine ⟨fun i d e=>?_,by rw [yE]; rfl⟩
 rw [yH] at e
 cases hc:l[i]? with
 | none=>rw [hc] at e; cases e
 | some c =>
  rw [hc] at e; cases e; refine ⟨(yG.mp hc).1,?_⟩
  rintro x H'' ⟨rfl,c',e',rfl⟩
  rw [hc] at e'; cases e'; exact ⟨Hi',Ext.refl s2,.str [c]⟩
def zlM {K:W.Frag} {Hi:Hp} (lo:Int) (n:Nat):ItD K Hi (Itr lo n) ((List.range n).map fun k=>.int (lo+(k:Nat))):=by
 intro Hi' H' s1 s2
 refine ⟨fun i d e=>?_,by rw [yE,List.length_range]; exact yD _⟩
 rw [yH] at e
 cases hc:(List.range n)[i]? with
 | none=>rw [hc] at e; cases e
 | some c =>
  rw [hc] at e; cases e
  have hi:i<n:=by
   have:=(yG.mp hc).1
   rwa [List.length_range] at this
  have ec:c=i:=by
   rw [Ys hi] at hc; exact (Option.some.inj hc).symm
  subst ec; refine ⟨hi,?_⟩
  rintro x H'' ⟨rfl,rfl⟩
  exact ⟨Hi',Ext.refl s2,.int _⟩
def zq7:D->Option (List D)
 | .lst ds=>some ds
 | .tup ds=>some ds
 | .str l=>some (l.map fun c=>.str [c])
 | _=>none
def zbz (t:TE'):TI':=fun Γ Q=>t Γ fun d Γ1=>∃ ds,zq7 d=some ds/\Q ds Γ1
def zpY {l tg:Expr} {tl:TE} (hl:PE X l tl):PI X tg l (fun σ H R=>tl σ H fun x H1=>(∃ a,x=.ref a/\(∃ xs,SqL X.K H1 a xs)/\R (Itl X.K a) H1)\/(∃ a,x=.ref a/\(∃ xs,SqT X.K H1 a xs)/\R (Itt X.K a) H1)\/(∃ z,x=.str z/\R (Its z.cps.toList) H1)):=by
 intro pins s σ H R I h
 refine thn (hl pins s σ H _ I h) fun v s1 ⟨x,H1,I1,r1,q1⟩=>?_
 have fin:∀ b ∈ [s1.heap.objs.size],zd4 X pins H1 b:=fun b hb=>by
  have e:b=s1.heap.objs.size:=by simpa using hb
  subst e; exact I1.fpOk (yD _) (I1.hok.fresh (yD _))
 rcases q1 with ⟨a,rfl,⟨xs,hq⟩,q⟩ | ⟨a,rfl,⟨xs,hq⟩,q⟩ | ⟨z,rfl,q⟩
 ·cases r1
  obtain ⟨its,rv,p,hz⟩:=I1.list hq; refine wpAny_pyIter_list p.isList ?_
  exact ⟨s1.heap.objs.size,[s1.heap.objs.size],_,_,H1,rfl,I1.kept (t':=s1.toks) fun b o e=>yB _ e,zkx a _,⟨_,yJ _ rfl,rfl,rfl⟩,fin,q⟩
 ·cases r1
  obtain ⟨its,rv,p,hz⟩:=I1.tuple hq
  refine wpAny_pyIter_tuple (show s1.heap.IsTuple a its.toArray from p) ?_
  exact ⟨s1.heap.objs.size,[s1.heap.objs.size],_,_,H1,rfl,I1.kept (t':=s1.toks) fun b o e=>yB _ e,zjv a _,⟨_,yJ _ rfl,rfl,rfl⟩,fin,q⟩
 ·obtain ⟨t,rfl⟩:=r1
  cases ha:z.cps.all (·<128)
  ·refine wpAny_pyIter_wide ha ?_
   exact ⟨s1.heap.objs.size,[s1.heap.objs.size],_,_,H1,rfl,I1.kept (t':=s1.toks) fun b o e=>yB _ e,ziq z t _ (.inr rfl),⟨_,yJ _ rfl,rfl,rfl⟩,fin,q⟩
  ·refine wpAny_pyIter_ascii ha ?_
   exact ⟨s1.heap.objs.size,[s1.heap.objs.size],_,_,H1,rfl,I1.kept (t':=s1.toks) fun b o e=>yB _ e,ziq z t _ (.inl rfl),⟨_,yJ _ rfl,rfl,rfl⟩,fin,q⟩
def zbK {l tg:Expr} {t:TE'} (hl:PE' X l t):PI' X tg l (zbz t):=by
 refine ⟨PI.weak (zpY hl.h) ?_⟩
 rintro σ H R ⟨W,Hi,Γ,Q',g,h,fin⟩
 refine ⟨W,Hi,Γ,_,g,h,?_⟩
 rintro v H1 ⟨Hi1,d,Γ1,s1,g1,den,ds,e,q⟩
 cases d with
 | lst es =>
  cases e; obtain ⟨a,vs,rfl,h1,h2⟩:=den.lstI; exact .inl ⟨a,rfl,⟨vs,zL g1.sub h1⟩,fin _ H1 Hi1 Γ1 _ s1 g1 (zn6 h1 h2) q⟩
 | tup es =>
  cases e; obtain ⟨a,vs,rfl,h1,h2⟩:=den.tupI; exact .inr (.inl ⟨a,rfl,⟨vs,zR g1.sub h1⟩,fin _ H1 Hi1 Γ1 _ s1 g1 (zqH h1 h2) q⟩)
 | str l =>
  cases e; refine .inr (.inr ⟨_,den.strI,?_⟩); rw [zad]; exact fin _ H1 Hi1 Γ1 _ s1 g1 (zqI l) q
 | _=>cases e
def zfw (t:TA'):TI':=fun Γ Q=>t Γ fun ds Γ1=>∃ j:Int,ds=[.int j]/\-(2 ^ 62)<=j/\j<2 ^ 62/\Q ((List.range j.toNat).map fun k=>.int (0+(k:Nat))) Γ1
def zfv (t:TA'):TI':=fun Γ Q=>t Γ fun ds Γ1=>∃ i j:Int,ds=[.int i,.int j]/\(-(2 ^ 62)<=i/\i<2 ^ 62/\-(2 ^ 62)<=j/\j<2 ^ 62)/\Q ((List.range (j-i).toNat).map fun k=>.int (i+(k:Nat))) Γ1
def zdx {K:W.Frag} {H:Hp} {vs:List V} {d:D} (h:zaU K H vs [d]):∃ v,vs=[v]/\Den K H v d:=by
 cases h with
 | cons r t=>cases t; exact ⟨_,rfl,r⟩
def zhd {K:W.Frag} {H:Hp} {vs:List V} {d e:D} (h:zaU K H vs [d,e]):∃ v w,vs=[v,w]/\Den K H v d/\Den K H w e:=by
 cases h with
 | cons r t =>
  obtain ⟨w,rfl,q⟩:=zdx t; exact ⟨_,w,rfl,r,q⟩
def zfr {a tg:Expr} {t:TA'} {p pos:Pos} (hm:X.mg "range"=none) (ha:PA' X [a] t) (hg:Gl X "range":=by rfl):PI' X tg (.Call (.Name "range" p) [a] [] pos) (zfw t):=by
 refine ⟨PI.weak (zla hg hm ha.pa (zS (zx ha.pl).1)) ?_⟩
 rintro σ H R ⟨W,Hi,Γ,Q',g,h,fin⟩
 refine ⟨W,Hi,Γ,_,g,h,?_⟩
 rintro vs H1 Hi1 Γ1 ds s1 g1 dl ⟨j,rfl,b1,b2,q⟩
 obtain ⟨v,rfl,den⟩:=zdx dl; rw [den.intI]; exact ⟨j,rfl,b1,b2,fin _ H1 Hi1 Γ1 _ s1 g1 (zlM 0 _) q⟩
def zjN {a b tg:Expr} {t:TA'} {p pos:Pos} (hm:X.mg "range"=none) (ha:PA' X [a,b] t) (hg:Gl X "range":=by rfl):PI' X tg (.Call (.Name "range" p) [a,b] [] pos) (zfv t):=by
 refine ⟨PI.weak (zk9 hg hm ha.pa (by rw [zS (zx ha.pl).1,zS (zx (zx ha.pl).2).1]; rfl) (zS (zx (zx ha.pl).2).1)) ?_⟩
 rintro σ H R ⟨W,Hi,Γ,Q',g,h,fin⟩
 refine ⟨W,Hi,Γ,_,g,h,?_⟩
 rintro vs H1 Hi1 Γ1 ds s1 g1 dl ⟨i,j,rfl,b1,q⟩
 obtain ⟨v,w,rfl,den,den2⟩:=zhd dl; rw [den.intI,den2.intI]; exact ⟨i,j,rfl,b1,fin _ H1 Hi1 Γ1 _ s1 g1 (zlM i _) q⟩
def zmC (src:List (Option Nat)) (Γ:Sts):Sts:=src.map fun o=>match o with
 | none=>.emp
 | some i=>match Γ[i]? with
  | some (.val d)=>.val d
  | _=>.emp
def voS:Slot->Slot
 | .val d=>.val d
 | _=>.emp
def vo (Γ:Sts):Sts:=Γ.map voS
def zcK (g:TG') (tc:TT') (te:TE') (Q:List D->Prop):List D->List D->Sts->Prop
 | [],acc,_=>Q acc
 | d :: ds,acc,Γ=>g d Γ fun Γ2=>tc Γ2 fun b Γ3=>if b=true then te Γ3 fun y Γ4=>zcK g tc te Q ds (acc ++ [y]) (vo Γ4) else zcK g tc te Q ds acc (vo Γ3)
def zaW (ti:TI') (src:List (Option Nat)) (g:TG') (tc:TT') (te:TE'):TO':=fun Γ Q=>ti Γ fun ds Γ1=>ds.length<=sizeLine/\zcK g tc te (fun acc=>Q (.lst acc) Γ1) ds [] (zmC src Γ1)
structure PTs' (X:Cx) (ifs:List Expr) (t:TT'):Prop where
 h:PTs X ifs (zq6 X.K X.N.length t)
def zis:TT':=fun Γ Q=>Q true Γ
def zfX:PTs' X [] zis:=by
 refine ⟨?_⟩; intro pins s σ H Q I h; obtain ⟨W,Hi,Γ,Q',g,h,fin⟩:=h; exact zpK pins s σ H Q I (fin true H Hi Γ (zY.refl _) g h)
def zdm {c:Expr} {t:TT'} (h:PT' X c t):PTs' X [c] t:=⟨zpJ h.h⟩
def zc3 {elt tg iter:Expr} {ifs:List Expr} {sc fsc:Scope} {ti:TI'} {g:TG'} {tc:TT'} {te:TE'} {N N':List Str} {src:List (Option Nat)} (B:Blk N N' src fsc sc) (hi:PI' X tg iter ti)
  (hg:∀ cl C s H fp pn,PG' (blk X N' sc cl C s H fp pn) tg g) (ht:∀ cl C s H fp pn,PTs' (blk X N' sc cl C s H fp pn) ifs tc) (he:∀ cl C s H fp pn,PE' (blk X N' sc cl C s H fp pn) elt te)
  (hx:X.xe=(fun _ _=>False):=by rfl) (hc:X.calm=true:=by rfl) (hN:X.N=N:=by rfl) (hs:X.env.scope=fsc:=by rfl)
  (hf:∀ x,foldedSetIterable iter X.env x=pure x:=by intro _; rfl):PO' X (.ListComp elt [⟨tg,iter,ifs,0⟩] sc pos) (zaW ti src g tc te):=by
 refine ⟨PE.weak (zp8 (g:=gOf X.K N'.length g) (tc:=zq6 X.K N'.length tc) (te:=tOf X.K N'.length te) B hi.h (fun a b c d e f=>(hg a b c d e f).h) (fun a b c d e f=>(ht a b c d e f).h) (fun a b c d e f=>(he a b c d e f).h) hx hc hN hs hf) ?_⟩
 rintro σ H Q2 ⟨W,Hi,Γ,Q,gd,h,fin⟩
 refine ⟨W,Hi,Γ,_,gd,h,?_⟩
 rintro J H1 Hi1 Γ1 ds s1 g1 itd ⟨hlen,q⟩
 intro A hA
 -- the state between two turns
 have hn':src.length=N'.length:=B.len
 refine zhh (n:=ds.length) (fun i σ' H'=>∃ Hi' acc vs Γ',zY Hi1 Hi'/\Fz Hi' H'/\(∀ b o,H1 b=some o->H' b=some o)/\(∀ b o,H1 b=some o->Hi' b=Hi1 b)/\Hi' A=none/\H' A=some (.lst vs)/\zaU X.K Hi' vs acc/\vs.length<=i/\σ'.length=N'.length /\
   (∀ (j:Nat) s,Γ'[j]?=some s->s=.emp\/∃ d,s=.val d/\∃ v,σ'[j]?=some (some v)/\Den X.K Hi' v d)/\zcK g tc te (fun acc=>Q (.lst acc) Γ1) (ds.drop i) acc Γ') ?_ ?_ ?_
 ·refine ⟨Hi1,[],[],zmC src Γ1,zY.refl _,(Ext.newO g1.fz hA _ (fun _ z=>by cases z)).fz,fun b o e=>zM hA _ b o e,fun b o e=>rfl,g1.sub.free hA,zp,.nil,YB _,?_,fun j s e=>?_,by simpa using q⟩
  ·unfold zmY; rw [yE,hn']
  ·unfold zmC at e
   rw [yH] at e
   cases hj:src[j]? with
   | none=>rw [hj] at e; cases e
   | some o =>
    rw [hj] at e
    cases o with
    | none=>cases e; exact .inl rfl
    | some i =>
     have e':(match Γ1[i]? with | some (.val d)=>Slot.val d | _=>.emp)=s:=Option.some.inj e
     cases hΓ:Γ1[i]? with
     | none=>rw [hΓ] at e'; exact .inl e'.symm
     | some sl =>
      rw [hΓ] at e'
      cases sl with
      | val d =>
       refine .inr ⟨d,e'.symm,?_⟩; obtain ⟨v,h1,h2⟩:=g1.val i d hΓ; refine ⟨v,?_,h2⟩; unfold zmY; rw [yH,hj]
       show some ((some i).bind fun i=>(σ[i]?).join)=some (some v)
       show some ((σ[i]?).join)=some (some v)
       rw [h1]; rfl
      | emp=>exact .inl e'.symm
      | own o=>exact .inl e'.symm
      | bk _ _ _=>exact .inl e'.symm
 ·rintro i σ' H' hlt ⟨Hi',acc,vs,Γ',s2,s3,k1,k2,hA1,hA2,dl,hv,hl,hsl,q⟩
  have hd:ds.drop i=ds[i] :: ds.drop (i+1):=YN hlt
  rw [hd] at q; obtain ⟨go,yl⟩:=(itd Hi' H' s2 s3).1 i ds[i] (yC hlt)
  refine ⟨go,fun x H'' y=>?_⟩
  obtain ⟨Hi'',ex,den⟩:=yl x H'' y
  have gb:Good X.K N'.length ⟨H'',Hi'',[]⟩ Hi'' Γ' σ' H'':=by
   refine ⟨hl,ex.fz,fun b o e _=>e,fun b o e=>⟨o,e⟩,fun b o e=>rfl,fun j d e=>?_,fun j o e=>?_,fun j k o o' b e=>?_,fun j d b xs e=>?_⟩
   ·rcases hsl j _ e with z | ⟨d',z,v,h1,h2⟩
    ·cases z
    ·cases z; exact ⟨v,h1,h2.mono ex.hi⟩
   ·rcases hsl j _ e with z | ⟨d',z,_⟩ <;> cases z
   ·rcases hsl j _ e with z | ⟨d',z,_⟩ <;> cases z
   ·rcases hsl j _ e with z | ⟨d',z,_⟩ <;> cases z
  refine ⟨⟨H'',Hi'',[]⟩,Hi'',Γ',ds[i],_,gb,den,q,?_⟩; intro σ3 H3 Hi3 Γ3 s4 g3 q3; refine ⟨⟨H'',Hi'',[]⟩,Hi3,Γ3,_,g3,q3,?_⟩; intro b H4 Hi4 Γ4 s5 g4 q4
  -- what the state is behind a turn
  have back:∀ {Γ5:Sts} {Hi5 H5:Hp},zY Hi4 Hi5->Good X.K N'.length ⟨H'',Hi'',[]⟩ Hi5 Γ5 σ3 H5 ->
    zY Hi1 Hi5/\Fz Hi5 H5/\(∀ b o,H1 b=some o->H5 b=some o)/\(∀ b o,H1 b=some o->Hi5 b=Hi1 b)/\Hi5 A=none/\H5 A=some (.lst vs)/\zY Hi' Hi5:=fun {Γ5 Hi5 H5} s6 g5=>by
   have sx:zY Hi' Hi5:=ex.hi.trans (s4.trans (s5.trans s6))
   have hA3:H'' A=some (.lst vs):=ex.h _ _ hA2
   refine ⟨s2.trans sx,g5.fz,fun b o e=>g5.keep b o (ex.h _ _ (k1 b o e)) (by simp),fun b o e=>?_,?_,g5.keep A _ hA3 (by simp),sx⟩
   ·rw [g5.fro b o (ex.h _ _ (k1 b o e))]
    show Hi'' b=Hi1 b
    rw [ex.fro b o (k1 b o e),k2 b o e]
   ·rw [g5.fro A _ hA3]
    show Hi'' A=none
    rw [ex.fro A _ hA2,hA1]
  have sl:∀ {Γ5:Sts} {Hi5 H5:Hp},Good X.K N'.length ⟨H'',Hi'',[]⟩ Hi5 Γ5 σ3 H5->∀ (j:Nat) s,(vo Γ5)[j]?=some s->s=.emp\/∃ d,s=.val d/\∃ v,σ3[j]?=some (some v)/\Den X.K Hi5 v d:=fun {Γ5 Hi5 H5} g5 j s e=>by
   unfold vo at e; rw [yH] at e
   cases hj:Γ5[j]? with
   | none=>rw [hj] at e; cases e
   | some sl =>
    rw [hj] at e
    cases sl with
    | val d =>
     cases e; exact .inr ⟨d,rfl,g5.val j d hj⟩
    | emp=>cases e; exact .inl rfl
    | own o=>cases e; exact .inl rfl
    | bk _ _ _=>cases e; exact .inl rfl
  cases b with
  | false =>
   simp only [YL,if_false] at q4 ⊢; obtain ⟨b1,b2,b3,b4,b5,b6,b7⟩:=back (zY.refl _) g4
   exact ⟨Hi4,acc,vs,vo Γ4,b1,b2,b3,b4,b5,b6,dl.mono b7,by omega,g4.len,sl g4,q4⟩
  | true =>
   simp only [if_true] at q4 ⊢; refine ⟨⟨H'',Hi'',[]⟩,Hi4,Γ4,_,g4,q4,?_⟩
   rintro y' H5 ⟨Hi5,dy,Γ5,s6,g5,den5,q5⟩
   obtain ⟨b1,b2,b3,b4,b5,b6,b7⟩:=back s6 g5
   refine ⟨vs,b6,by omega,Hi5,acc ++ [dy],vs ++ [y'],vo Γ5,b1,?_,?_,b4,b5,zp,zat (dl.mono b7) (.cons den5 .nil),by rw [yV]; simp; omega,g5.len,sl g5,q5⟩
   ·refine ⟨fun b o e=>?_,fun b xs e=>?_⟩
    ·rw [zq (fun z=>by rw [z,b5] at e; cases e)]
     exact b2.sub b o e
    ·by_cases hb:b=A
     ·subst hb; rw [zp] at e; cases e
     ·rw [zq hb] at e; exact b2.tups b xs e
   ·intro b o e
    rw [zq (zA e hA)]; exact b3 b o e
 ·rintro σ' H' ⟨Hi',acc,vs,Γ',s2,s3,k1,k2,hA1,hA2,dl,hv,hl,hsl,q⟩
  refine ⟨(itd Hi' H' s2 s3).2,?_⟩; rw [YZ (yD _)] at q
  have ex:Ext Hi1 H1 Hi' H':=⟨s2,k1,s3,k2⟩
  refine fin A H' Hi' Γ1 (.lst acc) (s1.trans s2) (g1.ext ex) ⟨hA1,?_,⟨fun j o' e z=>?_,fun j d xs e=>?_⟩,vs,hA2,dl⟩ q
  ·cases hq:W.H₀ A with
   | none=>rfl
   | some w =>
    obtain ⟨w',hw⟩:=g1.there A w hq
    rw [hA] at hw; cases hw
  ·obtain ⟨a,h1,_,_,h4⟩:=g1.own j o' e
   rw [z] at h1; cases h1; obtain ⟨w,hw⟩:=h4.there
   rw [hA] at hw; cases hw
  ·obtain ⟨w,hw⟩:=(g1.bk j d A xs e).at_.there
   rw [hA] at hw; cases hw
abbrev Sp':=List D->(Res->Prop)->Prop
def ziB (K:W.Frag) (sp:Sp'):Sp:=fun vs H Q2 _=>∃ Hi ds Q,Fz Hi H/\zaU K Hi vs ds/\sp ds Q/\∀ Hi' H' v r,Ext Hi H Hi' H'->zq4 K H Hi' H' v r->Q r->Q2 v H'
def zJ (sp:Sp') (t:TA'):TE':=fun Γ Q=>t Γ fun ds Γ1=>sp ds fun r=>Q r.toD Γ1
def zce (sp:Sp') (t:TA'):TO':=fun Γ Q=>t Γ fun ds Γ1=>sp ds fun r=>∃ o,r=.own o/\Q o Γ1
variable {k:Nat} {f:Addr} {fd:FuncData} {ps:List Str} {sp:Sp'} {x:Str} {p:Pos} {e:Expr} {es:List Expr} {t:TA'}
def zbl {K:W.Frag} {n:Nat} {W:Wd} {Hi H Hi' H':Hp} {Γ:Sts} {σ:St} {a:Addr} {o:OD} (g:Good K n W Hi Γ σ H) (ex:Ext Hi H Hi' H') (h1:Hi' a=none) (h2:H a=none) (h3:za5 K Hi' H' a o):New K n W Hi' Γ σ H' a o:=by
 refine ⟨h1,?_,⟨fun j o' e z=>?_,fun j d xs e=>?_⟩,h3⟩
 ·cases q:W.H₀ a with
  | none=>rfl
  | some w =>
   obtain ⟨w',hw⟩:=g.there a w q
   rw [h2] at hw; cases hw
 ·obtain ⟨b,q1,_,_,q4⟩:=g.own j o' e
  rw [z] at q1; cases q1; obtain ⟨w,hw⟩:=q4.there
  rw [h2] at hw; cases hw
 ·obtain ⟨w,hw⟩:=(g.bk j d a xs e).at_.there
  rw [h2] at hw; cases hw
def znv (F:FnOk X.prog X.w X.K X.mg X.base CX0 k f fd ps (ziB X.K sp)) (hr:Room k X.A) (hm:X.mg x=some (.ref f)) (hk:W.keepIn X.K (.ref f)=true) (hb:zb7 X.K fd ps [])
  (ha:PA' X (e :: es) t) (hg:Gl X x:=by rfl) (hdb:yyD x:=by decide) :
  PE' X (.Call (.Name x p) (e :: es) [] pos) (zJ sp t):=by
 refine ⟨PE.weak (zhP (E:=E0) (dvs:=[]) F hr hg hm hk hb .nil zqc ha.pa hdb (zS (zx ha.pl).1) (zae (zx ha.pl).2)) ?_⟩
 rintro σ H Q ⟨W,Hi,Γ,Q',g,h,fin⟩
 refine ⟨W,Hi,Γ,_,g,h,?_⟩; intro vs H1 Hi1 Γ1 ds s1 g1 dl q; rw [yb]; refine ⟨Hi1,ds,_,g1.fz,dl,q,?_⟩; intro Hi2 H2 v r ex ro q2
 cases r with
 | val d=>exact fin v H2 ⟨Hi2,d,Γ1,s1.trans ex.hi,g1.ext ex,ro,q2⟩
 | own o =>
  obtain ⟨a,rfl,h1,h2,h3⟩:=ro; have nw:=zbl g1 ex h1 h2 h3; obtain ⟨u,hu⟩:=h3.there; exact fin _ H2 ⟨upd Hi2 a u,_,Γ1,s1.trans (ex.hi.trans (zM h1 u)),(g1.ext ex).freezeA nw.hi nw.h0 nw.ne hu,h3.den h1 hu,q2⟩
 | bk d o =>
  obtain ⟨b,dv,hol,h1,h2,h3⟩:=ro; have nw:=zbl g1 ex h1 h2 h3; obtain ⟨u,hu⟩:=h3.there; exact fin _ H2 ⟨upd Hi2 b u,_,Γ1,s1.trans (ex.hi.trans (zM h1 u)),(g1.ext ex).freezeA nw.hi nw.h0 nw.ne hu,hol b _ v o (h3.den h1 hu) (dv.mono (zM h1 u)),q2⟩
def zpU (F:FnOk X.prog X.w X.K X.mg X.base CX0 k f fd ps (ziB X.K sp)) (hr:Room k X.A) (hm:X.mg x=some (.ref f)) (hk:W.keepIn X.K (.ref f)=true) (hb:zb7 X.K fd ps [])
  (ha:PA' X (e :: es) t) (hg:Gl X x:=by rfl) (hdb:yyD x:=by decide) :
  PO' X (.Call (.Name x p) (e :: es) [] pos) (zce sp t):=by
 refine ⟨PE.weak (zhP (E:=E0) (dvs:=[]) F hr hg hm hk hb .nil zqc ha.pa hdb (zS (zx ha.pl).1) (zae (zx ha.pl).2)) ?_⟩
 rintro σ H Q ⟨W,Hi,Γ,Q',g,h,fin⟩
 refine ⟨W,Hi,Γ,_,g,h,?_⟩; intro vs H1 Hi1 Γ1 ds s1 g1 dl q; rw [yb]; refine ⟨Hi1,ds,_,g1.fz,dl,q,?_⟩
 rintro Hi2 H2 v r ex ro ⟨o,rfl,q2⟩
 obtain ⟨a,rfl,h1,h2,h3⟩:=ro; exact fin a H2 Hi2 Γ1 o (s1.trans ex.hi) (g1.ext ex) (zbl g1 ex h1 h2 h3) q2
end
def zaN (N:List Str) (ds:List D):Sts:=ds.map .val ++ List.replicate (N.length-ds.length) .emp
section
def Fun.ok' {x qual:Str} {st:Stmt} {f:Addr} {fd:FuncData} {N ps:List Str} {k:Nat} {sp:Sp'} (F:Fun K x qual st f fd) (S:FnScope N ps (zl st)) (len:∀ ds Q,sp ds Q->ds.length=ps.length)
  (hbody:∀ (cdv:Value) (A:Around) (outer:List Env) (s:Shared) (H:Hp) (E:XK),Room k (A.deeper (PyProof.Rows.envOfC qual (zl st) s.heap.objs.size f cdv))->∀ ds Q,sp ds Q ->
   ∃ t,PSs' (zdy CX0 P w K mg base N qual (zl st) f cdv A outer s H E).nox (zak st) t/\t { nx:=fun _=>Q (.val .non),rt:=fun r _=>Q r } (zaN N ds)):FnOk P w K mg base CX0 (k+1) f fd ps (ziB K sp):=by
 refine F.ok S (fun vs H Q E h=>?_) (fun cdv A outer s H vs Q E hr h=>?_)
 ·obtain ⟨Hi,ds,Q',_,dl,h,_⟩:=h
  rw [zj dl]; exact len ds Q' h
 obtain ⟨Hi,ds,Q',sb,dl,h,fin⟩:=h; obtain ⟨t,h1,h2⟩:=hbody cdv A outer s H E hr ds Q' h
 have hlen:ds.length=ps.length:=len ds Q' h
 have hpl:ps.length<=N.length:=by have:=yi List.length S.pre; rw [YJ] at this; omega
 have hvl:=zj dl; refine ⟨_,h1.h,⟨H,Hi,[]⟩,Hi,zaN N ds,_,?_,h2,?_⟩
 ·refine ⟨?_,sb,fun b o e _=>e,fun b o e=>⟨o,e⟩,fun b o e=>rfl,fun j d e=>?_,fun j o e=>?_,fun j k o o' b e=>?_,fun j d b xs e=>?_⟩
  ·unfold L2.start
   show _=N.length
   rw [yV,yE,List.length_replicate]; omega
  all_goals
   unfold zaN at e
   by_cases hj:j<ds.length
   ·rw [yn (by simpa using hj),yH,yC hj] at e
    try cases e
    try
     obtain ⟨v,e1,e2⟩:=zX dl (yC hj); refine ⟨v,?_,e2⟩; unfold L2.start
     rw [yn (by rw [yE]; omega),yH,e1]
     rfl
   ·rw [yz (by simpa using hj),List.getElem?_replicate] at e
    split at e <;> cases e
 ·refine ⟨fun σ' H' Hi' Γ' s1 g1 q=>?_,fun _ _ _ _ _ _ q=>q.elim,fun _ _ _ _ _ _ q=>q.elim,fun v σ' H' Hi' Γ' r s1 g1 ro q=>?_⟩
  ·exact fin Hi' H' .non (.val .non) ⟨s1,fun b o e=>g1.keep b o e (by simp),g1.fz,fun b o e=>g1.fro b o e⟩ .non q
  ·exact fin Hi' H' v r ⟨s1,fun b o e=>g1.keep b o e (by simp),g1.fz,fun b o e=>g1.fro b o e⟩ ro q
end
end PL
namespace L2
open PySem PySem.Spec PyProof.Rows
section
def zkU (r:Addr) (a b:Int) (t u v:Tok) (i:Int) (t':Tok):Meets (Builtin.«range.__contains__» ⟨[.ref r,.int i t'],[]⟩) (fun _ R s=>s.heap.get? r=some { cls:=.type "range",dict:=none,data:=.fields #[.int a t,.int b u,.int 1 v],slots:=#[] } /\
  R (.ok (.ret (.bool (Builtin.Range.rangePlace? a b 1 i).isSome))) s) :=
 .of_wp fun prog w A R s h=>by obtain ⟨hp,g,d,tk,os⟩:=s; obtain ⟨hl,h⟩:=h; wp_walk; exact ⟨_,rfl,h⟩
def zjL (a b i:Int):(Builtin.Range.rangePlace? a b 1 i).isSome=decide (a<=i/\i<b):=by
 unfold Builtin.Range.rangePlace?
 have h1:(1:Int) > 0:=by decide
 have h2:(i-a) % 1=0:=Int.emod_one _
 simp only [h1,if_true,h2,beq_self_eq_true,Bool.and_true]
 by_cases h:a<=i/\i<b
 ·have e:(decide (a<=i) && decide (i<b))=true:=by simp [h.1,h.2]
  rw [yM e,Yl h]; rfl
 ·have e:¬ (decide (a<=i) && decide (i<b))=true:=by
   intro z; simp only [yr,YE] at z; exact h z
  rw [yK e,yg h]; rfl
def zwo (neg:Bool):R2:=fun x y H Q=>∃ i p lo hi,x=.int i/\y=.ref p/\Rd H p (.rng lo hi)/\Q (.bl (if neg then !decide (lo<=i/\i<hi) else decide (lo<=i/\i<hi))) H
def zgO:OpR X (compareOp .NotIn) (zwo true):=by
 intro pins s σ H x y v u Q I rx ry h; obtain ⟨i,p,lo,hi,rfl,rfl,hp,q⟩:=h; obtain ⟨t,rfl⟩:=rx; cases ry; obtain ⟨t1,t2,t3,e⟩:=hp.ok I.hok; refine PySem.SeqRoads2.notIn_meets ⟨_,e,rfl⟩ F.slot_range_contains F.entry_range_contains (F.args_range_contains_2 _ _) (zkU p lo hi t1 t2 t3 i t) ⟨e,_,rfl,⟨.bl _,H,I,rfl,?_⟩⟩; rw [zjL]; exact q
def ztz (K:W.Frag) (H:Hp):V->String->Prop
 | .non,t=>t="NoneType"
 | .bl _,t=>t="bool"
 | .int _,t=>t="int"
 | .str _,t=>t="str"
 | .ref a,t=>(t="list"/\∃ xs,SqL K H a xs)\/(t="tuple"/\∃ xs,SqT K H a xs)\/(t="dict"/\((∃ kvs,Rd H a (.dK kvs))\/∃ kvs,Rd H a (.dT kvs)))
 | _,_=>False
end
end L2
namespace PL
open PySem L2
section
def zf8 {g:Int->Int->V} (g':Int->Int->D) (hg:∀ i j Hi,Den K Hi (g i j) (g' i j)):zke K (rI0 g) (fun x y Q=>∃ i j,x=.int i/\y=.int j/\Q (g' i j)):=by
 rintro Hi H x y dx dy Q Q2 s d1 d2 ⟨i,j,rfl,rfl,q⟩ fin
 exact ⟨i,j,d1.intI,d2.intI,fin Hi H _ _ (Ext.refl s) (hg i j Hi) q⟩
def zls {C:Int->Int->Prop} {g:Int->Int->V} (g':Int->Int->D) (hg:∀ i j Hi,Den K Hi (g i j) (g' i j)):zke K (rI C g) (fun x y Q=>∃ i j,x=.int i/\y=.int j/\C i j/\Q (g' i j)):=by
 rintro Hi H x y dx dy Q Q2 s d1 d2 ⟨i,j,rfl,rfl,c,q⟩ fin
 exact ⟨i,j,d1.intI,d2.intI,c,fin Hi H _ _ (Ext.refl s) (hg i j Hi) q⟩
def zpE (g:Int->Int->D):R2':=fun x y Q=>∃ i j,x=.int i/\y=.int j/\Q (g i j)
def rI' (C:Int->Int->Prop) (g:Int->Int->D):R2':=fun x y Q=>∃ i j,x=.int i/\y=.int j/\C i j/\Q (g i j)
def zu9:Op2 X (binaryOp .Add) (zpE fun i j=>.int (i+j)):=⟨_,zsE,zf8 _ fun i j _=>.int _⟩
def zu4:Op2 X (binaryOp .Sub) (zpE fun i j=>.int (i-j)):=⟨_,zsy,zf8 _ fun i j _=>.int _⟩
def zu5:Op2 X (binaryOp .Mult) (rI' zoo fun i j=>.int (i * j)):=⟨_,zsz,zls _ fun i j _=>.int _⟩
def zbw:Op2 X (binaryOp .FloorDiv) (rI' zop fun i j=>.int (i / j)):=⟨_,zqf,zls _ fun i j _=>.int _⟩
def zcl:Op2 X (binaryOp .Mod) (rI' (fun _ j=>0<j) fun i j=>.int (i % j)):=⟨_,zsA,zls _ fun i j _=>.int _⟩
def zsI:Op2 X (compareOp .Lt) (zpE fun i j=>.bl (decide (i<j))):=⟨_,zu1,zf8 _ fun i j _=>.bl _⟩
def zwr:Op2 X (compareOp .Gt) (zpE fun i j=>.bl (decide (j<i))):=⟨_,zu2,zf8 _ fun i j _=>.bl _⟩
def zhM:R2':=fun x y Q=>∃ l m,x=.str l/\y=.str m/\l.length+m.length<=sizeLine/\Q (.str (l ++ m))
def zsK:Op2 X (binaryOp .Add) zhM:=⟨_,zjO,by
 rintro Hi H x y dx dy Q Q2 s d1 d2 ⟨l,m,rfl,rfl,hl,q⟩ fin
 refine ⟨_,_,d1.strI,d2.strI,by rw [zbC,zbC]; exact hl,?_⟩
 rw [zrM]; exact fin Hi H _ _ (Ext.refl s) (.str _) q⟩
def eqS:D->D->Option Bool
 | .non,.non=>some true
 | .non,.int _=>some false
 | .non,.bl _=>some false
 | .non,.str _=>some false
 | .int _,.non=>some false
 | .bl _,.non=>some false
 | .str _,.non=>some false
 | .int i,.int j=>some (decide (i=j))
 | .bl i,.bl j=>some (decide (i=j))
 | .str i,.str j=>some (decide (i=j))
 | .int _,.str _=>some false
 | .str _,.int _=>some false
 | .bl _,.str _=>some false
 | .str _,.bl _=>some false
 | _,_=>none
inductive Scl (K:W.Frag) (Hi:Hp) (x:V):D->Prop where
 | n (h:x=.non):Scl K Hi x .non
 | b (b:Bool) (h:x=.bl b):Scl K Hi x (.bl b)
 | i (i:Int) (h:x=.int i):Scl K Hi x (.int i)
 | s (l:List Nat) (h:x=.str (st l)):Scl K Hi x (.str l)
def zds {dx dy:D} {b:Bool} (h:eqS dx dy=some b):dx=.non\/(∃ b,dx=.bl b)\/(∃ i,dx=.int i)\/∃ l,dx=.str l:=by
 cases dx with
 | non=>exact .inl rfl
 | bl b=>exact .inr (.inl ⟨b,rfl⟩)
 | int i=>exact .inr (.inr (.inl ⟨i,rfl⟩))
 | str l=>exact .inr (.inr (.inr ⟨l,rfl⟩))
 | _=>cases dy <;> exact nomatch h
def zlS (dx dy:D) {b:Bool} (h:eqS dx dy=some b):∃ c,eqS dy dx=some c:=by
 rcases zds h with rfl | ⟨i,rfl⟩ | ⟨i,rfl⟩ | ⟨i,rfl⟩ <;> cases dy <;> first | exact ⟨_,rfl⟩ | exact nomatch h
def Den.scl {Hi:Hp} {x:V} {d:D} (d1:Den K Hi x d) (h:d=.non\/(∃ b,d=.bl b)\/(∃ i,d=.int i)\/∃ l,d=.str l):Scl K Hi x d:=by
 rcases h with rfl | ⟨i,rfl⟩ | ⟨i,rfl⟩ | ⟨i,rfl⟩
 ·exact .n d1.nonI
 ·exact .b _ d1.blI
 ·exact .i _ d1.intI
 ·exact .s _ d1.strI
def zoZ {Hi:Hp} {x y:V} {dx dy:D} {b:Bool} (d1:Den K Hi x dx) (d2:Den K Hi y dy) (h:eqS dx dy=some b):zpy x y=true/\decide (x=y)=b:=by
  have s1:=d1.scl (zds h); have s2:=d2.scl (zds (zlS _ _ h).choose_spec)
  cases s1 <;> rename_i e1 <;> subst e1 <;> cases s2 <;> rename_i e2 <;> subst e2 <;> first
    | (exact yN (show (none:Option Bool)=some b from h) (fun z=>nomatch z))
    | (refine ⟨rfl,?_⟩
       have h':=Option.some.inj h
       subst h'
       first
         | rfl
         | (exact decide_eq_decide.mpr ⟨fun z=>V.int.inj z,fun z=>yi V.int z⟩)
         | (exact decide_eq_decide.mpr ⟨fun z=>V.bl.inj z,fun z=>yi V.bl z⟩)
         | (exact decide_eq_decide.mpr ⟨fun z=>st_inj (V.str.inj z),fun z=>yi (fun l=>V.str (st l)) z⟩)
         | (exact yg (fun z=>nomatch z)))
def zm5 (neg:Bool):R2':=fun x y Q=>∃ c l,x=.str [c]/\y=.str l/\Q (.bl (if neg then !decide (c ∈ l) else decide (c ∈ l)))
def zu8:Op2 X (compareOp .In) (zm5 false):=⟨_,zle,by
 rintro Hi H x y dx dy Q Q2 s d1 d2 ⟨c,l,rfl,rfl,q⟩ fin
 refine ⟨_,_,d1.strI,d2.strI,?_⟩; rw [zoT]; exact fin Hi H _ _ (Ext.refl s) (.bl _) q⟩
def znz:Op2 X (compareOp .NotIn) (zm5 true):=⟨_,zgM,by
 rintro Hi H x y dx dy Q Q2 s d1 d2 ⟨c,l,rfl,rfl,q⟩ fin
 refine ⟨_,_,d1.strI,d2.strI,?_⟩; rw [zoT]; exact fin Hi H _ _ (Ext.refl s) (.bl _) q⟩
def zm6 (neg:Bool):R2':=fun x y Q=>∃ i lo hi,x=.int i/\y=.rng lo hi/\Q (.bl (if neg then !decide (lo<=i/\i<hi) else decide (lo<=i/\i<hi)))
def znA:Op2 X (compareOp .NotIn) (zm6 true):=⟨_,zgO,by
 rintro Hi H x y dx dy Q Q2 s d1 d2 ⟨i,lo,hi,rfl,rfl,q⟩ fin
 cases d2 with
 | rng h=>exact ⟨i,_,lo,hi,d1.intI,rfl,zdL s.sub h,fin Hi H _ _ (Ext.refl s) (.bl _) q⟩⟩
def zmt (neg:Bool):R2':=fun x y Q=>y=.non/\∃ b:Bool,(b=true↔x=.non)/\Q (.bl (if neg then !b else b))
def zqj:Op2 X (compareOp .Is) (zmt false):=⟨_,zsC,by
 rintro Hi H x y dx dy Q Q2 s d1 d2 ⟨rfl,b,e,q⟩ fin
 refine ⟨d2.nonI,?_⟩
 have z:decide (x=.non)=b:=by
  rw [Bool.eq_iff_iff,e,YE]; exact d1.non_iff
 rw [z]; exact fin Hi H _ _ (Ext.refl s) (.bl _) q⟩
def znB:Op2 X (compareOp .IsNot) (zmt true):=⟨_,zqe,by
 rintro Hi H x y dx dy Q Q2 s d1 d2 ⟨rfl,b,e,q⟩ fin
 refine ⟨d2.nonI,?_⟩
 have z:decide (x=.non)=b:=by
  rw [Bool.eq_iff_iff,e,YE]; exact d1.non_iff
 rw [z]; exact fin Hi H _ _ (Ext.refl s) (.bl _) q⟩
def zms:R2':=fun x y Q=>∃ i,y=.int i/\((∃ ds d,x=.lst ds/\atI ds i=some d/\Q d)\/(∃ ds d,x=.tup ds/\atI ds i=some d/\Q d)\/∃ l c,x=.str l/\l.length<=sizeLine/\atI l i=some c/\Q (.str [c]))
def zmo {Hi:Hp} {vs:List V} {ds:List D} {i:Int} {d:D} (r:zaU K Hi vs ds) (h:atI ds i=some d):∃ v,atI vs i=some v/\Den K Hi v d:=by
 unfold atI at h ⊢
 rw [zj r]
 cases e:ixN ds.length i with
 | none=>rw [e] at h; cases h
 | some j =>
  rw [e] at h
  obtain ⟨v,h1,h2⟩:=zX r (show ds[j]?=some d from h)
  exact ⟨v,h1,h2⟩
def zvd:Ixs X zms:=⟨_,zs5,by
 rintro Hi H x y dx dy Q Q2 s d1 d2 ⟨i,rfl,h⟩ fin
 rcases h with ⟨ds,d,rfl,e,q⟩ | ⟨ds,d,rfl,e,q⟩ | ⟨l,c,rfl,hl,e,q⟩
 ·obtain ⟨a,vs,rfl,h1,h2⟩:=d1.lstI
  obtain ⟨v,h3,h4⟩:=zmo h2 e; exact .inl ⟨a,vs,i,v,rfl,d2.intI,zL s.sub h1,h3,fin Hi H _ _ (Ext.refl s) h4 q⟩
 ·obtain ⟨a,vs,rfl,h1,h2⟩:=d1.tupI
  obtain ⟨v,h3,h4⟩:=zmo h2 e; exact .inr (.inl ⟨a,vs,i,v,rfl,d2.intI,zR s.sub h1,h3,fin Hi H _ _ (Ext.refl s) h4 q⟩)
 ·refine .inr (.inr ⟨_,i,c,d1.strI,d2.intI,by rw [zbC]; exact hl,by rw [zad]; exact e,fin Hi H _ _ (Ext.refl s) (.str [c]) q⟩)⟩
def zdR {α:Type} (xs:List α) (lo hi:Option Int):List α:=(xs.drop (HT.sIx xs.length 0 lo)).take (HT.sIx xs.length xs.length hi-HT.sIx xs.length 0 lo)
def zjH:RS':=fun x lo hi Q=>∃ l,x=.str l/\l.length<=sizeLine/\((lo=none/\∃ n,hi=some n/\0<=n/\Q (.str (l.take n.toNat)))\/(hi=none/\∃ n,lo=some n/\0<=n/\Q (.str (l.drop n.toNat))))
def zuC:Sli X zjH:=⟨_,zrP,by
 rintro Hi H x dx lo hi Q Q2 s d1 ⟨l,rfl,hl,h⟩ fin
 refine ⟨st l,d1.strI,by rw [zbC]; exact hl,?_⟩
 rcases h with ⟨rfl,n,rfl,hn,q⟩ | ⟨rfl,n,rfl,hn,q⟩
 ·obtain ⟨m,rfl⟩:=Yv hn
  rw [zmX]; exact fin Hi H _ _ (Ext.refl s) (.str _) q
 ·obtain ⟨m,rfl⟩:=Yv hn
  rw [zjE]; exact fin Hi H _ _ (Ext.refl s) (.str _) q⟩
def zgB:RS':=fun x lo hi Q=>∃ ds,x=.tup ds/\Q (.tup (zdR ds lo hi))
def zjI:RS':=fun x lo hi Q=>∃ ds,x=.lst ds/\Q (.lst (zdR ds lo hi))
def zma {Hi:Hp} {vs:List V} {ds:List D} {lo hi:Option Int} (r:zaU K Hi vs ds):zaU K Hi (zmb vs lo hi) (zdR ds lo hi):=by
 unfold zmb zdR; rw [zj r]; exact zeA _ (zeB _ r)
def zrQ:Sli X zjI:=⟨_,zpx,by
 rintro Hi H x dx lo hi Q Q2 s d1 ⟨ds,rfl,q⟩ fin
 obtain ⟨a,vs,rfl,h1,h2⟩:=d1.lstI
 refine ⟨a,vs,rfl,zL s.sub h1,fun p hp=>?_⟩
 have e:=Ext.new s hp (.lst (zmb vs lo hi)); exact fin _ _ _ _ e (Den.mkL (SqL.of zp) (zma (h2.mono e.hi))) q⟩
def ze9:RC':=fun ds Q=>∃ d,ds=[d]/\((∃ l,d=.str l/\l.length<=sizeLine/\Q (.int (l.length:Nat)))\/(∃ es,d=.lst es/\Q (.int (es.length:Nat)))\/∃ es,d=.tup es/\Q (.int (es.length:Nat)))
def zvw:Cal X (.builtin "len") ze9:=⟨_,zhn.or zho,by
 rintro Hi H vs ds Q Q2 s dl ⟨d,rfl,h⟩ fin
 obtain ⟨v,rfl,den⟩:=zdx dl
 rcases h with ⟨l,rfl,hl,q⟩ | ⟨es,rfl,q⟩ | ⟨es,rfl,q⟩
 ·refine .inl ⟨_,by rw [den.strI],by rw [zbC]; exact hl,?_⟩
  rw [zbC]; exact fin Hi H _ _ (Ext.refl s) (.int _) q
 ·obtain ⟨a,us,rfl,h1,h2⟩:=den.lstI
  refine .inr ⟨a,us,rfl,.inl (zL s.sub h1),?_⟩; rw [zj h2]; exact fin Hi H _ _ (Ext.refl s) (.int _) q
 ·obtain ⟨a,us,rfl,h1,h2⟩:=den.tupI
  refine .inr ⟨a,us,rfl,.inr (zR s.sub h1),?_⟩; rw [zj h2]; exact fin Hi H _ _ (Ext.refl s) (.int _) q⟩
def zr3:RC':=fun ds Q=>∃ l n,ds=[.str l]/\PySem.intText? (st l)=some n/\l.length<=640/\Q (.int n)
def zvx:Cal X (.type "int") zr3:=⟨_,zhp,by
 rintro Hi H vs ds Q Q2 s dl ⟨l,n,rfl,e,hl,q⟩ fin
 obtain ⟨v,rfl,den⟩:=zdx dl
 exact ⟨_,n,by rw [den.strI],e,by rw [zbC]; exact hl,fin Hi H _ _ (Ext.refl s) (.int _) q⟩⟩
def zmv (i:Int):List Nat:=(Str.ofString (toString i)).cps.toList
def zpC:RC':=fun ds Q=>∃ i,ds=[.int i]/\i.natAbs.log2<1920/\Q (.str (zmv i))
def zvv:Cal X (.type "str") zpC:=⟨_,zhj,by
 rintro Hi H vs ds Q Q2 s dl ⟨i,rfl,hl,q⟩ fin
 obtain ⟨v,rfl,den⟩:=zdx dl
 refine ⟨i,by rw [den.intI],hl,?_⟩
 refine fin Hi H _ (.str (zmv i)) (Ext.refl s) ?_ q
 have e:(V.str (toString i))=.str (st (zmv i)):=by
  unfold zmv; rw [<- zrL]
 rw [e]; exact .str _⟩
def zpD:RC':=fun ds Q=>∃ i j,ds=[.int i,.int j]/\Q (.int (if j<i then j else i))
def ztn (hc:X.calm=true):Cal X (.builtin "min") zpD:=⟨_,zmi hc,by
 rintro Hi H vs ds Q Q2 s dl ⟨i,j,rfl,q⟩ fin
 obtain ⟨v,w,rfl,d1,d2⟩:=zhd dl
 exact ⟨i,j,by rw [d1.intI,d2.intI],fin Hi H _ _ (Ext.refl s) (.int _) q⟩⟩
def ziG:RC':=fun ds Q=>∃ d es,ds=[d]/\(d=.lst es\/d=.tup es)/\Q (.tup es)
def zcv:Cal X (.type "tuple") ziG:=⟨_,zgk,by
 rintro Hi H vs ds Q Q2 s dl ⟨d,es,rfl,h,q⟩ fin
 obtain ⟨v,rfl,den⟩:=zdx dl
 rcases h with rfl | rfl
 ·obtain ⟨a,us,rfl,h1,h2⟩:=den.lstI
  refine ⟨a,us,rfl,.inl ⟨zL s.sub h1,fun l hl=>?_⟩⟩
  have e:=Ext.new s hl (.tup us); exact fin _ _ _ _ e (Den.mkT zp (h2.mono e.hi)) q
 ·obtain ⟨a,us,rfl,h1,h2⟩:=den.tupI
  exact ⟨a,us,rfl,.inr ⟨zR s.sub h1,fin Hi H _ _ (Ext.refl s) den q⟩⟩⟩
def zqy:D->Option String
 | .non=>some "NoneType"
 | .bl _=>some "bool"
 | .int _=>some "int"
 | .str _=>some "str"
 | .lst _=>some "list"
 | .tup _=>some "tuple"
 | .dic _=>some "dict"
 | _=>none
def zn1 {Hi H:Hp} {x:V} {d:D} {t:String} (s:zY Hi H) (den:Den K Hi x d) (h:zqy d=some t):ztz K H x t:=by
 cases den with
 | non=>exact (Option.some.inj h).symm
 | bl b=>exact (Option.some.inj h).symm
 | int i=>exact (Option.some.inj h).symm
 | str l=>exact (Option.some.inj h).symm
 | ty n=>cases h
 | adr b=>cases h
 | rng h'=>cases h
 | tup hq l r=>exact .inr (.inl ⟨(Option.some.inj h).symm,_,SqT.of (s _ _ hq)⟩)
 | lst hq l r=>exact .inl ⟨(Option.some.inj h).symm,_,zL s hq⟩
 | dicK hq l r r2=>exact .inr (.inr ⟨(Option.some.inj h).symm,.inl ⟨_,zdL s hq⟩⟩)
 | dicT hq l r r2=>cases h
 | cls C=>cases h
 | obj hq l r r2=>cases h
 | excN hq=>cases h
 | exc hq h2 l r r2=>cases h
def zhH:RM':=fun x ds Q=>∃ l y,x=.str l/\ds=[.str y]/\l.length<=sizeLine/\Q (.str (Txt.rstripChars (st l) (st y)).cps.toList)
def znI:Met X "str" "str.rstrip" zhH:=⟨_,zlo,by
 rintro Hi H x vs dx ds Q Q2 s d1 dl ⟨l,y,rfl,rfl,hl,q⟩ fin
 obtain ⟨v,rfl,den⟩:=zdx dl
 refine ⟨_,_,d1.strI,by rw [den.strI],by rw [zbC]; exact hl,?_⟩
 rw [zrL (Txt.rstripChars (st l) (st y))]; exact fin Hi H _ _ (Ext.refl s) (.str _) q⟩
end
section
variable {a b c:Expr} {pos:Pos} {ta tb tc:TE'}
def zfV:R2':=fun x y Q=>(∃ i j,x=.int i/\y=.int j/\Q (.int (i+j)))\/zhM x y Q
def zva:Op2 X (binaryOp .Add) zfV:=zu9.or zsK
def zfR:R2':=fun x y Q=>zm5 true x y Q\/zm6 true x y Q
def zqk:Op2 X (compareOp .NotIn) zfR:=znz.or znA
end
structure Df (K:W.Frag) (mg:Str->Option Value) (x:Str) (st:Stmt) (ps:List Str):Prop where
 ex:∃ f fd,Fun K x x st f fd/\zb7 K fd ps []/\mg x=some (.ref f)
structure Fn (P:Program) (w:World) (K:W.Frag) (mg:Str->Option Value) (base:Heap) (k:Nat) (x:Str) (ps:List Str) (sp:Sp'):Prop where
 ex:∃ f fd,FnOk P w K mg base CX0 k f fd ps (ziB K sp)/\zb7 K fd ps []/\W.keepIn K (.ref f)=true/\mg x=some (.ref f)/\∃ oc od osl,K.lookup f=some ⟨oc,od,.func fd,osl⟩
section
variable {k:Nat} {x:Str} {ps:List Str} {sp:Sp'}
def Df.ok {st:Stmt} {N:List Str} (d:Df K mg x st ps) (S:FnScope N ps (zl st)) (len:∀ ds Q,sp ds Q->ds.length=ps.length)
  (hbody:∀ (f:Addr) (cdv:Value) (A:Around) (outer:List Env) (s:Shared) (H:Hp) (E:XK),Room k (A.deeper (PyProof.Rows.envOfC x (zl st) s.heap.objs.size f cdv))->∀ ds Q,sp ds Q ->
   ∃ t,PSs' (zdy CX0 P w K mg base N x (zl st) f cdv A outer s H E).nox (zak st) t/\t { nx:=fun _=>Q (.val .non),rt:=fun r _=>Q r } (zaN N ds)):Fn P w K mg base (k+1) x ps sp:=by
 obtain ⟨f,fd,F,b,m⟩:=d.ex; obtain ⟨oc,od,kV,doc,pm,an,cdv,ct,osl,e,lk,_⟩:=F.ex; exact ⟨f,fd,PL.Fun.ok' F S len (hbody f),b,F.kp,m,oc,od,osl,lk⟩
end
section
variable {k:Nat} {x:Str} {ps:List Str} {sp:Sp'} {p pos:Pos} {e:Expr} {es:List Expr} {t:TA'}
def zaG (h:Fn X.prog X.w X.K X.mg X.base k x ps sp) (hr:Room k X.A) (ha:PA' X (e :: es) t) (hg:Gl X x:=by rfl) (hdb:yyD x:=by decide) :
  PE' X (.Call (.Name x p) (e :: es) [] pos) (zJ sp t):=by
 obtain ⟨f,fd,F,b,kp,m,_⟩:=h.ex; exact znv F hr m kp b ha hg hdb
def zsf (h:Fn X.prog X.w X.K X.mg X.base k x ps sp) (hr:Room k X.A) (ha:PA' X (e :: es) t) (hg:Gl X x:=by rfl) (hdb:yyD x:=by decide) :
  PO' X (.Call (.Name x p) (e :: es) [] pos) (zce sp t):=by
 obtain ⟨f,fd,F,b,kp,m,_⟩:=h.ex; exact zpU F hr m kp b ha hg hdb
end
section
variable {pos:Pos}
def zkW:RS':=fun x lo hi Q=>zjH x lo hi Q\/zjI x lo hi Q
def zwi:Sli X zkW:=zuC.or zrQ
end
@[simp] theorem ex2 {α β:Type} {x:α} {y:β} {P:α->β->Prop}:(∃ a b,(x=a/\y=b)/\P a b)↔P x y:=⟨fun ⟨_,_,⟨e1,e2⟩,h⟩=>e1 ▸ e2 ▸ h,fun h=>⟨x,y,⟨rfl,rfl⟩,h⟩⟩
@[simp] theorem ex3 {α β γ:Type} {x:α} {y:β} {z:γ} {P:α->β->γ->Prop}:(∃ a b c,(x=a/\y=b/\z=c)/\P a b c)↔P x y z:=⟨fun ⟨_,_,_,⟨e1,e2,e3⟩,h⟩=>e1 ▸ e2 ▸ e3 ▸ h,fun h=>⟨x,y,z,⟨rfl,rfl,rfl⟩,h⟩⟩
@[simp] theorem zuo (d:D):(Res.val d).toD=d:=rfl
@[simp] theorem zup (o:OD):(Res.own o).toD=o.toD:=rfl
@[simp] theorem zvF (d:D->D) (o:OD):(Res.bk d o).toD=d o.toD:=rfl
@[simp] theorem zvT (l:List D):(OD.lst l).toD=.lst l:=rfl
@[simp] theorem zvV (l:List (D × D)):(OD.dic l).toD=.dic l:=rfl
@[simp] theorem zvU (l:List (D × D)):(OD.dit l).toD=.dit l:=rfl
@[simp] theorem zrK (N:List Str) (ds:List D):zaN N ds=ds.map .val ++ List.replicate (N.length-ds.length) .emp:=rfl
@[simp] theorem zui (d:D):voS (.val d)=.val d:=rfl
@[simp] theorem zuk:voS .emp=.emp:=rfl
@[simp] theorem zuj (o:OD):voS (.own o)=.emp:=rfl
@[simp] theorem zvE:vo []=[]:=rfl
@[simp] theorem zuh (s:Slot) (Γ:Sts):vo (s :: Γ)=voS s :: vo Γ:=rfl
@[simp] theorem ztH (ds:List D):zq7 (.lst ds)=some ds:=rfl
@[simp] theorem ztE (ds:List D):zq7 (.tup ds)=some ds:=rfl
@[simp] theorem ztF (l:List Nat):zq7 (.str l)=some (l.map fun c=>.str [c]):=rfl
@[simp] theorem zvy (Γ:Sts):zmC [] Γ=[]:=rfl
@[simp] theorem zub (src:List (Option Nat)) (Γ:Sts):zmC (none :: src) Γ=.emp :: zmC src Γ:=rfl
@[simp] theorem zua (i:Nat) (src:List (Option Nat)) (Γ:Sts):zmC (some i :: src) Γ=(match Γ[i]? with | some (.val d)=>.val d | _=>.emp) :: zmC src Γ:=rfl
@[simp] theorem ztm (g:TG') (tc:TT') (te:TE') (Q:List D->Prop) (acc:List D) (Γ:Sts):zcK g tc te Q [] acc Γ↔Q acc:=Iff.rfl
@[simp] theorem zt7 (g:TG') (tb:TS') (N:Ends') (Γ:Sts):zgn g tb N [] Γ↔N.nx Γ:=Iff.rfl
section
variable {Q:D->Prop}
@[simp] theorem zvP (g:Int->Int->D) (i j:Int):zpE g (.int i) (.int j) Q↔Q (g i j):=by simp [zpE]
@[simp] theorem zwp (C:Int->Int->Prop) (g:Int->Int->D) (i j:Int):rI' C g (.int i) (.int j) Q↔C i j/\Q (g i j):=by simp [rI']
@[simp] theorem zt0 (i j:Int):zfV (.int i) (.int j) Q↔Q (.int (i+j)):=by simp [zfV,zhM]
@[simp] theorem ztZ (l m:List Nat):zfV (.str l) (.str m) Q↔l.length+m.length<=sizeLine/\Q (.str (l ++ m)):=by simp [zfV,zhM]
@[simp] theorem zvm (i j:Int):eqS (.int i) (.int j)=some (decide (i=j)):=rfl
@[simp] theorem zvk (i j:List Nat):eqS (.str i) (.str j)=some (decide (i=j)):=rfl
@[simp] theorem zvX (i j:Bool):eqS (.bl i) (.bl j)=some (decide (i=j)):=rfl
@[simp] theorem zvl:eqS .non .non=some true:=rfl
@[simp] theorem zqN (i:List Nat):eqS .non (.str i)=some false:=rfl
@[simp] theorem zqO (i:Int):eqS .non (.int i)=some false:=rfl
@[simp] theorem zqM (i:List Nat):eqS (.str i) .non=some false:=rfl
@[simp] theorem zqP (i:Int):eqS (.int i) .non=some false:=rfl
@[simp] theorem zuO (c:Nat) (l:List Nat):zm5 false (.str [c]) (.str l) Q↔Q (.bl (decide (c ∈ l))):=by simp [zm5]
@[simp] theorem zuN (ds:List D) (i:Int):zms (.lst ds) (.int i) Q↔∃ d,atI ds i=some d/\Q d:=by simp [zms]
@[simp] theorem zuL (ds:List D) (i:Int):zms (.tup ds) (.int i) Q↔∃ d,atI ds i=some d/\Q d:=by simp [zms]
@[simp] theorem zuM (l:List Nat) (i:Int):zms (.str l) (.int i) Q↔l.length<=sizeLine/\∃ c,atI l i=some c/\Q (.str [c]):=by simp [zms]
@[simp] theorem zvL (l:List Nat) (n:Int):zkW (.str l) none (some n) Q↔l.length<=sizeLine/\0<=n/\Q (.str (l.take n.toNat)):=by simp [zkW,zjH,zjI]
@[simp] theorem ztL (l:List Nat) (n:Int):zkW (.str l) (some n) none Q↔l.length<=sizeLine/\0<=n/\Q (.str (l.drop n.toNat)):=by simp [zkW,zjH,zjI]
@[simp] theorem zuH (ds:List D) (lo hi:Option Int):zkW (.lst ds) lo hi Q↔Q (.lst (zdR ds lo hi)):=by simp [zkW,zjH,zjI]
@[simp] theorem ztR (l:List Nat):ze9 [.str l] Q↔l.length<=sizeLine/\Q (.int (l.length:Nat)):=by simp [ze9]
@[simp] theorem ztS (l:List D):ze9 [.lst l] Q↔Q (.int (l.length:Nat)):=by simp [ze9]
@[simp] theorem ztQ (l:List D):ze9 [.tup l] Q↔Q (.int (l.length:Nat)):=by simp [ze9]
@[simp] theorem zuK (i j:Int):zpD [.int i,.int j] Q↔Q (.int (if j<i then j else i)):=by simp [zpD]
@[simp] theorem zpB (i:Int):zpC [.int i] Q↔i.natAbs.log2<1920/\Q (.str (zmv i)):=by simp [zpC]
@[simp] theorem ztK (ds:List D):ziG [.lst ds] Q↔Q (.tup ds):=by simp [ziG]
@[simp] theorem zq9 (l y:List Nat):zhH (.str l) [.str y] Q↔l.length<=sizeLine/\Q (.str (Txt.rstripChars (st l) (st y)).cps.toList):=by simp [zhH]
@[simp] theorem zul (l:List Nat):tyD "str" (.str l)↔True:=by simp [tyD]
end
@[simp] theorem zkk (K:W.Frag):W.kitOne K (.type "NoneType") (.type "str")=some false:=by rfl
@[simp] theorem zoR (K:W.Frag):W.kitOne K (.type "bool") (.type "str")=some false:=by rfl
@[simp] theorem zqw (K:W.Frag):W.kitOne K (.type "int") (.type "str")=some false:=by rfl
@[simp] theorem zqu (K:W.Frag):W.kitOne K (.type "str") (.type "str")=some true:=by rfl
@[simp] theorem zoK (K:W.Frag):W.kitOne K (.type "list") (.type "str")=some false:=by rfl
@[simp] theorem znN (K:W.Frag):W.kitOne K (.type "tuple") (.type "str")=some false:=by rfl
@[simp] theorem zoP (K:W.Frag):W.kitOne K (.type "dict") (.type "str")=some false:=by rfl
@[simp] theorem zjZ (K:W.Frag):W.kitOne K (.type "NoneType") (.type "bool")=some false:=by rfl
@[simp] theorem zn0 (K:W.Frag):W.kitOne K (.type "bool") (.type "bool")=some true:=by rfl
@[simp] theorem zoO (K:W.Frag):W.kitOne K (.type "int") (.type "bool")=some false:=by rfl
@[simp] theorem zoJ (K:W.Frag):W.kitOne K (.type "str") (.type "bool")=some false:=by rfl
@[simp] theorem znT (K:W.Frag):W.kitOne K (.type "list") (.type "bool")=some false:=by rfl
@[simp] theorem zmy (K:W.Frag):W.kitOne K (.type "tuple") (.type "bool")=some false:=by rfl
@[simp] theorem znX (K:W.Frag):W.kitOne K (.type "dict") (.type "bool")=some false:=by rfl
@[simp] theorem zkl (K:W.Frag):W.kitOne K (.type "NoneType") (.type "int")=some false:=by rfl
@[simp] theorem zoS (K:W.Frag):W.kitOne K (.type "bool") (.type "int")=some true:=by rfl
@[simp] theorem zqx (K:W.Frag):W.kitOne K (.type "int") (.type "int")=some true:=by rfl
@[simp] theorem zqv (K:W.Frag):W.kitOne K (.type "str") (.type "int")=some false:=by rfl
@[simp] theorem zoL (K:W.Frag):W.kitOne K (.type "list") (.type "int")=some false:=by rfl
@[simp] theorem znO (K:W.Frag):W.kitOne K (.type "tuple") (.type "int")=some false:=by rfl
@[simp] theorem zoQ (K:W.Frag):W.kitOne K (.type "dict") (.type "int")=some false:=by rfl
@[simp] theorem zjX (K:W.Frag):W.kitOne K (.type "NoneType") (.type "list")=some false:=by rfl
@[simp] theorem znY (K:W.Frag):W.kitOne K (.type "bool") (.type "list")=some false:=by rfl
@[simp] theorem zoM (K:W.Frag):W.kitOne K (.type "int") (.type "list")=some false:=by rfl
@[simp] theorem zoH (K:W.Frag):W.kitOne K (.type "str") (.type "list")=some false:=by rfl
@[simp] theorem znR (K:W.Frag):W.kitOne K (.type "list") (.type "list")=some true:=by rfl
@[simp] theorem zmw (K:W.Frag):W.kitOne K (.type "tuple") (.type "list")=some false:=by rfl
@[simp] theorem znV (K:W.Frag):W.kitOne K (.type "dict") (.type "list")=some false:=by rfl
@[simp] theorem zi2 (K:W.Frag):W.kitOne K (.type "NoneType") (.type "tuple")=some false:=by rfl
@[simp] theorem zmB (K:W.Frag):W.kitOne K (.type "bool") (.type "tuple")=some false:=by rfl
@[simp] theorem znU (K:W.Frag):W.kitOne K (.type "int") (.type "tuple")=some false:=by rfl
@[simp] theorem znP (K:W.Frag):W.kitOne K (.type "str") (.type "tuple")=some false:=by rfl
@[simp] theorem zmz (K:W.Frag):W.kitOne K (.type "list") (.type "tuple")=some false:=by rfl
@[simp] theorem zlF (K:W.Frag):W.kitOne K (.type "tuple") (.type "tuple")=some true:=by rfl
@[simp] theorem zmA (K:W.Frag):W.kitOne K (.type "dict") (.type "tuple")=some false:=by rfl
@[simp] theorem zjY (K:W.Frag):W.kitOne K (.type "NoneType") (.type "dict")=some false:=by rfl
@[simp] theorem znZ (K:W.Frag):W.kitOne K (.type "bool") (.type "dict")=some false:=by rfl
@[simp] theorem zoN (K:W.Frag):W.kitOne K (.type "int") (.type "dict")=some false:=by rfl
@[simp] theorem zoI (K:W.Frag):W.kitOne K (.type "str") (.type "dict")=some false:=by rfl
@[simp] theorem znS (K:W.Frag):W.kitOne K (.type "list") (.type "dict")=some false:=by rfl
@[simp] theorem zmx (K:W.Frag):W.kitOne K (.type "tuple") (.type "dict")=some false:=by rfl
@[simp] theorem znW (K:W.Frag):W.kitOne K (.type "dict") (.type "dict")=some true:=by rfl
section
variable {Q:D->Prop}
end
class ME (t:TE'):Prop where
 mono:∀ Γ Q Q',(∀ d Γ',Q d Γ'->Q' d Γ')->t Γ Q->t Γ Q'
class MT (t:TT'):Prop where
 mono:∀ Γ Q Q',(∀ d Γ',Q d Γ'->Q' d Γ')->t Γ Q->t Γ Q'
class MA (t:TA'):Prop where
 mono:∀ Γ Q Q',(∀ d Γ',Q d Γ'->Q' d Γ')->t Γ Q->t Γ Q'
class MO (t:TO'):Prop where
 mono:∀ Γ Q Q',(∀ d Γ',Q d Γ'->Q' d Γ')->t Γ Q->t Γ Q'
class MP (t:TP'):Prop where
 mono:∀ Γ Q Q',(∀ d Γ',Q d Γ'->Q' d Γ')->t Γ Q->t Γ Q'
class MI (t:TI'):Prop where
 mono:∀ Γ Q Q',(∀ d Γ',Q d Γ'->Q' d Γ')->t Γ Q->t Γ Q'
class MG (g:TG'):Prop where
 mono:∀ d Γ Q Q',(∀ Γ',Q Γ'->Q' Γ')->g d Γ Q->g d Γ Q'
class MR2 (r:R2'):Prop where
 mono:∀ x y Q Q',(∀ d,Q d->Q' d)->r x y Q->r x y Q'
class MRC (r:RC'):Prop where
 mono:∀ x Q Q',(∀ d,Q d->Q' d)->r x Q->r x Q'
class MRS (r:RS'):Prop where
 mono:∀ x y z Q Q',(∀ d,Q d->Q' d)->r x y z Q->r x y z Q'
class MSp (sp:Sp'):Prop where
 mono:∀ x Q Q',(∀ d,Q d->Q' d)->sp x Q->sp x Q'
structure Ends'.le (N N':Ends'):Prop where
 nx:∀ Γ,N.nx Γ->N'.nx Γ
 rt:∀ r Γ,N.rt r Γ->N'.rt r Γ
 bk:∀ Γ,N.bk Γ->N'.bk Γ
 ct:∀ Γ,N.ct Γ->N'.ct Γ
class MS (t:TS'):Prop where
 mono:∀ N N' Γ,N.le N'->t N Γ->t N' Γ
instance {i:Nat}:ME (zC i):=⟨fun _ _ _ h ⟨d,e,q⟩=>⟨d,e,h _ _ q⟩⟩
instance {d:D}:ME (tC' d):=⟨fun _ _ _ h q=>h _ _ q⟩
instance {t:TO'} [MO t]:ME (zbr t):=⟨fun Γ _ _ h q=>MO.mono (t:=t) Γ _ _ (fun _ _ z=>h _ _ z) q⟩
instance {r:R2'} {a b:TE'} [MR2 r] [ME a] [ME b]:ME (zax r a b):=⟨fun Γ _ _ h q=>ME.mono (t:=a) Γ _ _ (fun _ _ z=>ME.mono (t:=b) _ _ _ (fun _ _ z=>MR2.mono (r:=r) _ _ _ _ (fun _ z=>h _ _ z) z) z) q⟩
instance {t:TE'} [ME t]:MT (tB' t):=⟨fun Γ _ _ h q=>ME.mono (t:=t) Γ _ _ (fun _ _ ⟨b,e,z⟩=>⟨b,e,h _ _ z⟩) q⟩
instance {t u:TT'} [MT t] [MT u]:MT (zdh t u):=⟨fun Γ _ _ h q=>MT.mono (t:=t) Γ _ _ (fun b _ z=>by
 cases b with
 | true=>exact MT.mono (t:=u) _ _ _ h z
 | false=>exact h _ _ z) q⟩
instance {t u:TT'} [MT t] [MT u]:MT (zkg t u):=⟨fun Γ _ _ h q=>MT.mono (t:=t) Γ _ _ (fun b _ z=>by
 cases b with
 | false=>exact MT.mono (t:=u) _ _ _ h z
 | true=>exact h _ _ z) q⟩
instance {t:TT'} [MT t]:MT (zde t):=⟨fun Γ _ _ h q=>MT.mono (t:=t) Γ _ _ (fun b _ z=>h _ _ z) q⟩
instance:MT zis:=⟨fun _ _ _ h q=>h _ _ q⟩
instance {t:TT'} {a b:TE'} [MT t] [ME a] [ME b]:ME (zps t a b):=⟨fun Γ _ _ h q=>MT.mono (t:=t) Γ _ _ (fun k _ z=>by
 cases k with
 | true=>exact ME.mono (t:=a) _ _ _ h z
 | false=>exact ME.mono (t:=b) _ _ _ h z) q⟩
instance:MA zQ:=⟨fun _ _ _ h q=>h _ _ q⟩
instance {a:TE'} {r:TA'} [ME a] [MA r]:MA (zv a r):=⟨fun Γ _ _ h q=>ME.mono (t:=a) Γ _ _ (fun _ _ z=>MA.mono (t:=r) _ _ _ (fun _ _ z=>h _ _ z) z) q⟩
instance {t:TA'} [MA t]:ME (zau t):=⟨fun Γ _ _ h q=>MA.mono (t:=t) Γ _ _ (fun _ _ ⟨a,z⟩=>⟨a,h _ _ z⟩) q⟩
instance {r:RC'} {t:TA'} [MRC r] [MA t]:ME (zbB r t):=⟨fun Γ _ _ h q=>MA.mono (t:=t) Γ _ _ (fun _ _ z=>MRC.mono (r:=r) _ _ _ (fun _ z=>h _ _ z) z) q⟩
instance:MP zba:=⟨fun _ _ _ h q=>h _ _ q⟩
instance {t:TE'} [ME t]:MP (zdY t):=⟨fun Γ _ _ h q=>ME.mono (t:=t) Γ _ _ (fun _ _ ⟨i,e,z⟩=>⟨i,e,h _ _ z⟩) q⟩
instance {r:RS'} {e:TE'} {l u:TP'} [MRS r] [ME e] [MP l] [MP u]:ME (zdW r e l u):=⟨fun Γ _ _ h q=>ME.mono (t:=e) Γ _ _ (fun _ _ z=>MP.mono (t:=l) _ _ _ (fun _ _ z=>MP.mono (t:=u) _ _ _ (fun _ _ z=>MRS.mono (r:=r) _ _ _ _ _ (fun _ z=>h _ _ z) z) z) z) q⟩
instance {sp:Sp'} {t:TA'} [MSp sp] [MA t]:ME (zJ sp t):=⟨fun Γ _ _ h q=>MA.mono (t:=t) Γ _ _ (fun _ _ z=>MSp.mono (sp:=sp) _ _ _ (fun _ z=>h _ _ z) z) q⟩
instance {t:TE'} [ME t]:MI (zbz t):=⟨fun Γ _ _ h q=>ME.mono (t:=t) Γ _ _ (fun _ _ ⟨i,e,z⟩=>⟨i,e,h _ _ z⟩) q⟩
instance {i:Nat}:MG (zt i):=⟨fun _ _ _ _ h q=>h _ q⟩
theorem zdS {g:TG'} {tc:TT'} {te:TE'} [MG g] [MT tc] [ME te] {Q Q':List D->Prop} (h:∀ l,Q l->Q' l):∀ (ds acc:List D) (Γ:Sts),zcK g tc te Q ds acc Γ->zcK g tc te Q' ds acc Γ
 | [],acc,Γ,q=>h acc q
 | d :: ds,acc,Γ,q=>MG.mono (g:=g) _ _ _ _ (fun Γ2 z=>MT.mono (t:=tc) _ _ _ (fun b Γ3 z=>by
  cases b with
  | true=>exact ME.mono (t:=te) _ _ _ (fun y Γ4 z=>zdS h ds _ _ z) z
  | false=>exact zdS h ds _ _ z) z) q
instance {ti:TI'} {src:List (Option Nat)} {g:TG'} {tc:TT'} {te:TE'} [MI ti] [MG g] [MT tc] [ME te]:MO (zaW ti src g tc te):=⟨fun Γ _ _ h q=>MI.mono (t:=ti) Γ _ _ (fun ds Γ1 ⟨a,z⟩=>⟨a,zdS (fun l=>h _ _) _ _ _ z⟩) q⟩
def Ends'.le.nxt {N N':Ends'} (h:N.le N') {P P':Sts->Prop} (hp:∀ Γ,P Γ->P' Γ):Ends'.le { N with nx:=P } { N' with nx:=P' }:=⟨hp,h.rt,h.bk,h.ct⟩
instance:MS zO:=⟨fun _ _ _ h q=>h.nx _ q⟩
instance {t u:TS'} [MS t] [MS u]:MS (zag t u):=⟨fun N N' Γ h q=>MS.mono (t:=t) _ _ _ (h.nxt fun Γ' z=>MS.mono (t:=u) N N' Γ' h z) q⟩
instance {t:TE'} [ME t]:MS (zP t):=⟨fun N N' Γ h q=>ME.mono (t:=t) _ _ _ (fun _ _ z=>h.rt _ _ z) q⟩
instance {c:TT'} {t u:TS'} [MT c] [MS t] [MS u]:MS (zaz c t u):=⟨fun N N' Γ h q=>MT.mono (t:=c) _ _ _ (fun b Γ1 z=>by
 cases b with
 | true=>exact MS.mono (t:=t) N N' Γ1 h z
 | false=>exact MS.mono (t:=u) N N' Γ1 h z) q⟩
instance {t:TE'} [ME t]:MS (zdf t):=⟨fun N N' Γ h q=>ME.mono (t:=t) _ _ _ (fun _ _ z=>h.nx _ z) q⟩
instance {t:TE'} {g:TG'} [ME t] [MG g]:MS (zal t g):=⟨fun N N' Γ h q=>ME.mono (t:=t) _ _ _ (fun _ _ z=>MG.mono (g:=g) _ _ _ _ (fun _ z=>h.nx _ z) z) q⟩
instance {t:TO'} {i:Nat} [MO t]:MS (zaM t i):=⟨fun N N' Γ h q=>MO.mono (t:=t) _ _ _ (fun _ _ z=>h.nx _ z) q⟩
theorem zic {g:TG'} {tb:TS'} [MG g] [MS tb] {N:Ends'} (I:List D->Sts->Prop) (h0:∀ Γ,I [] Γ->N.nx Γ) (hs:∀ d ds Γ,I (d :: ds) Γ->g d Γ fun Γ2=>tb { N with nx:=I ds,ct:=I ds,bk:=N.nx } Γ2) :
  ∀ (ds:List D) (Γ:Sts),I ds Γ->zgn g tb N ds Γ
 | [],Γ,h=>h0 Γ h
 | d :: ds,Γ,h=>MG.mono (g:=g) _ _ _ _ (fun Γ2 z=>MS.mono (t:=tb) { N with nx:=I ds,ct:=I ds,bk:=N.nx } { N with nx:=zgn g tb N ds,ct:=zgn g tb N ds,bk:=N.nx } _ ⟨fun Γ3 z=>zic I h0 hs ds Γ3 z,fun _ _ z=>z,fun _ z=>z,fun Γ3 z=>zic I h0 hs ds Γ3 z⟩ z) (hs d ds Γ h)
def zeZ {g:TG'} {tb:TS'} [MG g] [MS tb] {N:Ends'} {ds:List D} {Γ:Sts} (I:Nat->Sts->Prop) (h:I 0 Γ) (hs:∀ (i:Nat) d Γ,ds[i]?=some d->I i Γ->g d Γ fun Γ2=>tb { N with nx:=I (i+1),ct:=I (i+1),bk:=N.nx } Γ2) (h0:∀ Γ,I ds.length Γ->N.nx Γ):zgn g tb N ds Γ:=by
 refine zic (fun es Γ=>∃ i,es=ds.drop i/\i<=ds.length/\I i Γ) ?_ ?_ ds Γ ⟨0,rfl,YB _,h⟩
 ·rintro Γ ⟨i,e,hi,q⟩
  have:i=ds.length:=by
   have:=yi List.length e
   rw [Yj] at this
   simp at this
   omega
  subst this; exact h0 Γ q
 ·rintro d es Γ ⟨i,e,hi,q⟩
  have hlt:i<ds.length:=by
   have:=yi List.length e
   rw [Yj] at this
   simp at this
   omega
  rw [YN hlt] at e
  injection e with e1 e2
  subst e1
  have go:∀ Γ',I (i+1) Γ'->∃ j,es=ds.drop j/\j<=ds.length/\I j Γ':=fun Γ' z=>⟨i+1,e2,hlt,z⟩
  exact MG.mono (g:=g) _ _ _ _ (fun Γ2 z=>MS.mono (t:=tb) { N with nx:=I (i+1),ct:=I (i+1),bk:=N.nx } _ _ ⟨go,fun _ _ z=>z,fun _ z=>z,go⟩ z) (hs i _ Γ (yC hlt) q)
def zks {c:TT'} {tb:TS'} [MT c] [MS tb] {N:Ends'} {Γ:Sts} (I:Sts->Prop) (μ:Sts->Nat) (h:I Γ) (hs:∀ Γ,I Γ->c Γ fun b Γ1=>if b=true then tb { N with nx:=fun Γ2=>I Γ2/\μ Γ2<μ Γ,ct:=fun Γ2=>I Γ2/\μ Γ2<μ Γ,bk:=N.nx } Γ1 else N.nx Γ1):zkC c tb N Γ:=by
 refine ⟨fun m Γ=>m=μ Γ/\I Γ,⟨_,rfl,h⟩,?_⟩
 rintro m Γ ⟨rfl,p⟩
 refine MT.mono (t:=c) _ _ _ (fun b Γ1 z=>?_) (hs Γ p)
 cases b with
 | true=>exact MS.mono (t:=tb) { N with nx:=fun Γ2=>I Γ2/\μ Γ2<μ Γ,ct:=fun Γ2=>I Γ2/\μ Γ2<μ Γ,bk:=N.nx } _ _ ⟨fun Γ2 ⟨a,b⟩=>⟨_,b,rfl,a⟩,fun _ _ z=>z,fun _ z=>z,fun Γ2 ⟨a,b⟩=>⟨_,b,rfl,a⟩⟩ z
 | false=>exact z
def zdb {g:TG'} {tc:TT'} {te:TE'} [MG g] [MT tc] [ME te] {Q:List D->Prop} {ds:List D} {Γ:Sts} (I:Nat->List D->Sts->Prop) (h:I 0 [] Γ)
  (hs:∀ (i:Nat) d acc Γ,ds[i]?=some d->I i acc Γ->g d Γ fun Γ2=>tc Γ2 fun b Γ3=>if b=true then te Γ3 fun y Γ4=>I (i+1) (acc ++ [y]) (vo Γ4) else I (i+1) acc (vo Γ3)) (h0:∀ acc Γ,I ds.length acc Γ->Q acc):zcK g tc te Q ds [] Γ:=by
 have key:∀ (n i:Nat) (acc:List D) (Γ:Sts),n=ds.length-i->i<=ds.length->I i acc Γ->zcK g tc te Q (ds.drop i) acc Γ:=by
  intro n
  induction n with
  | zero =>
   intro i acc Γ hn hi q
   have:i=ds.length:=by omega
   subst this; rw [YZ (yD _)]; exact h0 acc Γ q
  | succ n ih =>
   intro i acc Γ hn hi q
   have hlt:i<ds.length:=by omega
   rw [YN hlt]
   refine MG.mono (g:=g) _ _ _ _ (fun Γ2 z=>MT.mono (t:=tc) _ _ _ (fun b Γ3 z=>?_) z) (hs i _ acc Γ (yC hlt) q)
   cases b with
   | true=>exact ME.mono (t:=te) _ _ _ (fun y Γ4 z=>ih (i+1) _ _ (by omega) hlt z) z
   | false=>exact ih (i+1) _ _ (by omega) hlt z
 exact key _ 0 [] Γ rfl (YB _) h
instance {g:Int->Int->D}:MR2 (zpE g):=⟨fun _ _ _ _ h ⟨i,j,a,b,q⟩=>⟨i,j,a,b,h _ q⟩⟩
instance {C:Int->Int->Prop} {g:Int->Int->D}:MR2 (rI' C g):=⟨fun _ _ _ _ h ⟨i,j,a,b,c,q⟩=>⟨i,j,a,b,c,h _ q⟩⟩
instance:MR2 zhM:=⟨fun _ _ _ _ h ⟨i,j,a,b,c,q⟩=>⟨i,j,a,b,c,h _ q⟩⟩
instance:MR2 zfV:=⟨fun _ _ _ _ h q=>by
 rcases q with ⟨i,j,a,b,q⟩ | q
 ·exact .inl ⟨i,j,a,b,h _ q⟩
 ·exact .inr (MR2.mono (r:=zhM) _ _ _ _ h q)⟩
instance {neg:Bool}:MR2 (zm5 neg):=⟨fun _ _ _ _ h ⟨c,l,a,b,q⟩=>⟨c,l,a,b,h _ q⟩⟩
instance {neg:Bool}:MR2 (zm6 neg):=⟨fun _ _ _ _ h ⟨i,c,l,a,b,q⟩=>⟨i,c,l,a,b,h _ q⟩⟩
instance:MR2 zfR:=⟨fun _ _ _ _ h q=>by
 rcases q with q | q
 ·exact .inl (MR2.mono (r:=zm5 true) _ _ _ _ h q)
 ·exact .inr (MR2.mono (r:=zm6 true) _ _ _ _ h q)⟩
instance:MR2 zms:=⟨fun _ _ _ _ h ⟨i,e,q⟩=>⟨i,e,by
 rcases q with ⟨ds,d,a,b,q⟩ | ⟨ds,d,a,b,q⟩ | ⟨l,c,a,b,e,q⟩
 ·exact .inl ⟨ds,d,a,b,h _ q⟩
 ·exact .inr (.inl ⟨ds,d,a,b,h _ q⟩)
 ·exact .inr (.inr ⟨l,c,a,b,e,h _ q⟩)⟩⟩
instance:MRS zkW:=⟨fun _ _ _ _ _ h q=>by
 rcases q with ⟨l,a,b,q⟩ | ⟨l,a,q⟩
 ·refine .inl ⟨l,a,b,?_⟩
  rcases q with ⟨c,n,d,e,q⟩ | ⟨c,n,d,e,q⟩
  ·exact .inl ⟨c,n,d,e,h _ q⟩
  ·exact .inr ⟨c,n,d,e,h _ q⟩
 ·exact .inr ⟨l,a,h _ q⟩⟩
instance:MRC ze9:=⟨fun _ _ _ h ⟨d,e,q⟩=>⟨d,e,by
 rcases q with ⟨l,a,b,q⟩ | ⟨l,a,q⟩ | ⟨l,a,q⟩
 ·exact .inl ⟨l,a,b,h _ q⟩
 ·exact .inr (.inl ⟨l,a,h _ q⟩)
 ·exact .inr (.inr ⟨l,a,h _ q⟩)⟩⟩
instance:MRC ziG:=⟨fun _ _ _ h ⟨i,j,a,b,q⟩=>⟨i,j,a,b,h _ q⟩⟩
def zjB:Sp':=fun ds Q=>∃ ns:List Int,ds=[.lst (ns.map .int)]/\ns.length<=63/\Q (.val (.bl true))
theorem zji {K:W.Frag} {H:Hp}:∀ ns:List Int,zaU K H (ns.map V.int) (ns.map D.int)
 | []=>.nil
 | n :: ns=>.cons (.int n) (zji ns)
def zsS {P:Program} {w:World} {K:W.Frag} {mg:Str->Option Value} {k:Nat} {fa:Addr} {oc:Value} {od:Option Addr} {fd:FuncData} {sl:Array (Option Value)} {ps:List Str}
  (hfa:mg "law"=some (.ref fa)) (lk:K.lookup fa=some ⟨oc,od,.func fd,sl⟩) (base:Heap) (G:Fn P w K mg base k "law" ps zjB):FnOk P w K mg base CX0 k fa fd ps (ziB K zjB):=by
 obtain ⟨f,fd',F,_,_,m,oc',od',sl',lk'⟩:=G.ex; rw [hfa] at m; cases m; rw [lk] at lk'; cases lk'; exact F
end PL
namespace L2
open PySem PySem.Spec PyProof.Rows
section
def zqi:OpR X (binaryOp .Add) (fun x y H Q=>∃ a b xs ys,x=.ref a/\y=.ref b/\SqT X.K H a xs/\SqT X.K H b ys/\xs.length+ys.length<=sizeLine/\(xs=[]->Q (.ref b) H)/\(xs≠[]->ys=[]->Q (.ref a) H) /\
  (xs≠[]->ys≠[]->∀ p,H p=none->Q (.ref p) (upd H p (.tup (xs ++ ys))))):=by
 intro pins s σ H x y v u Q I rx ry h; obtain ⟨a,b,xs,ys,rfl,rfl,ha,hb,hz,q0,q1,q2⟩:=h
 by_cases hx:xs=[]
 ·cases rx
  cases ry; obtain ⟨its,r1,p1,_⟩:=I.tuple ha; obtain ⟨its2,r2,p2,_⟩:=I.tuple hb
  obtain ⟨⟨cls,dd,data,sl⟩,ho,hc,n,hd⟩:=id p1
  obtain ⟨⟨cls2,dd2,data2,sl2⟩,ho2,hc2,n2,hd2⟩:=id p2
  simp only at hc hd hc2 hd2
  subst hc hd hc2 hd2
  have hi:its=[]:=r1.nil_iff.mpr hx
  refine concat_meets ⟨_,ho,rfl⟩ ⟨_,ho2,rfl⟩ noFill_tuple_add seq_tuple_add PySem.F.slot_tuple_add PySem.F.entry_tuple_add (PySem.F.args_tuple_add_2 _ _)
   (tuple_addW0 a b its.toArray its2.toArray n n2 dd dd2 sl sl2 (by simp [hi])) ⟨ho,ho2,?_⟩
  exact ⟨.ref b,H,I,rfl,q0 hx⟩
 ·exact zqg pins s σ H _ _ v u Q I rx ry ⟨a,b,xs,ys,rfl,rfl,ha,hb,hx,hz,q1 hx,q2 hx⟩
end
end L2
namespace HT
open PySem PyProof.Rows
section
def getItem_tuple_whole {t sl:Addr} {items:Array Value} {vl vu:Value} {lo hi:Option Int} {Q:Value->Shared->Prop} (ht:IsTup s.heap t items) (hs:s.heap.IsSliceOf sl vl vu .none) (pl:IsPart vl lo) (pu:IsPart vu hi)
  (hw:sIx items.size 0 lo=0/\sIx items.size items.size hi=items.size) (h:Q (.ref t) s):wpAny (model prog w) A (getItem (.ref t) (.ref sl)) Q E s:=by
 obtain ⟨os,hos,hcs,hds⟩:=id hs
 have hTs:s.TypeIs (.ref sl) "slice":=⟨os,hos,hcs⟩
 unfold getItem
 try with_reducible refine YW ?_
 first | refine yA (yF ?_) | skip
 refine yA (wpAny_sequenceKey ht.typeIs (by decide) ?_)
 refine yA (wpAny_callSpecial?_slot (name:=Str.ofString "__getitem__") ht.typeIs Yr
  (YU Yr ht.typeIs entry_tuple_getitem ?_ (args_tuple_getitem _ _)))
 show wpAny _ _ (Builtin.Tuple.tupleItemsOf (.ref t) >>= _) _ _ s
 refine yA (tupleItemsOf_ ht ?_); refine yA (wpAny_typeOf hTs ?_)
 rw [yM (by decide)]
 refine yA (zb8 hs pl pu ?_)
 have hyes:((((sIx items.size 0 lo:Nat):Int) == 0 && (1:Int) == 1 && (sIx items.size items.size hi-sIx items.size 0 lo) == items.size)=true):=by
  rw [hw.1,hw.2]; simp
 show wpAny _ _ (if (((sIx items.size 0 lo:Nat):Int) == 0 && (1:Int) == 1 && (sIx items.size items.size hi-sIx items.size 0 lo) == items.size)=true then _ else _) _ _ s
 rw [yM hyes]; refine yA (m:=Builtin.Tuple.tupleIsExact (.ref t)) ?_; unfold Builtin.Tuple.tupleIsExact; refine yA (wpAny_typeOf ht.typeIs ?_); refine yF ?_
 rw [yM (by decide)]
 exact yA (wpAny_rule (yF ⟨_,rfl,yF h⟩))
end
end HT
namespace L2
open PySem PySem.Spec PyProof.Rows
section
def zpw:SlR X (fun x lo hi H Q=>∃ a xs,x=.ref a/\SqT X.K H a xs/\((HT.sIx xs.length 0 lo=0/\HT.sIx xs.length xs.length hi=xs.length)->Q (.ref a) H) /\
  (¬ (HT.sIx xs.length 0 lo=0/\HT.sIx xs.length xs.length hi=xs.length)->∀ p,H p=none->Q (.ref p) (upd H p (.tup (zmb xs lo hi))))):=by
 intro pins s σ H x v vl vu lo hi sl Q I rx hs pl pu h; obtain ⟨a,xs,rfl,hx,q1,q2⟩:=h
 by_cases hw:HT.sIx xs.length 0 lo=0/\HT.sIx xs.length xs.length hi=xs.length
 ·cases rx
  obtain ⟨its,r,ht,hz⟩:=I.tuple hx
  have hlen:its.toArray.size=xs.length:=by rw [yQ]; exact r.length.symm
  refine ⟨"tuple",_,PyProof.Rows.slot_tuple_getitem.lookup,ht.typeIs,?_⟩
  exact HT.getItem_tuple_whole ht hs pl pu (by rw [hlen]; exact hw) ⟨.ref a,H,I,rfl,q1 hw⟩
 ·exact zrO pins s σ H _ v vl vu lo hi sl Q I rx hs pl pu ⟨a,xs,rfl,hx,hw,q2 hw⟩
end
end L2
namespace PL
open PySem L2
section
def zhL:R2':=fun x y Q=>∃ xs ys,x=.tup xs/\y=.tup ys/\xs.length+ys.length<=sizeLine/\Q (.tup (xs ++ ys))
def zsJ:Op2 X (binaryOp .Add) zhL:=⟨_,zqi,by
 rintro Hi H x y dx dy Q Q2 s d1 d2 ⟨xs,ys,rfl,rfl,hl,q⟩ fin
 obtain ⟨a,vs,rfl,h1,h2⟩:=d1.tupI; obtain ⟨b,us,rfl,h3,h4⟩:=d2.tupI
 refine ⟨a,b,vs,us,rfl,rfl,zR s.sub h1,zR s.sub h3,by rw [zj h2,zj h4]; exact hl,fun e=>?_,fun _ e=>?_,fun _ _ p hp=>?_⟩
 ·subst e
  cases h2; exact fin Hi H _ _ (Ext.refl s) d2 q
 ·subst e
  cases h4; rw [yb] at q; exact fin Hi H _ _ (Ext.refl s) d1 q
 ·have e:=Ext.new s hp (.tup (vs ++ us))
  exact fin _ _ _ _ e (Den.mkT zp (zat (h2.mono e.hi) (h4.mono e.hi))) q⟩
def zuB:Sli X zgB:=⟨_,zpw,by
 rintro Hi H x dx lo hi Q Q2 s d1 ⟨ds,rfl,q⟩ fin
 obtain ⟨a,vs,rfl,h1,h2⟩:=d1.tupI; have hl:=zj h2
 refine ⟨a,vs,rfl,zR s.sub h1,fun hw=>?_,fun _ p hp=>?_⟩
 ·have e:zdR ds lo hi=ds:=by
   unfold zdR; rw [<- hl,hw.1,hw.2,List.drop_zero,Nat.sub_zero,hl,List.take_length]
  rw [e] at q; exact fin Hi H _ _ (Ext.refl s) d1 q
 ·have e:=Ext.new s hp (.tup (zmb vs lo hi))
  exact fin _ _ _ _ e (Den.mkT zp (zma (h2.mono e.hi))) q⟩
def eqL (f:D->D->Option Bool):List D->List D->Option Bool
 | x :: xs,y :: ys=>match f x y,eqL f xs ys with
  | some a,some b=>some (a && b)
  | _,_=>none
 | [],[]=>some true
 | _,_=>some false
def eqD:Nat->D->D->Option Bool
 | n+1,.tup xs,.tup ys=>eqL (eqD n) xs ys
 | n+1,.lst xs,.lst ys=>if xs.length=ys.length then eqL (eqD n) xs ys else some false
 | _,x,y=>eqS x y
def zqQ {x y:V} {dx dy:D} {b:Bool} {Hi:Hp} (d1:Den K Hi x dx) (d2:Den K Hi y dy) (h:eqS dx dy=some b):ze0 x=true/\ze0 y=true/\eqV x y=b:=by
  have s1:=d1.scl (zds h); have s2:=d2.scl (zds (zlS _ _ h).choose_spec)
  cases s1 <;> rename_i e1 <;> subst e1 <;> cases s2 <;> rename_i e2 <;> subst e2 <;> first
    | (exact yN (show (none:Option Bool)=some b from h) (fun z=>nomatch z))
    | (refine ⟨rfl,rfl,?_⟩
       have h':=Option.some.inj h
       subst h'
       first
         | rfl
         | (show ((_:Int) == _)=decide _; rw [Bool.beq_eq_decide_eq])
         | (show ((_:Bool) == _)=decide _; rw [Bool.beq_eq_decide_eq])
         | (show ((_:Str) == _)=decide _
            rw [Bool.beq_eq_decide_eq]
            exact decide_eq_decide.mpr ⟨fun z=>st_inj z,fun z=>yi st z⟩))
def zei {x:V} {dx dy:D} {b:Bool} {Hi:Hp} (d1:Den K Hi x dx) (d2:Den K Hi x dy) (h:eqS dx dy=some b):b=true:=by
 obtain ⟨f1,f2,e⟩:=zqQ d1 d2 h; rw [<- e]
 cases x <;> first | rfl | (exact yN (show false=true from f1) yO) | (show ((_:_) == _)=true; exact beq_self_eq_true _)
theorem zdt {f:D->D->Option Bool} {Hi:Hp} (hf:∀ v x y b,Den K Hi v x->Den K Hi v y->f x y=some b->b=true):∀ {vs:List V} {xs ys:List D} {b:Bool},zaU K Hi vs xs->zaU K Hi vs ys->eqL f xs ys=some b->b=true
 | [],_,_,b,.nil,.nil,h=>(Option.some.inj h).symm
 | v :: vs,x :: xs,y :: ys,b,.cons r1 t1,.cons r2 t2,h=>by
  unfold eqL at h
  cases e1:f x y with
  | none=>rw [e1] at h; cases h
  | some a =>
   cases e2:eqL f xs ys with
   | none=>rw [e1,e2] at h; cases h
   | some c =>
    rw [e1,e2] at h; rw [<- Option.some.inj h,hf v x y a r1 r2 e1,zdt hf t1 t2 e2]; rfl
def zej (x y:D):eqD 0 x y=eqS x y:=by cases x <;> cases y <;> rfl
section
variable {Hi:Hp}
def zjd (I:L2.Inv X pins σ H s) (sub:zY Hi H):∀ (n:Nat) (v:V) (x y:D) (b:Bool),Den X.K Hi v x->Den X.K Hi v y->eqD n x y=some b->b=true:=by
 intro n
 induction n with
 | zero =>
  intro v x y b d1 d2 h; rw [zej] at h; exact zei d1 d2 h
 | succ n ih =>
  intro v x y b d1 d2 h
  cases x with
  | tup xs =>
   cases y with
   | tup ys =>
    obtain ⟨a,vs,rfl,h1,h2⟩:=d1.tupI; obtain ⟨a',us,e,h3,h4⟩:=d2.tupI; cases e; have e:=I.tuple_inj (zR sub h1) (zR sub h3); subst e; exact zdt ih h2 h4 h
   | _=>exact zei d1 d2 h
  | lst xs =>
   cases y with
   | lst ys =>
    obtain ⟨a,vs,rfl,h1,h2⟩:=d1.lstI; obtain ⟨a',us,e,h3,h4⟩:=d2.lstI; cases e; have e:=I.list_inj (zL sub h1) (zL sub h3); subst e
    have hl:xs.length=ys.length:=by rw [<- zj h2,<- zj h4]
    unfold eqD at h; rw [yM hl] at h; exact zdt ih h2 h4 h
   | _=>exact zei d1 d2 h
  | _=>exact zei d1 d2 h
theorem zcs {f:D->D->Option Bool}:∀ {xs ys:List D} {b:Bool},eqL f xs ys=some b->∃ e:Nat->Bool,(∀ (j:Nat) x y,xs[j]?=some x->ys[j]?=some y->f x y=some (e j))/\b=((List.range (min xs.length ys.length)).all e && xs.length == ys.length)
 | [],[],b,h=>⟨fun _=>true,fun j x y h1 _=>by simp at h1,by simpa [eqL] using h.symm⟩
 | [],y :: ys,b,h=>⟨fun _=>true,fun j x y h1 _=>by simp at h1,by simpa [eqL] using h.symm⟩
 | x :: xs,[],b,h=>⟨fun _=>true,fun j x y _ h2=>by simp at h2,by simpa [eqL] using h.symm⟩
 | x :: xs,y :: ys,b,h=>by
  unfold eqL at h
  cases e1:f x y with
  | none=>rw [e1] at h; cases h
  | some a =>
   cases e2:eqL f xs ys with
   | none=>rw [e1,e2] at h; cases h
   | some c =>
    rw [e1,e2] at h; obtain ⟨e,h1,h2⟩:=zcs e2
    refine ⟨fun j=>match j with | 0=>a | j+1=>e j,fun j x' y' hx hy=>?_,?_⟩
    ·cases j with
     | zero=>simp at hx hy; subst hx; subst hy; exact e1
     | succ j=>exact h1 j x' y' (by simpa using hx) (by simpa using hy)
    ·rw [<- Option.some.inj h,h2]
     have hm:min (x :: xs).length (y :: ys).length=min xs.length ys.length+1:=by simp [Nat.succ_min_succ]
     rw [hm,List.range_succ_eq_map,List.all_cons,List.all_map]
     show (a && ((List.range (min xs.length ys.length)).all e && xs.length == ys.length))=((a && (List.range (min xs.length ys.length)).all e) && (x :: xs).length == (y :: ys).length)
     rw [Bool.and_assoc]
     congr 2
     simp
def zte (I:L2.Inv X pins σ H s) (sub:zY Hi H):∀ (n:Nat) (A:Around) (x y:V) (u v:Value) (dx dy:D) (b:Bool),A.units+n<cLine->Den X.K Hi x dx->Den X.K Hi y dy->zaw x u->zaw y v->eqD n dx dy=some b->SeqAt.EqAt A s u v b:=by
 intro n
 induction n with
 | zero =>
  intro A x y u v dx dy b hu d1 d2 rx ry h; rw [zej] at h; obtain ⟨f1,f2,e⟩:=zqQ d1 d2 h; rw [<- e]; exact zlU rx ry f1 f2
 | succ n ih =>
  intro A x y u v dx dy b hu d1 d2 rx ry h
  have zpy:eqS dx dy=some b->SeqAt.EqAt A s u v b:=fun h=>by
   obtain ⟨f1,f2,e⟩:=zqQ d1 d2 h; rw [<- e]; exact zlU rx ry f1 f2
  have items:∀ {vs ws:List V} {its jts:List Value} {xs ys:List D} {e:Nat->Bool},zaU X.K Hi vs xs->zaU X.K Hi ws ys->zah vs its->zah ws jts->(∀ (j:Nat) x y,xs[j]?=some x->ys[j]?=some y->eqD n x y=some (e j)) ->
    ∀ j (h1:j<its.toArray.size) (h2:j<jts.toArray.size),SeqAt.EqAt A.in1 s its.toArray[j] jts.toArray[j] (e j):=fun {vs ws its jts xs ys e} r1 r2 v1 v2 he j h1 h2=>by
   have l1:j<vs.length:=by rw [v1.length]; simpa using h1
   have l2:j<ws.length:=by rw [v2.length]; simpa using h2
   obtain ⟨dx',e1,q1⟩:=zb2 r1 (yC l1); obtain ⟨dy',e2,q2⟩:=zb2 r2 (yC l2); obtain ⟨u1,e3,q3⟩:=v1.get (yC l1); obtain ⟨u2,e4,q4⟩:=v2.get (yC l2)
   have z1:its.toArray[j]=u1:=by
    have:=yG.mp e3
    obtain ⟨_,z⟩:=this
    simpa using z
   have z2:jts.toArray[j]=u2:=by
    have:=yG.mp e4
    obtain ⟨_,z⟩:=this
    simpa using z
   rw [z1,z2]
   exact ih A.in1 _ _ u1 u2 dx' dy' (e j) (by show A.units+1+n<cLine; omega) q1 q2 q3 q4 (he j dx' dy' e1 e2)
  cases dx with
  | tup xs =>
   cases dy with
   | tup ys =>
    obtain ⟨a,vs,rfl,h1,h2⟩:=d1.tupI; obtain ⟨c,ws,rfl,h3,h4⟩:=d2.tupI; cases rx; cases ry
    by_cases hac:a=c
    ·subst hac
     have e:=I.tuple_inj (zR sub h1) (zR sub h3); subst e; rw [zdt (zjd I sub n) h2 h4 h]; exact SeqAt.EqAt.same _
    ·obtain ⟨its,r1,p1,_⟩:=I.tuple (zR sub h1)
     obtain ⟨jts,r2,p2,_⟩:=I.tuple (zR sub h3); obtain ⟨e,he,hb⟩:=zcs h
     have lx:xs.length=its.length:=by rw [<- zj h2,r1.length]
     have ly:ys.length=jts.length:=by rw [<- zj h4,r2.length]
     have hb':b=((List.range (min its.toArray.size jts.toArray.size)).all e && its.toArray.size == jts.toArray.size):=by
      rw [hb,lx,ly]; simp
     rw [hb']
     exact SeqAt.EqAt.of_refs hac (SeqAt.RcAt.tuples (show s.heap.IsTuple a its.toArray from p1) (show s.heap.IsTuple c jts.toArray from p2) (by omega) (items h2 h4 r1 r2 he))
   | _=>exact zpy h
  | lst xs =>
   cases dy with
   | lst ys =>
    obtain ⟨a,vs,rfl,h1,h2⟩:=d1.lstI; obtain ⟨c,ws,rfl,h3,h4⟩:=d2.lstI; cases rx; cases ry; unfold eqD at h
    by_cases hac:a=c
    ·subst hac
     have e:=I.list_inj (zL sub h1) (zL sub h3); subst e
     have hl:xs.length=ys.length:=by rw [<- zj h2,<- zj h4]
     rw [yM hl] at h; rw [zdt (zjd I sub n) h2 h4 h]; exact SeqAt.EqAt.same _
    ·obtain ⟨its,r1,p1,_⟩:=I.list (zL sub h1)
     obtain ⟨jts,r2,p2,_⟩:=I.list (zL sub h3)
     have lx:xs.length=its.length:=by rw [<- zj h2,r1.length]
     have ly:ys.length=jts.length:=by rw [<- zj h4,r2.length]
     by_cases hl:xs.length=ys.length
     ·rw [yM hl] at h
      obtain ⟨e,he,hb⟩:=zcs h
      have hs:its.toArray.size=jts.toArray.size:=by simp; omega
      have hb':b=((List.range its.toArray.size).all e):=by
       rw [hb,lx,ly]
       have z:(its.length == jts.length)=true:=by simp; omega
       have z2:min its.length jts.length=its.length:=by omega
       rw [z,z2,Bool.and_true]; simp
      rw [hb']
      exact SeqAt.EqAt.of_refs hac (SeqAt.RcAt.lists p1.isList p2.isList hs (by omega) (items h2 h4 r1 r2 he))
     ·rw [yK hl] at h
      cases h
      exact SeqAt.EqAt.of_refs hac (SeqAt.RcAt.lists_lengths p1.isList p2.isList (by simp; omega) (by omega))
   | _=>exact zpy h
  | _=>exact zpy h
end
section
variable {Hi:Hp}
def zja (I:L2.Inv X pins σ H s) (sub:zY Hi H) {n:Nat} {A:Around} (hu:A.units+1+n<cLine) {vs ws:List V} {its jts:List Value} {xs ys:List D} {e:Nat->Bool} (r1:zaU X.K Hi vs xs) (r2:zaU X.K Hi ws ys) (v1:zah vs its) (v2:zah ws jts) (he:∀ (j:Nat) x y,xs[j]?=some x->ys[j]?=some y->eqD n x y=some (e j)) :
  ∀ j (h1:j<its.toArray.size) (h2:j<jts.toArray.size),SeqAt.EqAt A.in1 s its.toArray[j] jts.toArray[j] (e j):=fun j h1 h2=>by
 have l1:j<vs.length:=by rw [v1.length]; simpa using h1
 have l2:j<ws.length:=by rw [v2.length]; simpa using h2
 obtain ⟨dx',e1,q1⟩:=zb2 r1 (yC l1); obtain ⟨dy',e2,q2⟩:=zb2 r2 (yC l2); obtain ⟨u1,e3,q3⟩:=v1.get (yC l1); obtain ⟨u2,e4,q4⟩:=v2.get (yC l2)
 have z1:its.toArray[j]=u1:=by
  obtain ⟨_,z⟩:=yG.mp e3
  simpa using z
 have z2:jts.toArray[j]=u2:=by
  obtain ⟨_,z⟩:=yG.mp e4
  simpa using z
 rw [z1,z2]
 exact zte I sub n A.in1 _ _ u1 u2 dx' dy' (e j) (by show A.units+1+n<cLine; omega) q1 q2 q3 q4 (he j dx' dy' e1 e2)
def zvK (I:L2.Inv X pins σ H s) (sub:zY Hi H) {n:Nat} {A:Around} {x y:V} {u v:Value} {dx dy:D} {b:Bool} (hu:A.units+n<cLine) (d1:Den X.K Hi x dx) (d2:Den X.K Hi y dy) (rx:zaw x u) (ry:zaw y v) (h:eqD n dx dy=some b) (hn:eqS dx dy=none) :
  SeqAt.RcAt A s u v b/\SeqAt.RcNeAt A s u v (!b):=by
 cases n with
 | zero=>rw [zej,hn] at h; cases h
 | succ n =>
  cases dx with
  | tup xs =>
   cases dy with
   | tup ys =>
    obtain ⟨a,vs,rfl,h1,h2⟩:=d1.tupI; obtain ⟨c,ws,rfl,h3,h4⟩:=d2.tupI; cases rx; cases ry; obtain ⟨its,r1,p1,_⟩:=I.tuple (zR sub h1); obtain ⟨jts,r2,p2,_⟩:=I.tuple (zR sub h3); obtain ⟨e,he,hb⟩:=zcs h
    have lx:xs.length=its.length:=by rw [<- zj h2,r1.length]
    have ly:ys.length=jts.length:=by rw [<- zj h4,r2.length]
    have hb':b=((List.range (min its.toArray.size jts.toArray.size)).all e && its.toArray.size == jts.toArray.size):=by
     rw [hb,lx,ly]; simp
    have hi:=zja (A:=A) I sub (by omega) h2 h4 r1 r2 he
    rw [hb']
    exact ⟨SeqAt.RcAt.tuples (show s.heap.IsTuple a its.toArray from p1) (show s.heap.IsTuple c jts.toArray from p2) (by omega) hi,SeqAt.RcNeAt.tuples (show s.heap.IsTuple a its.toArray from p1) (show s.heap.IsTuple c jts.toArray from p2) (by omega) hi⟩
   | _=>exact yN (hn.symm.trans h) (fun z=>nomatch z)
  | lst xs =>
   cases dy with
   | lst ys =>
    obtain ⟨a,vs,rfl,h1,h2⟩:=d1.lstI; obtain ⟨c,ws,rfl,h3,h4⟩:=d2.lstI; cases rx; cases ry; unfold eqD at h; obtain ⟨its,r1,p1,_⟩:=I.list (zL sub h1); obtain ⟨jts,r2,p2,_⟩:=I.list (zL sub h3)
    have lx:xs.length=its.length:=by rw [<- zj h2,r1.length]
    have ly:ys.length=jts.length:=by rw [<- zj h4,r2.length]
    by_cases hl:xs.length=ys.length
    ·rw [yM hl] at h
     obtain ⟨e,he,hb⟩:=zcs h
     have hs:its.toArray.size=jts.toArray.size:=by simp; omega
     have hb':b=((List.range its.toArray.size).all e):=by
      rw [hb,lx,ly]
      have z:(its.length == jts.length)=true:=by simp; omega
      have z2:min its.length jts.length=its.length:=by omega
      rw [z,z2,Bool.and_true]; simp
     have hi:=zja (A:=A) I sub (by omega) h2 h4 r1 r2 he
     rw [hb']
     exact ⟨SeqAt.RcAt.lists p1.isList p2.isList hs (by omega) hi,SeqAt.RcNeAt.lists p1.isList p2.isList hs (by omega) hi⟩
    ·rw [yK hl] at h
     cases h
     exact ⟨SeqAt.RcAt.lists_lengths p1.isList p2.isList (by simp; omega) (by omega),SeqAt.RcNeAt.lists_lengths p1.isList p2.isList (by simp; omega) (by omega)⟩
   | _=>exact yN (hn.symm.trans h) (fun z=>nomatch z)
  | _=>exact yN (hn.symm.trans h) (fun z=>nomatch z)
end
def zmu:R2':=fun x y Q=>∃ b,eqD 100 x y=some b/\Q (.bl b)
def zkh:R2':=fun x y Q=>∃ b,eqD 100 x y=some b/\Q (.bl (!b))
def zjc {n:Nat} {x y:D} {b c:Bool} (h:eqD n x y=some b) (e:eqS x y=some c):b=c:=by
 cases n with
 | zero=>rw [zej,e] at h; exact (Option.some.inj h).symm
 | succ n =>
  have z:eqD (n+1) x y=eqS x y:=by
   cases x <;> first | rfl | (cases y <;> first | rfl | (exact yN (show (none:Option Bool)=some c from e) (fun z=>nomatch z)))
  rw [z,e] at h; exact (Option.some.inj h).symm
def zd8 (hu:X.A.units+100<cLine):Op2 X (compareOp .Eq) zmu:=by
 refine ⟨fun x y H Q=>∃ Hi dx dy b,zY Hi H/\Den X.K Hi x dx/\Den X.K Hi y dy/\eqD 100 dx dy=some b/\Q (.bl b) H,?_,?_⟩
 ·intro pins s σ H x y v u Q I rx ry h
  obtain ⟨Hi,dx,dy,b,sub,d1,d2,e,q⟩:=h
  cases hn:eqS dx dy with
  | some c =>
   obtain ⟨h1,h2⟩:=zoZ d1 d2 hn; refine zu3 pins s σ H x y v u Q I rx ry ⟨h1,?_⟩; rw [h2,<- zjc e hn]; exact q
  | none=>exact (zvK I sub hu d1 d2 rx ry e hn).1 X.prog X.w X.xe _ ⟨.bl b,H,I,rfl,q⟩
 ·rintro Hi H x y dx dy Q Q2 s d1 d2 ⟨b,e,q⟩ fin
  exact ⟨Hi,dx,dy,b,s.sub,d1,d2,e,fin Hi H _ _ (Ext.refl s) (.bl b) q⟩
def zh1 (hu:X.A.units+100<cLine):Op2 X (compareOp .NotEq) zkh:=by
 refine ⟨fun x y H Q=>∃ Hi dx dy b,zY Hi H/\Den X.K Hi x dx/\Den X.K Hi y dy/\eqD 100 dx dy=some b/\Q (.bl (!b)) H,?_,?_⟩
 ·intro pins s σ H x y v u Q I rx ry h
  obtain ⟨Hi,dx,dy,b,sub,d1,d2,e,q⟩:=h
  cases hn:eqS dx dy with
  | some c =>
   obtain ⟨h1,h2⟩:=zoZ d1 d2 hn; refine zu0 pins s σ H x y v u Q I rx ry ⟨h1,?_⟩; rw [h2,<- zjc e hn]; exact q
  | none=>exact (zvK I sub hu d1 d2 rx ry e hn).2 X.prog X.w X.xe _ ⟨.bl (!b),H,I,rfl,q⟩
 ·rintro Hi H x y dx dy Q Q2 s d1 d2 ⟨b,e,q⟩ fin
  exact ⟨Hi,dx,dy,b,s.sub,d1,d2,e,fin Hi H _ _ (Ext.refl s) (.bl (!b)) q⟩
instance:MR2 zmu:=⟨fun _ _ _ _ h ⟨b,e,q⟩=>⟨b,e,h _ q⟩⟩
instance:MR2 zkh:=⟨fun _ _ _ _ h ⟨b,e,q⟩=>⟨b,e,h _ q⟩⟩
@[simp] theorem zvn (n:Nat) (i j:Int):eqD n (.int i) (.int j)=some (decide (i=j)):=by cases n <;> rfl
@[simp] theorem zlT (n:Nat) (i j:List Nat):eqD n (.str i) (.str j)=some (decide (i=j)):=by cases n <;> rfl
@[simp] theorem ztY {Q:D->Prop} (i j:Int):zmu (.int i) (.int j) Q↔Q (.bl (decide (i=j))):=by simp [zmu]
@[simp] theorem ztW {Q:D->Prop} (i j:List Nat):zmu (.str i) (.str j) Q↔Q (.bl (decide (i=j))):=by simp [zmu]
@[simp] theorem ztP {Q:D->Prop} (i j:Int):zkh (.int i) (.int j) Q↔Q (.bl (!decide (i=j))):=by simp [zkh]
@[simp] theorem ztN {Q:D->Prop} (i j:List Nat):zkh (.str i) (.str j) Q↔Q (.bl (!decide (i=j))):=by simp [zkh]
def plc (p:List (List Nat)):D:=.tup (p.map .str)
theorem zjb (f:D->D->Option Bool) (hf:∀ i j:List Nat,f (.str i) (.str j)=some (decide (i=j))):∀ p q:List (List Nat),eqL f (p.map .str) (q.map .str)=some (decide (p=q))
 | [],[]=>rfl
 | [],_ :: _=>by simp [eqL]
 | _ :: _,[]=>by simp [eqL]
 | a :: p,b :: q=>by
  simp only [yW,eqL,hf,zjb f hf p q]
  by_cases h1:a=b <;> by_cases h2:p=q <;> simp [h1,h2]
def zif (n:Nat) (p q:List (List Nat)):eqD (n+1) (plc p) (plc q)=some (decide (p=q)):=zjb _ (fun i j=>zlT n i j) p q
@[simp] theorem ztX {Q:D->Prop} (p q:List (List Nat)):zmu (plc p) (plc q) Q↔Q (.bl (decide (p=q))):=by
 unfold zmu; rw [zif]; simp
@[simp] theorem ztO {Q:D->Prop} (p q:List (List Nat)):zkh (plc p) (plc q) Q↔Q (.bl (!decide (p=q))):=by
 unfold zkh; rw [zif]; simp
end
section
variable {n:Nat} {W:Wd} {Hi Hi' H':Hp} {Γ:Sts} {a:Addr} {o:OD}
def zjq {i:Nat} (h:i<n) (e:adr n W σ i=some a):σ[i]?=some (some (.ref a)):=by
 unfold adr at e; rw [yM h] at e; exact zdK e
def Good.freeze (g:Good K n W Hi Γ σ H) {i:Nat} (hi:i<n) (e:Γ[i]?=some (.own o)):∃ Hi',zY Hi Hi'/\Good K n W Hi' (Γ.set i (.val o.toD)) σ H:=by
 obtain ⟨a,h1,h2,h3,h4⟩:=g.own i o e; obtain ⟨u,hu⟩:=h4.there
 have hil:i<Γ.length:=(yG.mp e).1
 have g1:Good K n W Hi (Γ.set i .emp) σ H:=g.weak fun j s hs=>by
  by_cases hj:j=i
  ·subst hj
   rw [YG hil] at hs; exact .inl (Option.some.inj hs).symm
  ·rw [yZ (fun z=>hj z.symm)] at hs
   exact .inr hs
 have g2:=g1.freezeA h2 (h3 hi) ⟨fun j o' hj z=>by
  by_cases hji:j=i
  ·subst hji
   rw [YG hil] at hj; cases hj
  ·rw [yZ (fun z=>hji z.symm)] at hj
   exact hji (g.apart j i _ _ a hj e z h1),fun j d xs hj=>by
  by_cases hji:j=i
  ·subst hji
   rw [YG hil] at hj; cases hj
  ·rw [yZ (fun z=>hji z.symm)] at hj
   exact (g.bk j d a xs hj).ne i _ e h1⟩ hu
 refine ⟨upd Hi a u,zM h2 u,?_⟩; have hv:=zjq hi h1; have g3:=g2.set (i:=i) (v:=.ref a) (d:=o.toD) hi (h4.den h2 hu)
 have es:σ.set i (some (.ref a))=σ:=by
  apply List.ext_getElem?
  intro j
  by_cases hj:j=i
  ·subst hj
   rw [YG (by rw [g.len]; exact hi),hv]
  ·rw [yZ (fun z=>hj z.symm)]
 rw [es,List.set_set] at g3; exact g3
end
section
def zfJ (n i:Nat) (t:TS'):TS':=fun N Γ=>i<n/\∃ o,Γ[i]?=some (.own o)/\t N (Γ.set i (.val o.toD))
def zjJ (i:Nat) {sts:List Stmt} {t:TS'} (h:PSs' X sts t):PSs' X sts (zfJ X.N.length i t):=by
 refine ⟨PSs.weak h.h ?_⟩
 rintro N2 σ H ⟨W,Hi,Γ,N,g,⟨hi,o,e,q⟩,l⟩
 obtain ⟨Hi',s1,g1⟩:=g.freeze hi e; exact ⟨W,Hi',_,N,g1,q,l.mono s1⟩
def zgt (i:Nat) (te:TE'):TS':=fun N Γ=>(∃ ds0,Γ[i]?=some (.own (.lst ds0)))/\te Γ fun d Γ1=>∃ ds,Γ1[i]?=some (.own (.lst ds))/\ds.length<sizeLine/\N.nx (Γ1.set i (.own (.lst (ds ++ [d]))))
def zdN (i:Nat) {x:Str} {e:Expr} {te:TE'} {pos p apos cpos:Pos} (he:PE' X e te) (hN:X.N[i]?=some x:=by rfl) (hv:Vis X.env.scope x:=by first | exact JA rfl | exact Yd (JA rfl) | exact Yd (Yd rfl)) (hd:yyD x:=by decide)
  (hcd:(x == ("__classdict__":Str))=false:=by decide) (hst:zcp e=false:=by rfl)
  (hbase:attributeBase (.Name x p) "append" X.env (eval (.Name x p) X.env)=eval (.Name x p) X.env:=by rfl) (hline:(apos.endLine == cpos.line)=true:=by rfl)
  (hs:swapsWith (.Call (.Attribute (.Name x p) "append" apos) [e] [] cpos) none pos.line X.env=pure false:=by rfl) :
  PS' X (.Expr (.Call (.Attribute (.Name x p) "append" apos) [e] [] cpos) pos) (zgt i te):=by
 have pl:zbE [e]=true:=by unfold zbE; rw [hst]; rfl
 have hfew:((backTo cpos (starEach [e] X.env)).all (fun x=>!x.1) && (backToKw cpos (keywordEach [] X.env)).all (fun x=>x.1.isSome)
   && decide ([e].length+([]:List Keyword).length+(if ([]:List Keyword).isEmpty then 0 else 1)<30))=true:=by
  rw [zS hst]; rfl
 have base:=zhO (zsv PySem.F.plainAttrs_list PySem.F.slot_list_append PySem.F.type_list_append (zeG (X:=X)) (zd1 (i:=i) (pos:=p) hN hv hd hcd) (zck he.h ziT (zS hst)) hbase hfew hline (zS hst) rfl) hs; refine ⟨PS.weak base ?_⟩
 rintro N2 σ H ⟨W,Hi,Γ,N,g,⟨⟨ds0,e0⟩,q⟩,l⟩
 have hi:i<X.N.length:=(yG.mp hN).1
 obtain ⟨a,h1,h2,h3,vs0,h4,h5⟩:=g.own i _ e0; refine ⟨.ref a,zjq hi h1,.inl ⟨rfl,vs0,SqL.of h4⟩,W,Hi,Γ,_,g,q,?_⟩
 rintro v H1 ⟨Hi1,d,Γ1,s1,g1,den,ds,e1,hl,q1⟩
 obtain ⟨a',k1,k2,k3,vs,k4,k5⟩:=g1.own i _ e1; rw [h1] at k1; cases k1
 refine ⟨a,vs,v,rfl,rfl,k4,by rw [zj k5]; exact hl,?_⟩
 exact l.nx σ _ Hi1 _ s1 (g1.put (o:=.lst (ds ++ [d])) e1 h1 ⟨vs ++ [v],zp,zat k5 (.cons den .nil)⟩) q1
instance {i:Nat} {te:TE'} [ME te]:MS (zgt i te):=⟨fun N N' Γ h ⟨a,q⟩=>⟨a,ME.mono (t:=te) _ _ _ (fun _ _ ⟨ds,e,l,z⟩=>⟨ds,e,l,h.nx _ z⟩) q⟩⟩
end
inductive Imm:D->Prop where
 | non:Imm .non
 | bl (b:Bool):Imm (.bl b)
 | int (i:Int):Imm (.int i)
 | str (l:List Nat):Imm (.str l)
 | ty (n:String):Imm (.ty n)
 | cls (C:Addr):Imm (.cls C)
 | tup {ds:List D} (h:∀ d,d ∈ ds->Imm d):Imm (.tup ds)
def Imm.plc (p:List (List Nat)):Imm (plc p):=.tup fun d hd=>by
 obtain ⟨l,_,rfl⟩:=yS.mp hd; exact .str l
def Imm.den {K:W.Frag} {H H':Hp} {v:V} {d:D} (im:Imm d) (h:Den K H v d) (e:∀ a xs,(H a=some (.tup xs)->H' a=some (.tup xs))/\∀ o,H a=some (.frz o (.tup xs))->H' a=some (.frz o (.tup xs))):Den K H' v d:=by
 induction h with
 | non=>exact .non
 | bl b=>exact .bl b
 | int i=>exact .int i
 | str l=>exact .str l
 | ty n=>exact .ty n
 | cls C=>exact .cls C
 | tup h l r ih =>
  cases im with
  | tup hi =>
   exact .tup ((e _ _).1 h) l fun j v d h1 h2=>ih j v d h1 h2 (hi d (yf h2))
 | _=>cases im
def zjx:Slot->Slot
 | .own o=>.val o.toD
 | .val d=>.val d
 | .bk d _ xs=>.val (d xs.toD)
 | _=>.emp
section
variable {n:Nat} {W:Wd} {Hi Hi' H':Hp} {Γ:Sts} {a:Addr} {o:OD}
def zdU (n:Nat) (W:Wd) (Γ:Sts) (σ:St) (b:Addr):Prop:=(∃ (i:Nat) (o:OD),i<n/\Γ[i]?=some (.own o)/\adr n W σ i=some b)\/∃ (i:Nat) (d:D->D) (xs:OD),Γ[i]?=some (.bk d b xs)
open Classical in
noncomputable def zbx (n:Nat) (W:Wd) (Γ:Sts) (σ:St) (Hi H:Hp):Hp:=fun b=>if zdU n W Γ σ b then H b else Hi b
open Classical in
noncomputable def zcb (n:Nat) (W:Wd) (Γ:Sts) (σ:St) (Hb:Hp):Hp:=fun b=>if zdU n W Γ σ b then none else Hb b
def zdU.hi (g:Good K n W Hi Γ σ H) {b:Addr} (h:zdU n W Γ σ b):Hi b=none/\∃ u,H b=some u/\(∀ xs,u≠.tup xs)/\∀ o xs,u≠.frz o xs:=by
 have key:∃ o,Hi b=none/\za5 K Hi H b o:=by
  rcases h with ⟨i,o,hi,e,ad⟩ | ⟨i,d,xs,e⟩
  ·obtain ⟨a,h1,h2,h3,h4⟩:=g.own i o e
   rw [ad] at h1; cases h1; exact ⟨o,h2,h4⟩
  ·exact ⟨xs,(g.bk i d b xs e).hi,(g.bk i d b xs e).at_⟩
 obtain ⟨o,h2,h4⟩:=key; refine ⟨h2,?_⟩
 cases o with
 | lst ds=>obtain ⟨vs,q,_⟩:=h4; exact ⟨_,q,⟨fun _ z=>(by cases z),fun _ _ z=>(by cases z)⟩⟩
 | dic ds=>obtain ⟨kvs,q,_⟩:=h4; exact ⟨_,q,⟨fun _ z=>(by cases z),fun _ _ z=>(by cases z)⟩⟩
 | dit ds=>obtain ⟨kvs,ep,q,_⟩:=h4; exact ⟨_,q,⟨fun _ z=>(by cases z),fun _ _ z=>(by cases z)⟩⟩
 | obj C ds=>obtain ⟨dx,fs,q,_⟩:=h4; exact ⟨_,q,⟨fun _ z=>(by cases z),fun _ _ z=>(by cases z)⟩⟩
def zbQ (n:Nat) (Γ:Sts):Sts:=(Γ.take n).map zjx
def Good.look (g:Good K n W Hi Γ σ H):zY Hi (zbx n W Γ σ Hi H)/\Good K n ⟨H,zbx n W Γ σ Hi H,[]⟩ (zbx n W Γ σ Hi H) (zbQ n Γ) σ H:=by
 have s1:zY Hi (zbx n W Γ σ Hi H):=fun b u e=>by
  unfold zbx
  rw [yK (fun z=>by rw [(zdU.hi g z).1] at e; cases e)]
  exact e
 have inv:∀ (i:Nat) (sl:Slot),(zbQ n Γ)[i]?=some sl->∃ s0,Γ[i]?=some s0/\i<n/\sl=zjx s0:=fun i sl e=>by
  unfold zbQ at e; rw [yH] at e
  cases hj:(Γ.take n)[i]? with
  | none=>rw [hj] at e; cases e
  | some s0 =>
   rw [hj] at e; rw [List.getElem?_take] at hj; split at hj
   ·exact ⟨s0,hj,by assumption,(Option.some.inj e).symm⟩
   ·cases hj
 refine ⟨s1,g.len,⟨fun b u e=>?_,fun b xs e=>s1 _ _ (g.fz.tups b xs e)⟩,fun b u e _=>e,fun b u e=>⟨u,e⟩,fun b u e=>rfl,fun i d e=>?_,fun i o e=>?_,fun i j o o' a e=>?_,fun i d b xs e=>?_⟩
 ·unfold zbx at e
  split at e
  ·exact e
  ·exact g.sub b u e
 ·obtain ⟨s0,hj,hi,hs⟩:=inv i _ e
  cases s0 with
  | val d' =>
   cases hs; obtain ⟨v,h1,h2⟩:=g.val i d hj; exact ⟨v,h1,h2.mono s1⟩
  | own o =>
   cases hs; obtain ⟨a,h1,h2,h3,h4⟩:=g.own i o hj; refine ⟨.ref a,zjq hi h1,?_⟩
   have hO:zdU n W Γ σ a:=.inl ⟨i,o,hi,hj,h1⟩
   have hl:zbx n W Γ σ Hi H a=H a:=by unfold zbx; rw [yM hO]
   cases o with
   | lst ds=>obtain ⟨vs,q,r⟩:=h4; exact Den.mkL (SqL.of (hl.trans q)) (r.mono s1)
   | dic ds=>obtain ⟨kvs,q,r⟩:=h4; exact Den.mkDK (.inl (hl.trans q)) (r.mono s1)
   | dit ds=>obtain ⟨kvs,ep,q,r⟩:=h4; exact Den.mkDT (hl.trans q) (r.mono s1)
   | obj C ds=>obtain ⟨dx,fs,q,r⟩:=h4; exact Den.mkO (hl.trans q) (r.mono s1)
  | emp=>cases hs
  | bk d' b xs =>
   cases hs
   obtain ⟨⟨v,h1,h2⟩,hol,_,_,h4,_⟩:=g.bk i d' b xs hj
   have hl:zbx n W Γ σ Hi H b=H b:=by unfold zbx; rw [yM (.inr ⟨i,d',xs,hj⟩)]
   refine ⟨v,h1,hol b _ v xs ?_ (h2.mono s1)⟩
   cases xs with
   | lst ds=>obtain ⟨vs,q,r⟩:=h4; exact Den.mkL (SqL.of (hl.trans q)) (r.mono s1)
   | dic ds=>obtain ⟨kvs,q,r⟩:=h4; exact Den.mkDK (.inl (hl.trans q)) (r.mono s1)
   | dit ds=>obtain ⟨kvs,ep,q,r⟩:=h4; exact Den.mkDT (hl.trans q) (r.mono s1)
   | obj C ds=>obtain ⟨dx,fs,q,r⟩:=h4; exact Den.mkO (hl.trans q) (r.mono s1)
 all_goals
  obtain ⟨s0,hj,hi,hs⟩:=inv i _ e
  cases s0 <;> cases hs
def Good.unlook (g:Good K n W Hi Γ σ H) {Hb:Hp} {Γ':Sts} (sb:zY (zbx n W Γ σ Hi H) Hb) (g':Good K n ⟨H,zbx n W Γ σ Hi H,[]⟩ Hb Γ' σ H') :
  Ext Hi H (zcb n W Γ σ Hb) H'/\Good K n W (zcb n W Γ σ Hb) Γ σ H'/\∀ v d,Imm d->Den K Hb v d->Den K (zcb n W Γ σ Hb) v d:=by
 have kp:∀ b u,H b=some u->H' b=some u:=fun b u e=>g'.keep b u e (by simp)
 have s1:zY Hi (zcb n W Γ σ Hb):=fun b u e=>by
  have no:¬ zdU n W Γ σ b:=fun z=>by rw [(zdU.hi g z).1] at e; cases e
  unfold zcb; rw [yK no]; refine sb b u ?_; unfold zbx; rw [yK no]; exact e
 have ex:Ext Hi H (zcb n W Γ σ Hb) H':=by
  refine ⟨s1,kp,⟨fun b u e=>?_,fun b xs e=>?_⟩,fun b u e=>?_⟩
  ·unfold zcb at e
   split at e
   ·cases e
   ·exact g'.sub b u e
  ·have z:=g'.fz.tups b xs e
   have no:¬ zdU n W Γ σ b:=fun z=>by
    obtain ⟨_,w,hw,w1,_⟩:=zdU.hi g z; rw [kp b w hw] at e; cases e; exact w1 xs rfl
   unfold zcb; rw [yK no]; exact z
  ·unfold zcb
   split
   ·rename_i z
    exact (zdU.hi g z).1.symm
   ·rename_i z
    rw [g'.fro b u e]
    show zbx n W Γ σ Hi H b=Hi b
    unfold zbx; rw [yK z]
 refine ⟨ex,g.ext ex,fun v d im den=>im.den den fun b xs=>?_⟩
 have no:∀ u,Hb b=some u->((∃ xs,u=.tup xs)\/∃ o xs,u=.frz o xs)->¬ zdU n W Γ σ b:=fun u e hu z=>by
  obtain ⟨_,w,hw,w1,w2⟩:=zdU.hi g z; have e2:=g'.sub b u e; rw [kp b w hw] at e2; cases e2
  rcases hu with ⟨xs,hu⟩ | ⟨o,xs,hu⟩
  ·exact w1 xs hu
  ·exact w2 o xs hu
 constructor
 ·intro e
  unfold zcb; rw [yK (no _ e (.inl ⟨_,rfl⟩))]; exact e
 ·intro o e
  unfold zcb; rw [yK (no _ e (.inr ⟨_,_,rfl⟩))]; exact e
end
section
def zdD (n:Nat) (t:TE'):TE':=fun Γ Q=>t (zbQ n Γ) fun d _=>Imm d/\Q d Γ
def zcN (n:Nat) (t:TT'):TT':=fun Γ Q=>t (zbQ n Γ) fun b _=>Q b Γ
def zez {e:Expr} {t:TE'} (h:PE' X e t):PE' X e (zdD X.N.length t):=by
 refine ⟨PE.weak h.h ?_⟩
 rintro σ H Q ⟨W,Hi,Γ,Q',g,q,fin⟩
 obtain ⟨s1,g1⟩:=g.look; refine ⟨_,_,_,_,g1,q,?_⟩
 rintro v H' ⟨Hb,d,Γ',sb,g',den,im,q'⟩
 obtain ⟨s2,g2,hd⟩:=g.unlook sb g'; exact fin v H' ⟨_,d,Γ,s2.hi,g2,hd v d im den,q'⟩
def zhN {e:Expr} {t:TT'} (h:PT' X e t):PT' X e (zcN X.N.length t):=by
 refine ⟨PT.weak h.h ?_⟩
 rintro σ H Q ⟨W,Hi,Γ,Q',g,q,fin⟩
 obtain ⟨s1,g1⟩:=g.look; refine ⟨_,_,_,_,g1,q,?_⟩; intro b H' Hb Γ' sb g' q'; obtain ⟨s2,g2,hd⟩:=g.unlook sb g'; exact fin b H' _ Γ s2.hi g2 q'
instance {n:Nat} {t:TE'} [ME t]:ME (zdD n t):=⟨fun Γ _ _ h q=>ME.mono (t:=t) _ _ _ (fun _ _ ⟨a,z⟩=>⟨a,h _ _ z⟩) q⟩
instance {n:Nat} {t:TT'} [MT t]:MT (zcN n t):=⟨fun Γ _ _ h q=>MT.mono (t:=t) _ _ _ (fun _ _ z=>h _ _ z) q⟩
end
end PL
namespace L2
open PySem PySem.Spec PyProof.Rows
section
variable {h:Heap} {a:Addr} {kvs:List (List Key × V)} {ep:Nat}
def zfe (ok:HOk P w H h) (e:H a=some (.dE kvs ep)):kvs.length<=sizeLine/\(a == sysModules)=false /\
  ∃ xs,KT H kvs xs/\h.DictOfH (tupleKind (mixKind P w)) a xs/\∃ o es,h.get? a=some o/\o.ExactDict/\o.data=.dict es ep/\es.toList=xs.map (entryOfKey (tupleKind (mixKind P w))):=by
 obtain ⟨z,y,xs,r,o,es,h1,h2,h3,h4,h5⟩:=(show zap P w H h a (.dE kvs ep) from ok a _ e)
 refine ⟨z,y,xs,r,⟨o,es,ep,h1,h2,h3,h4,fun x hx=>?_,h5⟩,o,es,h1,h2,h3,h4⟩
 obtain ⟨j,hj⟩:=List.getElem?_of_mem hx
 have hl:j<kvs.length:=by
  rw [Paired.length r]; exact (yG.mp hj).1
 have q:=PL.paired_get j r (yC hl) hj
 exact zeT ok (by rw [<- q.1]; exact q.2.1)
end
def zpb (H:Hp) (a:Addr) (y:V) (r:Option V):Prop:=∃ kvs ep k b,H a=some (.dE kvs ep)/\y=.ref b/\H b=some (.tup (k.map kV))/\r=zmL kvs k
section
variable {a:Addr} {y v:V} {u r:Value} {o:Option V}
def zog (I:Inv X pins σ H s) (g:zpb H a y o):s.TypeIs (.ref a) "dict":=by
 obtain ⟨kvs,ep,k,b,e,_⟩:=g; obtain ⟨_,_,xs,_,dd,_⟩:=zfe I.hok e; exact dd.typeIs
def zlZ {Q:Value->Shared->Prop} (hu:A.units+1<cLine) (I:Inv X pins σ H s) (g:zpb H a y (some v)) (ry:zaw y u) (h:∀ w' s',Inv X pins σ H s'->zaw v w'->Q w' s') :
  wpAny (model X.prog X.w) A (getItem (.ref a) u) Q E s:=by
 obtain ⟨kvs,ep,k,b,e,ey,eb,l⟩:=g; subst ey
 cases (show u=Value.ref b from ry)
 obtain ⟨z,hd,xs,rel,dd,_⟩:=zfe I.hok e
 obtain ⟨w',hw,rw'⟩:=zmp.some_of (v:=v) (o:=(atKey xs k).map (·.2)) (by rw [l]; exact rel.val k)
 obtain ⟨p,hp,hp2⟩:=YY.mp hw; refine wpAny_getItem_heap (tupleKind_room_in1 hu) (zeT I.hok eb) dd hp ?_; rw [hp2]; exact h w' _ (I.tok _) rw'
def zwx {Q:Value->Shared->Prop} (hu:A.units+1<cLine) (I:Inv X pins σ H s) (g:zpb H a y o) (ry:zaw y u) (h:∀ s',Inv X pins σ H s'->Q (.bool o.isSome) s') :
  wpAny (model X.prog X.w) A (compareOp .In u (.ref a)) Q E s:=by
 obtain ⟨kvs,ep,k,b,e,ey,eb,l⟩:=g; subst ey
 cases (show u=Value.ref b from ry)
 obtain ⟨z,hd,xs,rel,dd,_⟩:=zfe I.hok e; refine wpAny_in_heap (tupleKind_room_in1 hu) (zeT I.hok eb) hd dd ?_; have q:=(rel.val k).isSome_eq; rw [Option.isSome_map] at q; rw [<- q,<- l]; exact h _ (I.tok _)
def zqS {Q:Value->Shared->Prop} (hu:A.units+1<cLine) (I:Inv X pins σ H s) (g:zpb H a y o) (ry:zaw y u) (h:∀ s',Inv X pins σ H s'->Q (.bool (!o.isSome)) s') :
  wpAny (model X.prog X.w) A (compareOp .NotIn u (.ref a)) Q E s:=by
 obtain ⟨kvs,ep,k,b,e,ey,eb,l⟩:=g; subst ey
 cases (show u=Value.ref b from ry)
 obtain ⟨z,hd,xs,rel,dd,_⟩:=zfe I.hok e; refine wpAny_notIn_heap (tupleKind_room_in1 hu) (zeT I.hok eb) hd dd ?_; have q:=(rel.val k).isSome_eq; rw [Option.isSome_map] at q; rw [<- q,<- l]; exact h _ (I.tok _)
def zlY {kvs:List (List Key × V)} {ep:Nat} {k:List Key} {b:Addr} {Q:Unit->Shared->Prop} (hu:A.units+1<cLine) (I:Inv X pins σ H s) (e:H a=some (.dE kvs ep)) (eb:H b=some (.tup (k.map kV))) (l:kvs.length<sizeLine) (rv:zaw v r)
  (h:∀ ep' s',Inv X pins σ (upd H a (.dE (ziH kvs k v) ep')) s'->Q () s'):wpAny (model X.prog X.w) A (setItem (.ref a) (.ref b) r) Q E s:=by
 obtain ⟨z,hd,xs,rel,dd,_⟩:=zfe I.hok e
 have hz:xs.length<=sizeLine:=by rw [<- Paired.length rel]; exact z
 have hl:(ziH kvs k v).length<=sizeLine:=by have:=zeK kvs k v; omega
 refine wpAny_setItem_heap (hsz:=hz) (tupleKind_room_in1 hu) (zeT I.hok eb) dd fun h' dd' hs=>?_
 obtain ⟨q,es,ep',hq,h2,h3,h4,_,h5⟩:=dd'
 refine h ep' _ (zl7 I (by rw [e]; exact True.intro) hs ⟨q,hq⟩ ⟨hl,hd,_,(rel.put k eb rv).keeps fun c ys ec=>?_,q,es,hq,h2,h3,h4,h5⟩)
 rw [zq (zlm ec e (fun z=>nomatch z))]
 exact ec
end
section
def zqF (hu:X.A.units+1<cLine):IxR X (fun x y H Q=>∃ a v,x=.ref a/\zpb H a y (some v)/\Q v H):=by
 intro value slice pins s σ H x y v u Q I rx ry h hs; obtain ⟨a,w,rfl,g,q⟩:=h; cases rx
 exact tail_any (zog I g) PySem.F.slot_dict_getitem.lookup (zlZ hu I g ry fun w' s3 I3 rw'=>⟨w,H,I3,rw',q⟩) hs
def zsD (hu:X.A.units+1<cLine):OpR X (compareOp .In) (fun x y H Q=>∃ a o,y=.ref a/\zpb H a x o/\Q (.bl o.isSome) H):=by
 intro pins s σ H x y v u Q I rx ry h; obtain ⟨a,o,rfl,g,q⟩:=h; cases ry
 exact zwx hu I g rx fun s' I'=>⟨.bl _,H,I',rfl,q⟩
def zlg (hu:X.A.units+1<cLine):OpR X (compareOp .NotIn) (fun x y H Q=>∃ a o,y=.ref a/\zpb H a x o/\Q (.bl (!o.isSome)) H):=by
 intro pins s σ H x y v u Q I rx ry h; obtain ⟨a,o,rfl,g,q⟩:=h; cases ry
 exact zqS hu I g rx fun s' I'=>⟨.bl _,H,I',rfl,q⟩
def zuE (td ty tv:TE):TS:=fun D σ H=>tv σ H fun v H1=>td σ H1 fun x H2=>ty σ H2 fun y H3=>∃ a kvs ep k b,x=.ref a/\H3 a=some (.dE kvs ep)/\y=.ref b/\H3 b=some (.tup (k.map kV))/\kvs.length<sizeLine/\∀ ep',D.nx σ (upd H3 a (.dE (ziH kvs k v) ep'))
def zk2 {o i value:Expr} {pos pos':Pos} {td ty tv:TE} (hu:X.A.units+1<cLine) (ho:PE X o td) (hi:PE X i ty) (hv:PE X value tv) (hs:swapsWith value (some (.Subscript o i pos')) pos.line X.env=pure false) :
  PS X (.Assign [.Subscript o i pos'] value pos) (zuE td ty tv):=by
 intro pins s σ H D I h
 refine wpAny_Assign_Subscript (thn (hv pins s σ H _ I h) fun r s1 ⟨v,H1,I1,rv,q1⟩=>thn (ho pins s1 σ H1 _ I1 q1) fun u s2 ⟨x,H2,I2,rx,q2⟩=>thn (hi pins s2 σ H2 _ I2 q2) fun iv s3 ⟨y,H3,I3,ry,a,kvs,ep,k,b,ex,e,ey,eb,l,q3⟩=>?_) hs
 subst ex ey
 obtain rfl:u=Value.ref a:=rx
 obtain rfl:iv=Value.ref b:=ry
 exact zlY hu I3 e eb l rv fun ep' s4 I4=>⟨σ,_,I4,q3 ep'⟩
def zjj {P:Program} {w:World} {H:Hp} (h:Heap) (hb:sysModules<h.objs.size):zap P w H (h.push { cls:=.type "dict",data:=.dict #[] }) h.objs.size (.dE [] 0) :=
 ⟨YB _,beq_eq_false_iff_ne.mpr (Ne.symm (yU hb)),[],.nil,_,#[],yJ _ rfl,⟨rfl,rfl,rfl⟩,rfl,rfl,List.nodup_nil⟩
def zuw:TE:=fun _ H Q=>∀ p,H p=none->Q (.ref p) (upd H p (.dE [] 0))
def zp7 {pos:Pos}:PE X (.Dict [] [] pos) zuw:=fun pins s σ H Q I h =>
 wpAny_Dict_empty ⟨.ref s.heap.objs.size,_,I.laid (a:=s.heap.objs.size) (o:=.dE [] 0) (t':=s.toks) (fun _ _ q=>yB _ q) (yD _) (zjj s.heap I.big),rfl,h _ (I.hok.fresh (yD _))⟩
def zgw (d:Addr) (k v:Value):storeAll d [(k,v)]=(dictSet d k v >>= fun _=>pure PUnit.unit):=by
 unfold storeAll; rw [List.forIn_cons]; simp only [bind_assoc,pure_bind,List.forIn_nil]
def zpt (tk tv:TE):TE:=fun σ H Q=>∀ p,H p=none->tk σ (upd H p (.dE [] 0)) fun x H1=>tv σ H1 fun y H2=>H2 p=some (.dE [] 0)/\∃ b ks,x=.ref b/\H2 b=some (.tup (ks.map kV))/\∀ ep',Q (.ref p) (upd H2 p (.dE [(ks,y)] ep'))
def zl1 (hu:X.A.units+1<cLine) {pins:yyL} {σ:St} {H2:Hp} {s2:Shared} {p b:Addr} {ks:List Key} {y:V} {u2:Value} {Q:Value->Shared->Prop} (I2:Inv X pins σ H2 s2) (e:H2 p=some (.dE [] 0)) (eb:H2 b=some (.tup (ks.map kV))) (r2:zaw y u2)
  (h:∀ ep' s3,Inv X pins σ (upd H2 p (.dE [(ks,y)] ep')) s3->Q (.ref p) s3):wpAny (model X.prog X.w) X.A (storeAll p [(Value.ref b,u2)]) (fun _ s3=>Q (.ref p) s3) X.xe s2:=by
 rw [zgw]; obtain ⟨z,hd,xs,rel,dd,_⟩:=zfe I2.hok e
 obtain rfl:xs=[]:=by
  have:=Paired.length rel
  exact Yy this.symm
 refine yA (wpAny_dictSet_heap (hsz:=YB _) (knd:=tupleKind (mixKind X.prog X.w)) (show X.A.units<cLine by omega) (zeT I2.hok eb) dd fun h' dd' hs=>?_)
 obtain ⟨q,es,ep',hq,h2,h3,h4,_,h5⟩:=dd'
 have hk:KT H2 (ziH [] ks y) (storedH [] ks b u2):=KT.put (kvs:=[]) (xs:=[]) .nil ks eb r2
 have hp:ziH ([]:List (List Key × V)) ks y=[(ks,y)]:=rfl
 rw [hp] at hk
 have ok:zap X.prog X.w (upd H2 p (.dE [(ks,y)] ep')) h' p (.dE [(ks,y)] ep'):=by
  refine ⟨?_,hd,_,hk.keeps fun c ys ec=>?_,q,es,hq,h2,h3,h4,h5⟩
  ·rw [sizeLine_eq]; exact Nat.le_of_ble_eq_true rfl
  ·rw [zq (zlm ec e (fun z=>nomatch z))]
   exact ec
 exact yF (h ep' _ (zl7 I2 (by rw [e]; exact True.intro) hs ⟨q,hq⟩ ok))
def zlb (hu:X.A.units+1<cLine) {k v:Expr} {tk tv:TE} {pos:Pos} (hk:PE X k tk) (hv:PE X v tv):PE X (.Dict [some k] [v] pos) (zpt tk tv):=by
 intro pins s σ H Q I q; have hn:=I.hok.fresh (yD s.heap.objs.size)
 have I1:=I.laid (a:=s.heap.objs.size) (o:=.dE [] 0) (h':=s.heap.push { cls:=.type "dict",data:=.dict #[] }) (t':=s.toks) (fun _ _ q=>yB _ q) (yD _) (zjj s.heap I.big)
 refine wpAny_Dict_any rfl rfl (fun z=>nomatch z) (Nat.le_of_ble_eq_true rfl) ?_
 refine pairTrees_cons_walk (thn (hk pins _ σ _ _ I1 (q _ hn)) fun u1 s1 ⟨x,H1,J1,rx,q1⟩=>thn (hv pins s1 σ H1 _ J1 q1) fun u2 s2 ⟨y,H2,I2,ry,e,b,ks,ex,eb,q2⟩=>pairTrees_nil_walk ?_)
 subst ex
 obtain rfl:u1=Value.ref b:=rx
 exact zl1 hu I2 e eb ry fun ep' s3 I3=>⟨.ref s.heap.objs.size,_,I3,rfl,q2 ep'⟩
end
end L2
namespace PL
open PySem L2
section
variable {Hi:Hp}
theorem zqU {v:V}:∀ {k:Key},Den K H v (keyD k)->v=kV k
 | .inl i,h=>h.intI
 | .inr x,h=>h.strI
theorem zjh:∀ {vs:List V} {ks:List Key},zaU K H vs (ks.map keyD)->vs=ks.map kV
 | [],[],_=>rfl
 | [],_ :: _,h=>nomatch h
 | _ :: _,[],h=>nomatch h
 | v :: vs,k :: ks,.cons r t=>by rw [yW,<- zqU r,<- zjh t]
def zn3 {a b:Key} (h:keyD a=keyD b):a=b:=by
 cases a with
 | inl i=>cases b with
  | inl j=>injection h with h; rw [h]
  | inr y=>cases h
 | inr x=>cases b with
  | inl j=>cases h
  | inr y =>
   injection h with h
   obtain ⟨⟨x⟩⟩:=x
   obtain ⟨⟨y⟩⟩:=y
   exact yi (fun l=>Sum.inr (Str.mk ⟨l⟩)) h
theorem zeS:∀ {a b:List Key},a.map keyD=b.map keyD->a=b
 | [],[],_=>rfl
 | [],_ :: _,h=>nomatch h
 | _ :: _,[],h=>nomatch h
 | x :: a,y :: b,h=>by
  injection h with h1 h2
  rw [zn3 h1,zeS h2]
def zdw {v:V} {ks:List Key} (h:Den K Hi v (.tup (ks.map keyD))):∃ b,v=.ref b/\Hi b=some (.tup (ks.map kV)):=by
 obtain ⟨a,vs,rfl,h1,h2⟩:=h.tupJ; rw [zjh h2] at h1; exact ⟨a,rfl,h1⟩
open Classical in
noncomputable def zbd (ds:List (D × D)) (k:D):Option D:=(ds.find? fun p=>decide (p.1=k)).map (·.2)
open Classical in
noncomputable def zkm (ds:List (D × D)) (k v:D):List (D × D):=if (zbd ds k).isSome=true then ds.map (fun p=>if p.1=k then (p.1,v) else p) else ds ++ [(k,v)]
def zl8 {p:D × D} {r:List (D × D)} {k:D} (e:p.1=k):zbd (p :: r) k=some p.2:=by simp [zbd,YR,e]
def zl9 {p:D × D} {r:List (D × D)} {k:D} (e:¬ p.1=k):zbd (p :: r) k=zbd r k:=by simp [zbd,YR,e]
inductive OptD (K:W.Frag) (H:Hp):Option V->Option D->Prop where
 | none:OptD K H none none
 | some {v:V} {d:D} (h:Den K H v d):OptD K H (some v) (some d)
def ztb {kvs:List (List Key × V)} {ds:List (D × D)} (r:zjs K H kvs ds) (ks:List Key):OptD K H (zmL kvs ks) (zbd ds (.tup (ks.map keyD))):=by
 induction r with
 | nil=>exact .none
 | @cons p q ps qs h t ih =>
  by_cases e:p.1=ks
  ·rw [zfF e,zl8 (h.1.trans (by rw [e]))]
   exact .some h.2
  ·rw [zfG e,zl9 (fun z=>e (zeS (by
    have:=h.1.symm.trans z
    injection this)))]
   exact ih
def OptD.isSome {o:Option V} {d:Option D} (h:OptD K H o d):o.isSome=d.isSome:=by cases h <;> rfl
open Classical in
def zuF {ks:List Key} {v:V} {d:D} (h:Den K H v d) {kvs:List (List Key × V)} {ds:List (D × D)} (r:zjs K H kvs ds):zjs K H (kvs.map fun kv=>if kv.1=ks then (kv.1,v) else kv) (ds.map fun p=>if p.1=.tup (ks.map keyD) then (p.1,d) else p):=by
 induction r with
 | nil=>exact .nil
 | @cons p q ps qs hh t ih =>
  rw [yW,yW]; refine .cons ?_ ih
  by_cases e:p.1=ks
  ·rw [yM e,yM (hh.1.trans (by rw [e]))]
   exact ⟨hh.1,h⟩
  ·rw [yK e,yK (fun z=>e (zeS (by
    have:=hh.1.symm.trans z
    injection this)))]
   exact hh
def zuT {kvs:List (List Key × V)} {ds:List (D × D)} (r:zjs K H kvs ds) (ks:List Key) {v:V} {d:D} (h:Den K H v d):zjs K H (ziH kvs ks v) (zkm ds (.tup (ks.map keyD)) d):=by
 unfold ziH zkm; rw [zfH,(ztb r ks).isSome]; split
 ·exact zuF h r
 ·exact zat r (.cons ⟨rfl,h⟩ .nil)
end
section
def zhK:R2':=fun x y Q=>∃ (ds:List (D × D)) (ks:List Key) (v:D),x=.dit ds/\y=.tup (ks.map keyD)/\zbd ds y=some v/\Q v
def zox (neg:Bool):R2':=fun x y Q=>∃ (ks:List Key) (ds:List (D × D)),x=.tup (ks.map keyD)/\y=.dit ds/\Q (.bl (if neg then !(zbd ds x).isSome else (zbd ds x).isSome))
def zqT {K:W.Frag} {Hi H:Hp} {x y:V} {ds:List (D × D)} {ks:List Key} (s:Fz Hi H) (d1:Den K Hi x (.dit ds)) (d2:Den K Hi y (.tup (ks.map keyD))):∃ a o,x=.ref a/\zpb H a y o/\OptD K Hi o (zbd ds (.tup (ks.map keyD))):=by
 obtain ⟨a,kvs,ep,rfl,h1,h2⟩:=d1.ditI; obtain ⟨b,rfl,h3⟩:=zdw d2; exact ⟨a,_,rfl,⟨kvs,ep,ks,b,s.sub _ _ h1,rfl,s.sub _ _ h3,rfl⟩,ztb h2 ks⟩
def zve (hu:X.A.units+1<cLine):Ixs X zhK:=⟨_,zqF hu,by
 rintro Hi H x y dx dy Q Q2 s d1 d2 ⟨ds,ks,v,rfl,rfl,e,q⟩ fin
 obtain ⟨a,o,rfl,g,r⟩:=zqT s d1 d2; rw [e] at r
 cases r with
 | some h=>exact ⟨a,_,rfl,g,fin Hi H _ _ (Ext.refl s) h q⟩⟩
def zu7 (hu:X.A.units+1<cLine):Op2 X (compareOp .In) (zox false):=⟨_,zsD hu,by
 rintro Hi H x y dx dy Q Q2 s d1 d2 ⟨ks,ds,rfl,rfl,q⟩ fin
 obtain ⟨a,o,rfl,g,r⟩:=zqT s d2 d1; refine ⟨a,o,rfl,g,?_⟩; rw [r.isSome]; exact fin Hi H _ _ (Ext.refl s) (.bl _) q⟩
def zny (hu:X.A.units+1<cLine):Op2 X (compareOp .NotIn) (zox true):=⟨_,zlg hu,by
 rintro Hi H x y dx dy Q Q2 s d1 d2 ⟨ks,ds,rfl,rfl,q⟩ fin
 obtain ⟨a,o,rfl,g,r⟩:=zqT s d2 d1; refine ⟨a,o,rfl,g,?_⟩; rw [r.isSome]; exact fin Hi H _ _ (Ext.refl s) (.bl _) q⟩
def zdX (i:Nat) (tk tv:TE'):TS':=fun N Γ=>tv Γ fun v Γ1=>(∃ ds0,Γ1[i]?=some (.own (.dit ds0)))/\tk Γ1 fun k Γ2=>∃ (ds:List (D × D)) (ks:List Key),Γ2[i]?=some (.own (.dit ds))/\k=.tup (ks.map keyD)/\ds.length<sizeLine/\N.nx (Γ2.set i (.own (.dit (zkm ds k v))))
def ziK (hu:X.A.units+1<cLine) (i:Nat) {x:Str} {k value:Expr} {tk tv:TE'} {p pos pos':Pos} (hk:PE' X k tk) (hv:PE' X value tv) (hN:X.N[i]?=some x:=by rfl) (hvi:Vis X.env.scope x:=by first | exact JA rfl | exact Yd (JA rfl) | exact Yd (Yd rfl)) (hd:yyD x:=by decide)
  (hcd:(x == ("__classdict__":Str))=false:=by decide) (hs:swapsWith value (some (.Subscript (.Name x p) k pos')) pos.line X.env=pure false:=by rfl) :
  PS' X (.Assign [.Subscript (.Name x p) k pos'] value pos) (zdX i tk tv):=by
 refine ⟨PS.weak (zk2 hu (zd1 (i:=i) (pos:=p) hN hvi hd hcd) hk.h hv.h hs) ?_⟩
 rintro N2 σ H ⟨W,Hi,Γ,N,g,q,l⟩
 have hi:i<X.N.length:=(yG.mp hN).1
 refine ⟨W,Hi,Γ,_,g,q,?_⟩
 rintro v H1 ⟨Hi1,d,Γ1,s1,g1,den,⟨ds0,e0⟩,q1⟩
 obtain ⟨a,h1,h2,h3,kvs0,ep0,h4,h5⟩:=g1.own i _ e0; refine ⟨.ref a,zjq hi h1,W,Hi1,Γ1,_,g1,q1,?_⟩
 rintro y H2 ⟨Hi2,dk,Γ2,s2,g2,den2,ds,ks,e2,rfl,hl,q2⟩
 obtain ⟨a',k1,k2,k3,kvs,ep,k4,k5⟩:=g2.own i _ e2; rw [h1] at k1; cases k1; obtain ⟨b,rfl,hb⟩:=zdw den2
 refine ⟨a,kvs,ep,ks,b,rfl,k4,rfl,g2.sub _ _ hb,by rw [zj k5]; exact hl,fun ep'=>?_⟩
 exact l.nx σ _ Hi2 _ (s1.trans s2) (g2.put (o:=.dit (zkm ds (.tup (ks.map keyD)) d)) e2 h1 ⟨_,_,zp,zuT k5 ks (den.mono s2)⟩) q2
instance {i:Nat} {tk tv:TE'} [ME tk] [ME tv]:MS (zdX i tk tv):=⟨fun N N' Γ h q=>ME.mono (t:=tv) _ _ _ (fun _ _ ⟨a,z⟩=>⟨a,ME.mono (t:=tk) _ _ _ (fun _ _ ⟨ds,ks,e1,e2,e3,w⟩=>⟨ds,ks,e1,e2,e3,h.nx _ w⟩) z⟩) q⟩
def Good.putN {K:W.Frag} {n:Nat} {W:Wd} {Hi H:Hp} {Γ:Sts} {σ:St} {p:Addr} {u:HO} (g:Good K n W Hi Γ σ H) (h0:Hi p=none) (h1:W.H₀ p=none) (ne:Free n W Γ σ p) (hu:∀ xs,u≠.tup xs):Good K n W Hi Γ σ (upd H p u):=by
 refine ⟨g.len,⟨fun b w q=>?_,fun b xs q=>?_⟩,fun b w q nf=>?_,fun b w q=>?_,g.fro,g.val,fun j o e=>?_,g.apart,fun j d b xs e=>?_⟩
 ·rw [zq (fun z=>by rw [z,h0] at q; cases q)]
  exact g.sub b w q
 ·by_cases hb:b=p
  ·subst hb
   rw [zp] at q; exact yN (Option.some.inj q) (hu xs)
  ·rw [zq hb] at q
   exact g.fz.tups b xs q
 ·rw [zq (fun z=>by rw [z,h1] at q; cases q)]
  exact g.keep b w q nf
 ·rw [zq (fun z=>by rw [z,h1] at q; cases q)]
  exact g.there b w q
 ·obtain ⟨b,q1,q2,q3,q4⟩:=g.own j o e
  have hb:b≠p:=fun z=>ne.own j o e (by rw [<- z]; exact q1)
  exact ⟨b,q1,q2,q3,q4.mono (zY.refl _) fun w hw=>by rw [zq hb]; exact hw⟩
 ·obtain ⟨p0,p1,p2,p3,p4,p5,p6⟩:=g.bk j d b xs e
  have hb:b≠p:=fun z=>ne.bk j _ _ (by rw [<- z]; exact e)
  exact ⟨p0,p1,p2,p3,p4.mono (zY.refl _) fun w hw=>by rw [zq hb]; exact hw,p5,p6⟩
def ziv (n:Nat) (tk tv:TE'):TO':=fun Γ Q=>tk (zbQ n Γ) fun k _=>Imm k/\tv (zbQ n Γ) fun v _=>Imm v/\(∃ ks:List Key,k=.tup (ks.map keyD))/\Q (.dit [(k,v)]) Γ
def zng (hu:X.A.units+1<cLine) {k v:Expr} {tk tv:TE'} {pos:Pos} (hk:PE' X k tk) (hv:PE' X v tv):PO' X (.Dict [some k] [v] pos) (ziv X.N.length tk tv):=by
 refine ⟨PE.weak (zlb hu hk.h hv.h) ?_⟩
 rintro σ H Q ⟨W,Hi,Γ,Q',g,h,fin⟩
 intro p hp; have new:=New.mk' (u:=.dE [] 0) (o:=.dit []) g hp ⟨[],0,zp,.nil⟩
 have e0:Ext Hi H Hi (upd H p (.dE [] 0)):=Ext.newO g.fz hp _ (fun _ z=>by cases z)
 have g0:=g.ext e0; obtain ⟨s1,g1⟩:=g0.look; refine ⟨_,_,_,_,g1,h,?_⟩
 rintro x H1 ⟨Hb,dk,Γ',sb,g',den,im,h'⟩
 obtain ⟨x1,y1,hd1⟩:=g0.unlook sb g'; have den1:=hd1 x dk im den; obtain ⟨s2,g2⟩:=y1.look; refine ⟨_,_,_,_,g2,h',?_⟩
 rintro y H2 ⟨Hc,dv,Γ'',sc,g'',den2,im2,⟨ks,rfl⟩,q⟩
 obtain ⟨x2,y2,hd2⟩:=y1.unlook sc g''; have den3:=hd2 y dv im2 den2
 have ep:H2 p=some (.dE [] 0):=x2.h _ _ (x1.h _ _ zp)
 have hi0:_=_:=(x2.fro p _ (x1.h _ _ zp)).trans (x1.fro p _ zp)
 obtain ⟨b,rfl,hb⟩:=zdw den1
 refine ⟨ep,b,ks,rfl,x2.h _ _ (y1.sub _ _ hb),fun ep'=>?_⟩
 refine fin p _ _ Γ (.dit [(.tup (ks.map keyD),dv)]) (x1.hi.trans x2.hi) (y2.putN (hi0.trans new.hi) new.h0 new.ne (fun _ z=>by cases z)) ⟨hi0.trans new.hi,new.h0,new.ne,⟨[(ks,y)],ep',zp,.cons ⟨rfl,den3⟩ .nil⟩⟩ q
end
end PL
namespace PySem
section
variable {dd kk:Addr} {ob:Obj} {ens:Array DictEntry} {tick nn:Nat}
def zbU (hob:s.heap.get? dd=some ob) (hex:ob.ExactDict):s.TypeIs (.ref dd) "dict":=⟨ob,hob,hex.1⟩
def zd2 {Q:Value->Shared->Prop} (hsys:(dd == sysModules)=false) (hob:s.heap.get? dd=some ob) (hex:ob.ExactDict) (hdt:ob.data=.dict ens tick)
  (fin:Q (.ref s.heap.objs.size) { s with heap:=s.heap.push { cls:=.type "dict_keyiterator",data:=.fields #[.ref dd,.int 0 0,.int ens.size 0,.int tick 0] } }) :
  wpAny (model prog w) A (pyIter (.ref dd)) Q E s:=by
 have ty:=zbU hob hex; refine wpAny_pyIter_slot ty F.slot_dict_iter (YU F.slot_dict_iter ty F.entry_dict_iter ?_ (F.args_dict_iter_1 _))
 unfold Builtin.«dict.__iter__» Builtin.Dict.dictSlotNone
 refine yA (yA (wpAny_notOrdered_dict ty ?_))
 show wpAny _ _ (pure (Value.ref dd)) _ _ s
 refine yF (show wpAny _ _ (Builtin.Dict.showsAll dd >>= _) _ _ s from ?_)
 unfold Builtin.Dict.showsAll
 rw [yK (by rw [hsys]; exact yO)]
 refine yA (yF (yA (wpAny_dictEntries hob hdt (yA (wpAny_dictEpoch hob hdt ?_))))); refine yA (YD (yF ⟨_,rfl,"dict_keyiterator",_,⟨_,yJ _ rfl,rfl⟩,F.slot_dict_keyiterator_next.lookup,?_⟩))
 simpa [rawInt] using fin
def zeR {ii:Nat} {Q:Option Value->Shared->Prop} (st:s.heap.IsKeyIter kk dd ii ens.size tick) (hob:s.heap.get? dd=some ob) (hdt:ob.data=.dict ens tick) (lt:ii<ens.size)
  (fin:∀ h2,h2.IsKeyIter kk dd (ii+1) ens.size tick->Heap.SameBut kk s.heap h2->Q (some ens[ii].key) { s with heap:=h2 }):wpAny (model prog w) A (pyNext (.ref kk)) Q E s:=by
 obtain ⟨ki,hki,hkc,hkd⟩:=id st; have ty:=st.typeIs; unfold pyNext; refine yA (wpAny_attempt (wpAny_callSpecial?_slot (name:=Str.ofString "__next__") ty F.slot_dict_keyiterator_next (YU F.slot_dict_keyiterator_next ty F.entry_dict_keyiterator_next ?_ (F.args_dict_keyiterator_next_1 _)))); refine yA (yF (yA (yA ?_)))
 first
  | refine yA (Yw ty (yF (yA (wpAny_fieldsOf hki hkd ?_))))
  | refine yA (wpAny_typeNameOf_keyiter ty (yF (yA (wpAny_fieldsOf hki hkd ?_))))
 simp only [show Builtin.Dict_items.ownsTuple "dict_keyiterator"=false by decide,YL,if_false]
 show wpAny _ _ (if (Value.ref dd == Value.none)=true then _ else _) _ _ s
 rw [yK (show ¬ ((Value.ref dd == Value.none)=true) from yO)]
 refine yA (yF (yA (wpAny_dictEntries hob hdt ?_)))
 rw [yK (by simp)]
 refine yA (yF (yA (wpAny_dictEpoch hob hdt ?_)))
 rw [yK (by simp)]
 refine yF ?_
 simp only [show ¬ ((ii:Int)<0) from by omega,if_false,JH,yu lt]
 refine yA ?_
 first
  | refine yA (Yw ty (yF (yA (wpAny_isOneOf_keyiter ty ?_))))
  | refine yA (wpAny_typeNameOf_keyiter ty (yF (yA (wpAny_isOneOf_keyiter ty ?_))))
 show wpAny _ _ (setField (.ref kk) 1 (rawInt ((ii:Int)+1)) >>= _) _ _ s
 have st2:(s.heap.update kk (Obj.mapFields (·.setIfInBounds 1 (rawInt ((ii:Int)+1))))).IsKeyIter kk dd (ii+1) ens.size tick :=
  ⟨_,Yc _ hki (Obj.isFreed_of_fields (Obj.data_mapFields hkd _)),(Obj.cls_mapFields ..).trans hkc,by rw [Obj.data_mapFields hkd]; simp [rawInt]⟩
 refine yA (Yt hki hkd (by simp) (yA (YW ?_)))
 refine yA (wpAny_isOneOf_keyiter (s:={ s with heap:=s.heap.update kk (Obj.mapFields (·.setIfInBounds 1 (rawInt ((ii:Int)+1)))) }) st2.typeIs ?_)
 show wpAny _ _ (pure ens[ii].key) _ _ _
 exact yF (yF ⟨_,rfl,yF (fin _ st2 (Heap.SameBut.update ..))⟩)
def zfu {ii:Nat} {Q:Option Value->Shared->Prop} (calm:A.handled=none) (st:s.heap.IsKeyIter kk dd ii ens.size tick) (hob:s.heap.get? dd=some ob) (hdt:ob.data=.dict ens tick) (ge:ens.size<=ii)
  (fin:∀ h2,Heap.ExtBut kk s.heap h2->Q none { s with heap:=h2 }):wpAny (model prog w) A (pyNext (.ref kk)) Q E s:=by
 obtain ⟨ki,hki,hkc,hkd⟩:=id st; have ty:=st.typeIs; unfold pyNext; refine yA (wpAny_attempt (wpAny_callSpecial?_slot (name:=Str.ofString "__next__") ty F.slot_dict_keyiterator_next (YU F.slot_dict_keyiterator_next ty F.entry_dict_keyiterator_next ?_ (F.args_dict_keyiterator_next_1 _)))); refine yA (yF (yA (yA ?_)))
 first
  | refine yA (Yw ty (yF (yA (wpAny_fieldsOf hki hkd ?_))))
  | refine yA (wpAny_typeNameOf_keyiter ty (yF (yA (wpAny_fieldsOf hki hkd ?_))))
 simp only [show Builtin.Dict_items.ownsTuple "dict_keyiterator"=false by decide,YL,if_false]
 show wpAny _ _ (if (Value.ref dd == Value.none)=true then _ else _) _ _ s
 rw [yK (show ¬ ((Value.ref dd == Value.none)=true) from yO)]
 refine yA (yF (yA (wpAny_dictEntries hob hdt ?_)))
 rw [yK (by simp)]
 refine yA (yF (yA (wpAny_dictEpoch hob hdt ?_)))
 rw [yK (by simp)]
 refine yF ?_
 simp only [show ¬ ((ii:Int)<0) from by omega,if_false,JH,Array.getElem?_eq_none ge]
 refine yA ?_
 first
  | refine yA (Yw ty (yF ?_))
  | refine yA (wpAny_typeNameOf_keyiter ty (yF ?_))
 show wpAny _ _ (setField (.ref kk) 0 .none >>= _) _ _ s
 refine yA (Yt hki hkd (by simp) (show wpAny _ _ (newExc (.type "StopIteration") [] >>= _) _ _ _ from yA ?_))
 simp only [newExc,newTuple]
 apply yA
 refine YD ?_ (by size_fits)
 refine yA (m:=firstArgMember _ _) (wpAny_of_eq (a:=Value.none) (by first | rfl | (simp only [firstArgMember]; rfl)) (YD ?_ (by size_fits)))
 simp only [raiseNew]; refine yA (wpAny_handled ?_)
 rw [show A.in1.handled=none from calm]
 refine (yA (yF (wpAny_throw ?_))); refine yA (wpAny_isInstance (T:="StopIteration") (b:=true) ⟨_,yJ _ rfl,rfl⟩ isSubtype_stop (yF (fin _ ?_))); exact ((Heap.SameBut.update ..).extBut.push _).push _
end
end PySem
namespace L2
open PySem PySem.Spec PyProof.Rows
def Ite (a:Addr) (kvs:List (List Key × V)) (ep:Nat):It :=
 ⟨fun i H=>H a=some (.dE kvs ep)/\i<kvs.length,fun i H x H'=>H'=H/\∃ k y b,kvs[i]?=some (k,y)/\x=.ref b/\H b=some (.tup (k.map kV)),fun i H=>H a=some (.dE kvs ep)/\kvs.length<=i⟩
def zky {P:Program} {w:World} {K:W.Frag} {tg:Expr} (a it:Addr) (kvs:List (List Key × V)) (ep:Nat):Turn P w K tg (Ite a kvs ep) [it] it (fun i h=>h.IsKeyIter it a i kvs.length ep) where
 mem:=by simp
 obj:=fun i h st b hb=>by
  have e:b=it:=by simpa using hb
  subst e; obtain ⟨o,e,c,d⟩:=st
  exact ⟨o,e,fun v z=>by rw [d] at z; cases z⟩
 keep:=fun i h h' st k=>st.at fun o e=>k it (by simp) o e
 item:=by
  intro X hP hw hK hc i pins s σ H E I hf st hg
  subst hP hw hK
  obtain ⟨hq,hi⟩:=hg; obtain ⟨z,hd,xs,rel,_,o,es,ho,hx,hdat,he⟩:=zfe I.hok hq
  obtain ⟨f0,f1,f2,f3,f4,f5⟩:=hf it (by simp)
  have hl:kvs.length=xs.length:=Paired.length rel
  have hs:es.size=kvs.length:=by
   have:=yi List.length he
   rw [yE,YC] at this; rw [this,hl]
  have hi':i<es.size:=by rw [hs]; exact hi
  have hix:i<xs.length:=by rw [<- hl]; exact hi
  have q:=PL.paired_get i rel (yC hi) (yC hix)
  have hk:es[i].key=.ref xs[i].2.1:=by
   have e1:es.toList[i]?=(xs.map (entryOfKey (tupleKind (mixKind X.prog X.w))))[i]?:=by rw [he]
   rw [yH,yC hix,Array.getElem?_toList,yu hi'] at e1; rw [Option.some.inj e1]; rfl
  rw [<- hs] at st
  refine zeR st ho hdat hi' fun h' st' sb=>?_
  have I1:Inv X pins σ H { s with heap:=h' }:=I.turned (t':=s.toks) (fun b o hb e=>(sb.2 b hb).trans e) f0 f1 f3 f4 f5
  rw [hs] at st'; obtain ⟨o2,e,c,d⟩:=id st'; rw [hk]
  exact ⟨_,rfl,zj3 (s:={ s with heap:=h' }) e c d (by decide) ⟨.ref xs[i].2.1,H,I1,rfl,⟨rfl,kvs[i].1,kvs[i].2,_,yC hi,rfl,q.2.1⟩,st',fun b hb=>(hf b hb).1⟩⟩
 done:=by
  intro X hP hw hK hc i pins s σ H E I hf st hg
  subst hP hw hK
  obtain ⟨hq,hi⟩:=hg; obtain ⟨z,hd,xs,rel,_,o,es,ho,hx,hdat,he⟩:=zfe I.hok hq
  obtain ⟨f0,f1,f2,f3,f4,f5⟩:=hf it (by simp)
  have hl:kvs.length=xs.length:=Paired.length rel
  have hs:es.size=kvs.length:=by
   have:=yi List.length he
   rw [yE,YC] at this; rw [this,hl]
  rw [<- hs] at st
  exact zfu (I.ok.hd hc) st ho hdat (by omega) fun h' eb=>⟨rfl,I.turned (t':=s.toks) (fun b o hb e=>eb b o hb e) f0 f1 f3 f4 f5⟩
 self:=fun _ _ _ _ _ st h=>wpAny_pyIter_keyiter st h
section
variable {tg:Expr}
def zvi (tl:TE):TI:=fun σ H R=>tl σ H fun x H1=>∃ a kvs ep,x=.ref a/\H1 a=some (.dE kvs ep)/\R (Ite a kvs ep) H1
def zpZ {l:Expr} {tl:TE} (hl:PE X l tl):PI X tg l (zvi tl):=by
 intro pins s σ H R I h
 refine thn (hl pins s σ H _ I h) fun v s1 ⟨x,H1,I1,r1,a,kvs,ep,e,hq,q⟩=>?_
 subst e; cases r1; obtain ⟨z,hd,xs,rel,_,o,es,ho,hx,hdat,he⟩:=zfe I1.hok hq
 have hs:es.size=kvs.length:=by
  have:=yi List.length he
  rw [yE,YC] at this; rw [this,Paired.length rel]
 refine zd2 hd ho hx hdat ?_
 refine ⟨s1.heap.objs.size,[s1.heap.objs.size],_,_,H1,rfl,I1.kept (t':=s1.toks) fun b o e=>yB _ e,zky a _ kvs ep,⟨_,yJ _ rfl,rfl,by rw [hs]; rfl⟩,fun b hb=>?_,q⟩
 have e:b=s1.heap.objs.size:=by simpa using hb
 subst e; exact I1.fpOk (yD _) (I1.hok.fresh (yD _))
end
end L2
namespace PL
open PySem L2
theorem zqC {K:W.Frag} {Hi:Hp}:∀ k:Key,Den K Hi (kV k) (keyD k)
 | .inl i=>.int i
 | .inr x=>by
  have e:kV (.inr x)=.str (st x.cps.toList):=by
   show V.str x=_
   rfl
  rw [e]; exact .str _
theorem zlK {K:W.Frag} {Hi:Hp}:∀ ks:List Key,zaU K Hi (ks.map kV) (ks.map keyD)
 | []=>.nil
 | k :: ks=>.cons (zqC k) (zlK ks)
def zn7 {K:W.Frag} {Hi:Hp} {a:Addr} {kvs:List (List Key × V)} {ep:Nat} {ds:List (D × D)} (h:Hi a=some (.dE kvs ep)) (r:zjs K Hi kvs ds):ItD K Hi (Ite a kvs ep) (ds.map (·.1)):=by
 intro Hi' H' s1 s2
 have hq:H' a=some (.dE kvs ep):=(s1.trans s2.sub) _ _ h
 have hl:=zj r
 refine ⟨fun i d e=>?_,hq,by rw [yE,hl]; exact yD _⟩
 rw [yH] at e
 cases hc:ds[i]? with
 | none=>rw [hc] at e; cases e
 | some q =>
  rw [hc] at e; cases e; obtain ⟨p,e1,e2⟩:=zX r hc; refine ⟨⟨hq,(yG.mp e1).1⟩,?_⟩
  rintro x H'' ⟨rfl,k,y,b,ek,rfl,hb⟩
  rw [e1] at ek; cases ek; refine ⟨Hi',Ext.refl s2,?_⟩
  show Den K Hi' (.ref b) q.1
  rw [e2.1]; exact Den.mkT (s2.tups _ _ hb) (zlK _)
def zcQ (t:TE'):TI':=fun Γ Q=>t Γ fun d Γ1=>∃ ds,d=.dit ds/\Q (ds.map (·.1)) Γ1
def zf0 {X:Cx} {l tg:Expr} {t:TE'} (hl:PE' X l t):PI' X tg l (zcQ t):=by
 refine ⟨PI.weak (zpZ hl.h) ?_⟩
 rintro σ H R ⟨W,Hi,Γ,Q',g,h,fin⟩
 refine ⟨W,Hi,Γ,_,g,h,?_⟩
 rintro v H1 ⟨Hi1,d,Γ1,s1,g1,den,ds,rfl,q⟩
 obtain ⟨a,kvs,ep,rfl,h1,h2⟩:=den.ditI; exact ⟨a,kvs,ep,rfl,g1.sub _ _ h1,fin _ H1 Hi1 Γ1 _ s1 g1 (zn7 h1 h2) q⟩
end PL
namespace PySem
section
variable {dd kk:Addr} {ob:Obj} {ens:Array DictEntry} {tick nn:Nat}
def zrT {Q:Value->Shared->Prop} (hsys:(dd == sysModules)=false) (hob:s.heap.get? dd=some ob) (hex:ob.ExactDict) (hdt:ob.data=.dict ens tick) (fin:Q (.int ens.size s.toks) { s with toks:=s.toks+1 }) :
  wpAny (model prog w) A (call (.builtin "dict.__len__") [.ref dd]) Q E s:=by
 have ty:=zbU hob hex; refine YU F.slot_dict_len ty F.entry_dict_len ?_ (F.args_dict_len_1 _)
 show wpAny _ _ (dictSize dd >>= _) _ _ s
 unfold dictSize
 refine yA (yA (wpAny_dictEntries hob hdt (yF (show wpAny _ _ (Builtin.Dict.pendingCount dd >>= _) _ _ s from yA (wpAny_pendingCount_other hsys ?_)))))
 refine wpAny_ret_mkInt ?_
 have z:((ens.size:Int)+((0:Nat):Int))=ens.size:=by omega
 first
  | exact fin
  | (rw [z]; exact fin)
  | (refine ⟨_,rfl,?_⟩; simpa using fin)
def zvb {Q:Value->Shared->Prop} (hsys:(dd == sysModules)=false) (hob:s.heap.get? dd=some ob) (hex:ob.ExactDict) (hdt:ob.data=.dict ens tick) (few:ens.size<=sizeLine) (fin:Q (.int ens.size (s.toks+1)) { s with toks:=s.toks+1+1 }) :
  wpAny (model prog w) A (call (.builtin "len") [.ref dd]) Q E s :=
 PyProof.Rows.call_len_slot (n:=ens.size) (zbU hob hex) F.slot_dict_len (fun Q' hq=>zrT hsys hob hex hdt hq) (by omega) (by rw [sizeLine_eq] at few; omega) fin
def zs6 {Q:Bool->Shared->Prop} (hob:s.heap.get? dd=some ob) (hex:ob.ExactDict) (fin:Q false s):wpAny (model prog w) A (Builtin.List.listLengthHint (.ref dd)) Q E s:=by
 have ty:=zbU hob hex; unfold Builtin.List.listLengthHint; refine yA (wpAny_specialOf ty F.slot_dict_len.lookup ?_); generalize hid:("dict.__len__":String)=id0
 wp_delta
 rw [show splitId id0=some ("dict","__len__") from by subst hid; decide +kernel]
 subst hid
 refine yA (wpAny_isInstance (T:="dict") (b:=true) ty (by rw [isSubtype_type]; kernel_rfl) ?_)
 refine wpAny_ite_split (fun z=>yN z (by decide)) (fun _=>?_)
 refine wpAny_ite_split (fun _=>?_) (fun z=>yN (by decide +kernel) z)
 refine yA (wpAny_typeOf ty ?_); exact yF fin
def zmK (calm:A.handled=none) (hne:dd≠kk) (hdt:ob.data=.dict ens tick):Walks prog w A kk [kk,dd] [kk] ens.size (fun i v=>∃ e,ens[i]?=some e/\v=e.key) (fun i h=>h.IsKeyIter kk dd i ens.size tick/\h.get? dd=some ob) where
 sub:=fun b hb=>by
  have e:b=kk:=by simpa using hb
  simp [e]
 frame:=fun _ _ _ st hk=>⟨st.1.at fun o e=>hk kk (by simp) o e,hk dd (by simp) _ st.2⟩
 item:=fun i s Q E hi st hQ=>zeR st.1 st.2 hdt hi fun h2 st2 sb=>hQ _ h2 s.toks ⟨_,yu hi,rfl⟩ ⟨st2,(sb.2 dd hne).trans st.2⟩ fun b o hb e=>(sb.2 b (fun z=>hb (by simp [z]))).trans e
 done:=fun s Q E st hQ=>zfu calm st.1 st.2 hdt (yD _) fun h2 eb=>hQ h2 s.toks fun b o hb e=>eb b o (fun z=>hb (by simp [z])) e
 self:=fun _ _ _ _ st hQ=>wpAny_pyIter_keyiter st.1 hQ
def zj7 {R:Result->Shared->Prop} {S:Addr} {res:Value} {c₀:Nat} (calm:A.handled=none) (hsys:(dd == sysModules)=false) (hob:s.heap.get? dd=some ob) (hex:ob.ExactDict) (hdt:ob.data=.dict ens tick) (few:ens.size<=sizeLine) (hne:S≠dd) (hS:s.heap.get? S=some { cls:=.type "list",data:=.seq #[] c₀ })
  (fin:∀ h2 tk acc c2,(∀ b o,b≠S->s.heap.get? b=some o->h2.get? b=some o)->h2.get? S=some { cls:=.type "list",dict:=none,data:=.seq acc c2,slots:=#[] }->ItemsOf (fun i v=>∃ e,ens[i]?=some e/\v=e.key) acc ens.size->R (.ok (.ret res)) { s with heap:=h2,toks:=tk }) :
  wpAny (model prog w) A.in1 (Builtin.List.listExtendWith (.ref S) (.ref dd) res) (fun f s'=>match f with | .done f=>R (.ok f) s' | .again c'=>c'.quiet=true/\codeAny (model prog w) A c' R s') (fun e s'=>R (.error e) s') s:=by
 have hSlt:S<s.heap.objs.size:=yI hS
 have hSI:S≠s.heap.objs.size:=yU hSlt
 have hdI:dd≠s.heap.objs.size:=yU (yI hob)
 have hSf:S ∉ [s.heap.objs.size,dd]:=fun hm=>by
  rcases yP.mp hm with z | z
  ·exact hSI z
  ·exact hne (yd.mp z)
 have W:=(zmK (prog:=prog) (w:=w) (A:=A.in1) (kk:=s.heap.objs.size) calm hdI hdt).toS
 have loop:∀ (h:Heap) (c₁ tk:Nat),h.IsKeyIter s.heap.objs.size dd 0 ens.size tick->h.get? dd=some ob->(∀ b o,b≠S->s.heap.get? b=some o->h.get? b=some o) ->
   h.get? S=some { cls:=.type "list",data:=.seq #[] c₁ }->codeAny (model prog w) A (.builtin "list.extend.loop" ⟨[.ref S,.ref s.heap.objs.size,res],[]⟩) R { s with heap:=h,toks:=tk }:=by
  intro h c₁ tk hit hod hk hS₁
  refine codeAny_extend_loopS W few S hSf res ens.size 0 _ #[] c₁ rfl (YB _) ⟨hit,hod⟩ hS₁ (ItemsOf.nil _) fun s' acc' c' hm hS' hacc=>?_
  rw [Moved.eq_with hm]
  refine fin s'.heap s'.toks acc' c' (fun b o hb e=>hm.heap b o (fun z=>?_) (hk b o hb e)) hS' hacc
  rcases yP.mp z with e' | z
  ·exact hb e'
  ·exact yN (yI e) (by rw [yd.mp z]; exact YX _)
 unfold Builtin.List.listExtendWith; refine yA (wpAny_typeOf (zbU hob hex) ?_)
 have h1:Builtin.List.listSameRef (.ref S) (.ref dd)=false:=by simp [Builtin.List.listSameRef,hne]
 simp only [h1,show (Value.type "dict" == Value.type "list")=false by decide,show (Value.type "dict" == Value.type "tuple")=false by decide,Bool.or_false,YL,if_false]
 refine yA (zd2 hsys hob hex hdt ?_); refine yA (YW (zs6 (yB _ hob) hex ?_))
 have hit₁:(s.heap.push { cls:=.type "dict_keyiterator",data:=.fields #[.ref dd,.int 0 0,.int ens.size 0,.int tick 0] }).IsKeyIter s.heap.objs.size dd 0 ens.size tick:=⟨_,yJ _ rfl,rfl,rfl⟩
 have hS₁:=yB { cls:=.type "dict_keyiterator",data:=.fields #[.ref dd,.int 0 0,.int ens.size 0,.int tick 0] } hS
 refine wpAny_ite_split (fun _=>?_) (fun _=>yF ⟨plainId_quiet F.plain_extend_loop _,loop _ c₀ _ hit₁ (yB _ hob) (fun b o _ e=>yB _ e) hS₁⟩)
 refine yA (wpAny_rule (yA ?_))
 show wpAny _ _ (updateSeq S (·.push .none) >>= fun _=>updateSeq S (·.pop)) _ _ _
 refine yA (wpAny_updateSeq hS₁ rfl ?_); have hS₂:=Yc (Obj.mapSeq (·.push Value.none)) hS₁ rfl
 refine wpAny_updateSeq (hz:=by seq_fits) hS₂ rfl ?_
 have hS₃:=Yc (Obj.mapSeq (·.pop)) hS₂ rfl
 have oth:∀ b o,b≠S->(s.heap.push { cls:=.type "dict_keyiterator",data:=.fields #[.ref dd,.int 0 0,.int ens.size 0,.int tick 0] }).get? b=some o->(((s.heap.push { cls:=.type "dict_keyiterator",data:=.fields #[.ref dd,.int 0 0,.int ens.size 0,.int tick 0] }).update S (Obj.mapSeq (·.push Value.none))).update S (Obj.mapSeq (·.pop))).get? b=some o :=
  fun b o hb e=>(yj _ _ (Ne.symm hb)).trans ((yj _ _ (Ne.symm hb)).trans e)
 exact yF ⟨plainId_quiet F.plain_extend_loop _,loop _ _ _ (hit₁.at fun o e=>oth _ o (Ne.symm hSI) e) (oth _ _ (Ne.symm hne) (yB _ hob)) (fun b o hb e=>oth b o hb (yB _ e)) hS₃⟩
def zn8 {R:Result->Shared->Prop} {S:Addr} (calm:A.handled=none) (hsys:(dd == sysModules)=false) (hob:s.heap.get? dd=some ob) (hex:ob.ExactDict) (hdt:ob.data=.dict ens tick) (few:ens.size<=sizeLine) (hne:S≠dd) (hS:s.heap.get? S=some { cls:=.type "list",data:=.seq #[] })
  (fin:∀ h2 tk acc c2,(∀ b o,b≠S->s.heap.get? b=some o->h2.get? b=some o)->h2.get? S=some { cls:=.type "list",dict:=none,data:=.seq acc c2,slots:=#[] }->ItemsOf (fun i v=>∃ e,ens[i]?=some e/\v=e.key) acc ens.size->R (.ok (.ret .none)) { s with heap:=h2,toks:=tk }) :
  wpAny (model prog w) A.in1 (Builtin.«list.__init__» ⟨[.ref S,.ref dd],[]⟩) (fun f s'=>match f with | .done f=>R (.ok f) s' | .again c'=>c'.quiet=true/\codeAny (model prog w) A c' R s') (fun e s'=>R (.error e) s') s:=by
 show wpAny _ _ (Builtin.List.listItems (.ref S) >>= fun old=>Builtin.List.listUpdate (.ref S) (fun _=>#[]) >>= fun _=>letGo old.toList.reverse >>= fun _=>Builtin.List.listExtendWith (.ref S) (.ref dd) .none) _ _ s
 unfold Builtin.List.listItems; refine yA (yA (Ye hS rfl (yF ?_)))
 show wpAny _ _ (updateSeq S (fun _=>#[]) >>= fun _=>letGo (#[]:Array Value).toList.reverse >>= fun _=>Builtin.List.listExtendWith (.ref S) (.ref dd) .none) _ _ s
 have hS₂:=Yc (Obj.mapSeq (fun _=>(#[]:Array Value))) hS rfl
 have oth:∀ b o,b≠S->s.heap.get? b=some o->(s.heap.update S (Obj.mapSeq (fun _=>(#[]:Array Value)))).get? b=some o:=fun b o hb e=>(yj _ _ (Ne.symm hb)).trans e
 refine yA (wpAny_updateSeq hS rfl (yA (wpAny_letGo ?_)))
 exact zj7 calm hsys (oth dd _ (Ne.symm hne) hob) hex hdt few hne hS₂ fun h2 tk acc c2 hk hS' hacc=>fin h2 tk acc c2 (fun b o hb e=>hk b o hb (oth b o hb e)) hS' hacc
def znK {Q:Value->Shared->Prop} (calm:A.handled=none) (hsys:(dd == sysModules)=false) (hob:s.heap.get? dd=some ob) (hex:ob.ExactDict) (hdt:ob.data=.dict ens tick) (few:ens.size<=sizeLine)
  (fin:∀ h2 tk acc c2,(∀ b o,s.heap.get? b=some o->h2.get? b=some o)->h2.get? s.heap.objs.size=some { cls:=.type "list",dict:=none,data:=.seq acc c2,slots:=#[] }->ItemsOf (fun i v=>∃ e,ens[i]?=some e/\v=e.key) acc ens.size->Q (.ref s.heap.objs.size) { s with heap:=h2,toks:=tk }) :
  wpAny (model prog w) A (call (.type "list") [.ref dd]) Q E s:=by
 refine callType_codes (Q₁:=fun obj s₁=>obj=.ref s.heap.objs.size/\s₁={ s with heap:=s.heap.push { cls:=.type "list",data:=.seq #[] } }) F.called_list (F.typeCall_list_1 _) F.entry_list_init (code_list_new _ ⟨rfl,rfl⟩) fun obj s₁ h₁=>?_
 obtain ⟨rfl,rfl⟩:=h₁
 have hS:(s.heap.push { cls:=.type "list",data:=.seq #[] }).get? s.heap.objs.size=some { cls:=.type "list",data:=.seq #[] }:=yJ _ rfl
 refine ⟨⟨_,hS,rfl⟩,F.args_list_init_2 _ _,zn8 (A:=A.in1) calm hsys (yB _ hob) hex hdt few (Ne.symm (yU (yI hob))) hS fun h2 tk acc c2 hk hS' hacc=>?_⟩
 exact ⟨rfl,fin h2 tk acc c2 (fun b o e=>hk b o (yU (yI e)) (yB _ e)) hS' hacc⟩
end
end PySem
namespace L2
open PySem PySem.Spec PyProof.Rows
section
def ztJ:Value->V
 | .ref b=>.ref b
 | _=>.non
def Inv.keys {pins:yyL} {σ:St} {H:Hp} {s:Shared} {a:Addr} {kvs:List (List Key × V)} {ep:Nat} (I:Inv X pins σ H s) (e:H a=some (.dE kvs ep)):kvs.length<=sizeLine/\(a == sysModules)=false/\∃ (o:Obj) (es:Array DictEntry),s.heap.get? a=some o/\o.ExactDict/\o.data=.dict es ep/\es.size=kvs.length /\
  ∀ (i:Nat) k y,kvs[i]?=some (k,y)->∃ b x,es[i]?=some x/\x.key=.ref b/\H b=some (.tup (k.map kV)):=by
 obtain ⟨z,hd,xs,rel,_,o,es,ho,hx,hdat,he⟩:=zfe I.hok e
 have hl:kvs.length=xs.length:=Paired.length rel
 have hs:es.size=kvs.length:=by
  have:=yi List.length he
  rw [yE,YC] at this; rw [this,hl]
 refine ⟨z,hd,o,es,ho,hx,hdat,hs,fun i k y hk=>?_⟩
 have hi:i<kvs.length:=(yG.mp hk).1
 have hix:i<xs.length:=by rw [<- hl]; exact hi
 have hi':i<es.size:=by rw [hs]; exact hi
 have q:=PL.paired_get i rel hk (yC hix); refine ⟨xs[i].2.1,es[i],yu hi',?_,q.2.1⟩
 have e1:es.toList[i]?=(xs.map (entryOfKey (tupleKind (mixKind X.prog X.w))))[i]?:=by rw [he]
 rw [yH,yC hix,Array.getElem?_toList,yu hi'] at e1; rw [Option.some.inj e1]; rfl
def zmj:zb6 X (.builtin "len") (fun xs H Q=>∃ a kvs ep,xs=[.ref a]/\H a=some (.dE kvs ep)/\Q (.int kvs.length) H):=by
 intro pins s σ H xs us Q I r h; obtain ⟨a,kvs,ep,rfl,e,q⟩:=h; obtain ⟨u,rfl,rx⟩:=zcH r; cases rx; obtain ⟨z,hd,o,es,ho,hx,hdat,hs,_⟩:=I.keys e
 refine zvb hd ho hx hdat (by rw [hs]; exact z) ?_
 rw [hs]; exact ⟨.int kvs.length,H,I.tok _,⟨_,rfl⟩,q⟩
def zj8 (hc:X.calm=true):zb6 X (.type "list") (fun xs H Q=>∃ a kvs ep,xs=[.ref a]/\H a=some (.dE kvs ep)/\∀ l ys,H l=none->ys.length=kvs.length->(∀ (i:Nat) k y,kvs[i]?=some (k,y)->∃ b,ys[i]?=some (.ref b)/\H b=some (.tup (k.map kV)))->Q (.ref l) (upd H l (.lst ys))):=by
 intro pins s σ H xs us Q I r h; obtain ⟨a,kvs,ep,rfl,e,q⟩:=h; obtain ⟨u,rfl,rx⟩:=zcH r; cases rx; obtain ⟨z,hd,o,es,ho,hx,hdat,hs,hk⟩:=I.keys e
 refine znK (I.ok.hd hc) hd ho hx hdat (by rw [hs]; exact z) fun h2 tk acc c2 kp e2 hit=>?_
 obtain ⟨hsz,hit⟩:=hit
 have each:∀ (j:Nat) v,acc[j]?=some v->∃ b k y,v=.ref b/\kvs[j]?=some (k,y)/\H b=some (.tup (k.map kV)):=fun j v hj=>by
  obtain ⟨x,hx1,rfl⟩:=hit j v hj
  have hjl:j<kvs.length:=by
   rw [<- hs]; exact (Yb.mp hx1).1
  obtain ⟨b,x',hx2,hb,ht⟩:=hk j kvs[j].1 kvs[j].2 (yC hjl); rw [hx1] at hx2; cases hx2; exact ⟨b,kvs[j].1,kvs[j].2,hb,yC hjl,ht⟩
 have hys:zah (acc.toList.map ztJ) acc.toList:=by
  refine PL.paired_of (by rw [yE]) fun j x v h1 h2=>?_
  rw [yH,h2] at h1
  obtain ⟨b,_,_,rfl,_⟩:=each j v (by rw [<- Array.getElem?_toList]; exact h2)
  cases h1; exact rfl
 have hl:(acc.toList.map ztJ).length=kvs.length:=by rw [yE,YC,hsz,hs]
 have I2:=I.laid (t':=tk) (o:=.lst (acc.toList.map ztJ)) kp (yD _) (show zap X.prog X.w _ h2 _ (.lst (acc.toList.map ztJ)) from ⟨by rw [hl]; exact z,acc.toList,c2,hys,by simpa using e2⟩)
 refine ⟨.ref s.heap.objs.size,_,I2,rfl,q _ _ (I.hok.fresh (yD _)) hl fun i k y hi=>?_⟩
 have hil:i<acc.size:=by rw [hsz,hs]; exact (yG.mp hi).1
 obtain ⟨b,k',y',hv,hk',ht⟩:=each i acc[i] (yu hil); rw [hi] at hk'; cases hk'; refine ⟨b,?_,ht⟩; rw [yH,Array.getElem?_toList,yu hil,hv]; rfl
end
end L2
namespace PL
open PySem L2
section
abbrev zom:=List D->(OD->Prop)->Prop
def zpa (K:W.Frag) (r:List V->Hp->VK->Prop) (r':zom):Prop:=∀ (Hi H:Hp) (vs:List V) (ds:List D) (Q:OD->Prop) (Q2:VK),Fz Hi H->zaU K Hi vs ds->r' ds Q ->
 (∀ Hi1 H1 p u o,Ext Hi H Hi1 H1->H1 p=none->(∀ xs,u≠.tup xs)->za5 K Hi1 (upd H1 p u) p o->Q o->Q2 (.ref p) (upd H1 p u))->r vs H Q2
structure CalO (X:Cx) (f:Value) (r':zom):Prop where
 ex:∃ r,zb6 X f r/\zpa X.K r r'
def CalO.or {f:Value} {r r':zom} (h:CalO X f r) (h':CalO X f r'):CalO X f (fun x Q=>r x Q\/r' x Q):=by
 obtain ⟨a,ha,la⟩:=h.ex; obtain ⟨b,hb,lb⟩:=h'.ex
 refine ⟨_,ha.or hb,fun Hi H vs ds Q Q2 s d q fin=>?_⟩
 rcases q with q | q
 ·exact .inl (la Hi H vs ds Q Q2 s d q fin)
 ·exact .inr (lb Hi H vs ds Q Q2 s d q fin)
def zkG (r:zom) (t:TA'):TO':=fun Γ Q=>t Γ fun ds Γ1=>r ds fun o=>Q o Γ1
def zpu {K:W.Frag} {n:Nat} {r:List V->Hp->VK->Prop} {r':zom} {t:TA'} {σ:St} {H:Hp} {Q:VK} (l:zpa K r r') (h:oOf K n (zkG r' t) σ H Q):tCB r (zuq K n t) σ H Q:=by
 obtain ⟨W,Hi,Γ,Q',g,h,fin⟩:=h; refine ⟨W,Hi,Γ,_,g,h,?_⟩; intro vs H1 Hi1 Γ1 ds s1 g1 dl h1; refine l Hi1 H1 vs ds _ _ g1.fz dl h1 ?_; intro Hi2 H2 p u o e hp hu own q; have g2:=g1.ext e; exact fin p _ Hi2 Γ1 o (s1.trans e.hi) (g2.ext (Ext.newO g2.fz hp u hu)) (New.mk' g2 hp own) q
variable {x:Str} {p pos:Pos} {e:Expr} {es:List Expr} {t:TA'} {id T:String}
def zfp {r':zom} (hc:CalO X (.type T) r') (hm:X.mg x=none) (hv:bootBuiltins x=some (.type T)) (ha:PA' X (e :: es) t) (hg:Gl X x:=by rfl) (hn:x≠"__name__":=by decide) (hdb:yyD x:=by decide):PO' X (.Call (.Name x p) (e :: es) [] pos) (zkG r' t):=by
 obtain ⟨r,ho,l⟩:=hc.ex; obtain ⟨p1,p2⟩:=zx ha.pl
 exact ⟨PE.weak (zgK ho hg hm hv ha.pa hn hdb (zS p1) (zae p2)) fun σ H Q q=>zpu l q⟩
def zfS:zom:=fun ds Q=>∃ d es,ds=[d]/\(d=.lst es\/d=.tup es)/\Q (.lst es)
def zto:CalO X (.type "list") zfS:=⟨_,zhm,by
 rintro Hi H vs ds Q Q2 s dl ⟨d,es,rfl,h,q⟩ fin
 obtain ⟨v,rfl,den⟩:=zdx dl
 rcases h with rfl | rfl
 ·obtain ⟨a,us,rfl,h1,h2⟩:=den.lstI
  exact ⟨a,us,rfl,.inl (zL s.sub h1),fun l hl=>fin Hi H l _ (.lst es) (Ext.refl s) hl (fun _ z=>by cases z) ⟨us,zp,h2⟩ q⟩
 ·obtain ⟨a,us,rfl,h1,h2⟩:=den.tupI
  exact ⟨a,us,rfl,.inr (zR s.sub h1),fun l hl=>fin Hi H l _ (.lst es) (Ext.refl s) hl (fun _ z=>by cases z) ⟨us,zp,h2⟩ q⟩⟩
def zd9:zom:=fun ds Q=>∃ es,ds=[.dit es]/\Q (.lst (es.map (·.1)))
def zq0 (hc:X.calm=true):CalO X (.type "list") zd9:=⟨_,zj8 hc,by
 rintro Hi H vs ds Q Q2 s dl ⟨es,rfl,q⟩ fin
 obtain ⟨v,rfl,den⟩:=zdx dl; obtain ⟨a,kvs,ep,rfl,h1,h2⟩:=den.ditI
 refine ⟨a,kvs,ep,rfl,s.sub _ _ h1,fun l ys hl hy hk=>fin Hi H l _ (.lst (es.map (·.1))) (Ext.refl s) hl (fun _ z=>by cases z) ⟨ys,zp,?_⟩ q⟩
 refine paired_of (by rw [hy,yE,zj h2]) fun i v d e1 e2=>?_
 rw [yH] at e2
 cases hc2:es[i]? with
 | none=>rw [hc2] at e2; cases e2
 | some q =>
  rw [hc2] at e2; cases e2; obtain ⟨p,ep,ep2⟩:=zX h2 hc2; obtain ⟨b,eb,hb⟩:=hk i p.1 p.2 ep; rw [e1] at eb; cases eb
  show Den X.K Hi (.ref b) q.1
  rw [ep2.1]; exact Den.mkT (s.tups _ _ hb) (zlK _)⟩
def zhJ:RC':=fun ds Q=>∃ es,ds=[.dit es]/\Q (.int es.length)
def ztp:Cal X (.builtin "len") zhJ:=⟨_,zmj,by
 rintro Hi H vs ds Q Q2 s dl ⟨es,rfl,q⟩ fin
 obtain ⟨v,rfl,den⟩:=zdx dl; obtain ⟨a,kvs,ep,rfl,h1,h2⟩:=den.ditI; refine ⟨a,kvs,ep,rfl,s.sub _ _ h1,?_⟩; rw [zj h2]; exact fin Hi H _ _ (Ext.refl s) (.int _) q⟩
instance:MRC zhJ:=⟨fun _ _ _ h ⟨es,a,q⟩=>⟨es,a,h _ q⟩⟩
end
end PL
namespace PySem
section
variable {S tt:Addr} {ob:Obj} {mine items:Array Value} {n c₀:Nat} {T:String}
end
end PySem
namespace L2
open PySem PySem.Spec PyProof.Rows
section
def zqh:OpR X (binaryOp .Add) (fun x y H Q=>∃ a b xs ys,x=.ref a/\y=.ref b/\SqL X.K H a xs/\SqL X.K H b ys/\xs.length+ys.length<=sizeLine/\∀ p,H p=none->Q (.ref p) (upd H p (.lst (xs ++ ys)))):=by
 intro pins s σ H x y v u Q I rx ry h; obtain ⟨a,b,xs,ys,rfl,rfl,ha,hb,hz,q⟩:=h; cases rx; cases ry; obtain ⟨its,r1,p1,_⟩:=I.list ha; obtain ⟨its2,r2,p2,_⟩:=I.list hb
 obtain ⟨⟨cls,dd,data,sl⟩,ho,hc,n,hd⟩:=id p1.isList
 obtain ⟨⟨cls2,dd2,data2,sl2⟩,ho2,hc2,n2,hd2⟩:=id p2.isList
 simp only at hc hd hc2 hd2
 subst hc hd hc2 hd2
 have ea:its.toArray ++ its2.toArray=(its ++ its2).toArray:=by simp
 refine concat_meets ⟨_,ho,rfl⟩ ⟨_,ho2,rfl⟩ noFill_list_add seq_list_add PySem.F.slot_list_add PySem.F.entry_list_add (PySem.F.args_list_add_2 _ _)
  (list_addW a b its.toArray its2.toArray n n2 dd dd2 sl sl2 (by rw [yQ,yQ,<- r1.length,<- r2.length]; exact hz)) ⟨ho,ho2,?_⟩
 rw [ea]
 exact ⟨.ref _,_,I.lnew (t':=s.toks) (r1.append r2) (by rw [yV]; exact hz),rfl,q _ I.fresh⟩
end
end L2
namespace PL
open PySem L2
section
abbrev ztv:=D->D->(OD->Prop)->Prop
def zty (K:W.Frag) (r:R2) (r':ztv):Prop:=∀ (Hi H:Hp) (x y:V) (dx dy:D) (Q:OD->Prop) (Q2:VK),Fz Hi H->Den K Hi x dx->Den K Hi y dy->r' dx dy Q ->
 (∀ Hi1 H1 p u o,Ext Hi H Hi1 H1->H1 p=none->(∀ xs,u≠.tup xs)->za5 K Hi1 (upd H1 p u) p o->Q o->Q2 (.ref p) (upd H1 p u))->r x y H Q2
structure Op2O (X:Cx) (f:Value->Value->Sem Value) (r':ztv):Prop where
 ex:∃ r,OpR X f r/\zty X.K r r'
def zpq (r:ztv) (ta tb:TE'):TO':=fun Γ Q=>ta Γ fun x Γ1=>tb Γ1 fun y Γ2=>r x y fun o=>Q o Γ2
def zse {a b:Expr} {op:Operator} {r':ztv} {ta tb:TE'} {pos:Pos} (h:Op2O X (binaryOp op) r') (ha:PE' X a ta) (hb:PE' X b tb):PO' X (.BinOp a op b pos) (zpq r' ta tb):=by
 obtain ⟨r,ho,l⟩:=h.ex; refine ⟨PE.weak (zsl ho ha.h hb.h) ?_⟩
 rintro σ H Q ⟨W,Hi,Γ,Q',g,h,fin⟩
 refine ⟨W,Hi,Γ,_,g,h,?_⟩
 rintro x H1 ⟨Hi1,dx,Γ1,s1,g1,den1,h1⟩
 refine ⟨W,Hi1,Γ1,_,g1,h1,?_⟩
 rintro y H2 ⟨Hi2,dy,Γ2,s2,g2,den2,h2⟩
 refine l Hi2 H2 x y dx dy _ _ g2.fz (den1.mono s2) den2 h2 ?_; intro Hi3 H3 p u o e hp hu own q; have g3:=g2.ext e; exact fin p _ Hi3 Γ2 o (s1.trans (s2.trans e.hi)) (g3.ext (Ext.newO g3.fz hp u hu)) (New.mk' g3 hp own) q
def zuR:ztv:=fun x y Q=>∃ xs ys,x=.lst xs/\y=.lst ys/\xs.length+ys.length<=sizeLine/\Q (.lst (xs ++ ys))
def zsL:Op2O X (binaryOp .Add) zuR:=⟨_,zqh,by
 rintro Hi H x y dx dy Q Q2 s d1 d2 ⟨xs,ys,rfl,rfl,hl,q⟩ fin
 obtain ⟨a,vs,rfl,h1,h2⟩:=d1.lstI; obtain ⟨b,us,rfl,h3,h4⟩:=d2.lstI
 exact ⟨a,b,vs,us,rfl,rfl,zL s.sub h1,zL s.sub h3,by rw [zj h2,zj h4]; exact hl,fun p hp=>fin Hi H p _ (.lst (xs ++ ys)) (Ext.refl s) hp (fun _ z=>by cases z) ⟨_,zp,zat h2 h4⟩ q⟩⟩
end
end PL
namespace L2
open PySem PySem.Spec PyProof.Rows
section
end
end L2
namespace PL
open PySem L2
section
end
end PL
namespace PySem
open PyProof.Rows
namespace F
end F
section
variable {tt rr:Addr} {items:Array Value}
end
end PySem
namespace L2
open PySem PySem.Spec PyProof.Rows
section
variable {tg:Expr}
end
end L2
namespace PL
open PySem L2
end PL
namespace X1
open PySem
def Ex (h:Heap) (e:Addr) (cl:Value) (dd:Option Addr) (vs:Array Value):Prop:=∃ sl,h.get? e=some ⟨cl,dd,.fields vs,sl⟩
def Ent (h:Heap) (T:Addr) (fl:Value):Prop:=∃ c d ts sl,h.get? T=some ⟨c,d,.fields ts,sl⟩/\ts[3]?=some fl
def Hd (h:Heap) (e:Addr) (vs:Array Value) (fl:Value) (R:Addr->Prop):Prop:=(vs[1]?=some .none/\fl=.none)\/∃ T,vs[1]?=some (.ref T)/\T≠e/\R T/\Ent h T fl
structure Kp (R:Addr->Prop) (fr:List Addr) (h h':Heap):Prop where
 keep:∀ b o,h.get? b=some o->¬ R b->b ∉ fr->h'.get? b=some o
 slot:∀ b o,h.get? b=some o->¬ R b->b ∈ fr->∃ sl,h'.get? b=some { o with slots:=sl }
 size:h.objs.size<=h'.objs.size
def upd_fields {h:Heap} {a:Addr} {c:Value} {d:Option Addr} {vs:Array Value} {sl:Array (Option Value)} {f:Array Value->Array Value} (e:h.get? a=some ⟨c,d,.fields vs,sl⟩):(h.update a (Obj.mapFields f)).get? a=some ⟨c,d,.fields (f vs),sl⟩ :=
 Yc _ e rfl
section
variable {M:Model} {env:Env} {outer:List Env} {L e:Addr} {cl fl:Value} {dd:Option Addr} {vs:Array Value} {R:Addr->Prop}
def zha {head:Value} {b:Bool} {Q:Unit->Shared->Prop} (hfr:A.frames=some (env :: outer)) (hl:s.heap.FunFrames base (env :: outer)) (hf:env.frame=some L) (he:Ex s.heap e cl dd vs) (hs:1<vs.size) (hR:R e)
  (q:∀ h' T vs',Ex h' e cl dd vs'->vs'[0]?=vs[0]?->vs'[1]?=some (.ref T)->T≠e->s.heap.objs.size<=T->Ent h' T (rawInt L)->Kp R ((env :: outer).filterMap (·.frame)) s.heap h'->Q () { s with heap:=h' }) :
  wpAny M A (do setField (.ref e) 1 (<- EntryCells.newEntry head (<- frameOf env) .none (rawInt L) .none (<- entryPlaceOf L b))) Q E s:=by
 obtain ⟨sl,he⟩:=he
 have hnf:e ∉ (env :: outer).filterMap (·.frame):=fun hm=>by
  obtain ⟨_,o,ho,nf⟩:=hl.mem hm; rw [he] at ho; cases ho; exact nf vs rfl
 refine yA (wpAny_frameOf_fun hfr hl hf fun h1 hs1=>?_)
 refine yA (wpAny_entryPlaceOf fun pl hpl=>?_)
 unfold EntryCells.newEntry newFields; refine yA (YD ?_ (hpl.sizeOk5 _ _ _ _ _))
 have he1:h1.get? e=some ⟨cl,dd,.fields vs,sl⟩:=(hs1.2.1 e hnf).trans he
 have hT:h1.objs.size≠e:=Nat.ne_of_gt (yI he1)
 have hsz:h1.objs.size=s.heap.objs.size:=hs1.1
 refine Yt (yB _ he1) rfl hs (q _ h1.objs.size _ ⟨sl,upd_fields (yB _ he1)⟩ (by rw [Array.getElem?_setIfInBounds_ne (by decide)]) (by simp [hs]) hT (Nat.le_of_eq hsz.symm) ?_ ?_)
 ·refine ⟨_,_,_,_,(yj _ _ (Ne.symm hT)).trans (yJ h1 rfl),?_⟩
  rcases hpl with rfl | ⟨_,_,_,_,_,_,_,rfl⟩ <;> simp
 ·refine ⟨fun c o ec n m=>?_,fun c o ec n m=>?_,?_⟩
  ·have hc:c≠e:=fun z=>n (by rw [z]; exact hR)
   rw [yj _ _ (Ne.symm hc)]; exact yB _ ((hs1.2.1 c m).trans ec)
  ·have hc:c≠e:=fun z=>n (by rw [z]; exact hR)
   obtain ⟨sl',hs'⟩:=hs1.2.2 c o ec; refine ⟨sl',?_⟩; rw [yj _ _ (Ne.symm hc)]; exact yB _ hs'
  ·rw [Heap.size_after_update,Ym,hsz]
   exact Nat.le_succ _
def note {Q:Unit->Shared->Prop} (hfr:A.frames=some (env :: outer)) (hl:s.heap.FunFrames base (env :: outer)) (hf:env.frame=some L) (he:Ex s.heap e cl dd vs) (hs:1<vs.size) (hd:Hd s.heap e vs .none R) (hR:R e)
  (q:∀ h' T vs',Ex h' e cl dd vs'->vs'[0]?=vs[0]?->vs'[1]?=some (.ref T)->T≠e->s.heap.objs.size<=T->Ent h' T (rawInt L)->Kp R ((env :: outer).filterMap (·.frame)) s.heap h'->Q () { s with heap:=h' }) :
  wpAny M A (noteFrame (.ref e) env) Q E s:=by
 unfold noteFrame; simp only [hf]; obtain ⟨sl,he'⟩:=id he
 rcases hd with ⟨h1,_⟩ | ⟨T,h1,hne,hRT,c,d,ts,sT,hT,h3⟩
 ·refine yA (YK he' rfl h1 ?_)
  rw [yK (by decide)]
  exact zha hfr hl hf he hs hR q
 ·refine yA (YK he' rfl h1 ?_)
  rw [yM (show (Value.ref T != Value.none)=true from by simp)]
  refine yA (YK hT rfl h3 ?_)
  rw [yK (show ¬ ((Value.none == rawInt L)=true) from by simp [rawInt])]
  refine yA (Yt hT rfl (Yb.mp h3).1 ?_)
  have oth:∀ b,b≠T->(s.heap.update T (Obj.mapFields (·.setIfInBounds 3 Value.none))).get? b=s.heap.get? b:=fun b hb=>yj _ _ (Ne.symm hb)
  have nR:∀ b o,s.heap.get? b=some o->(∀ vs,o.data≠.fields vs)->b≠T:=fun b o hb hn z=>by
   rw [z,hT] at hb; cases hb; exact hn ts rfl
  refine zha (s:={ s with heap:=_ }) hfr (hl.of_keeps fun b o hb hn=>⟨o,(oth b (nR b o hb hn)).trans hb,rfl⟩) hf ⟨sl,(oth e (Ne.symm hne)).trans he'⟩ hs hR fun h' T' vs' x1 x2 x3 x4 x5 x6 x7=>?_
  have hfree:s.heap.objs.size<=T':=by
   have y:=x5
   rwa [Heap.size_after_update] at y
  refine q h' T' vs' x1 x2 x3 x4 hfree x6 ⟨fun b o eb n m=>?_,fun b o eb n m=>?_,?_⟩
  ·have hb:b≠T:=fun z=>n (by rw [z]; exact hRT)
   exact x7.keep b o ((oth b hb).trans eb) n m
  ·have hb:b≠T:=fun z=>n (by rw [z]; exact hRT)
   exact x7.slot b o ((oth b hb).trans eb) n m
  ·have:=x7.size
   rwa [Heap.size_after_update] at this
def flight {T:Addr} {Q:Unit->Shared->Prop} (he:Ex s.heap e cl dd vs) (h1:vs[1]?=some (.ref T)) (hne:T≠e) (hT:Ent s.heap T fl) (hRT:R T) (q:∀ h',Ex h' e cl dd vs->Ent h' T .none->(∀ b,b≠T->h'.get? b=s.heap.get? b)->h'.objs.size=s.heap.objs.size->Q () { s with heap:=h' }) :
  wpAny M A (setFlight (.ref e) none) Q E s:=by
 obtain ⟨sl,he'⟩:=he; obtain ⟨c,d,ts,sT,hT,h3⟩:=hT; unfold setFlight; refine yA (YK he' rfl h1 ?_)
 rw [yM (show (Value.ref T != Value.none)=true from by simp)]
 have hsz:3<ts.size:=(Yb.mp h3).1
 have oth:∀ b,b≠T->(s.heap.update T (Obj.mapFields (·.setIfInBounds 3 ((none:Option Addr).elim Value.none fun f=>rawInt f)))).get? b=s.heap.get? b:=fun b hb=>yj _ _ (Ne.symm hb)
 exact Yt hT rfl hsz (q _ ⟨sl,(oth e (Ne.symm hne)).trans he'⟩ ⟨c,d,_,sT,upd_fields hT,by simp [hsz]⟩ oth (Heap.size_after_update ..))
def leave {Q:Unit->Shared->Prop} (hfr:A.frames=some (env :: outer)) (hl:s.heap.FunFrames base (env :: outer)) (hf:env.frame=some L) (he:Ex s.heap e cl dd vs) (hs:1<vs.size) (hd:Hd s.heap e vs .none R) (hR:R e)
  (q:∀ h' T vs',Ex h' e cl dd vs'->vs'[0]?=vs[0]?->1<vs'.size->vs'[1]?=some (.ref T)->T≠e->s.heap.objs.size<=T->Ent h' T .none->Kp R ((env :: outer).filterMap (·.frame)) s.heap h'->Q () { s with heap:=h' }) :
  wpAny M A (leaving env (.ref e)) Q E s:=by
 unfold leaving
 refine yA (note hfr hl hf he hs hd hR fun h1 T vs' x1 x2 x3 x4 x5 x6 x7=>?_)
 refine flight (s:={ s with heap:=h1 }) (R:=fun b=>R b\/b=T) x1 x3 x4 x6 (.inr rfl) fun h2 y1 y2 y3 y4=>?_
 refine q h2 T vs' y1 x2 (Yb.mp x3).1 x3 x4 x5 y2 ⟨fun b o eb n m=>?_,fun b o eb n m=>?_,?_⟩
 ·rw [y3 b (fun z=>yN (yT (yI eb) (by rw [z]; exact x5)) (YX _))]
  exact x7.keep b o eb n m
 ·rw [y3 b (fun z=>yN (yT (yI eb) (by rw [z]; exact x5)) (YX _))]
  exact x7.slot b o eb n m
 ·rw [y4]
  exact x7.size
end
structure XC (h:Heap) (C N:Addr) (bm:List Value) (nid:String):Prop where
 ex:∃ nm q bs hd sn sub ab col dd k0 k1 k2 k3 k5,h.get? C=some (excClassObj nm q C N bs bm hd sn sub ab col dd k0 k1 k2 k3 k5 nid)
abbrev zuG (C t:Addr):Obj:={ cls:=.ref C,data:=.fields #[.ref t,.none,.none,.none,.bool false,.none] }
abbrev tupX (vs:List Value):Obj:={ cls:=.type "tuple",data:=.seq vs.toArray }
abbrev madeX (h:Heap) (C:Addr) (vs:List Value):Heap:=(h.push (tupX vs)).push (zuG C h.objs.size)
def madeX_keep {h:Heap} {C:Addr} {vs:List Value}:∀ b o,h.get? b=some o->(madeX h C vs).get? b=some o:=fun _ _ e=>yB _ (yB _ e)
def madeX_at {h:Heap} {C:Addr} {vs:List Value}:(madeX h C vs).get? (h.objs.size+1)=some (zuG C h.objs.size):=by
 have:=yJ (h.push (tupX vs)) (o:=zuG C h.objs.size) rfl
 rwa [Ym] at this
section
variable {h:Heap} {g:Array GenState} {d:Drawn} {t:Nat} {os:OsState} {C N fI:Addr} {oI:Obj} {bm bmB:List Value} {B nid iid:String} {mN:Str->Option Value} {zbq:List Value}
def make_init {Q:Value->Shared->Prop} (F:ExcBaseFacts B nid iid bmB) (T:OwnTail h bmB bm) (X:XC h C N bm nid) (hn:h.Ns N mN) (hi:mN "__init__"=some (.ref fI)) (hf:h.get? fI=some oI) (hfc:oI.cls=.type "function") (hr:zbq.length<=sizeLine)
  (k:wpAny (model prog w) (A.under (.builtin "type.__call__" ⟨.ref C :: zbq,[]⟩)) (call (.ref fI) (.ref (h.objs.size+1) :: zbq)) (fun r s'=>r=.none/\Q (.ref (h.objs.size+1)) s') E ⟨madeX h C zbq,g,d,t,os⟩) :
  wpAny (model prog w) A (call (.ref C) zbq) Q E ⟨h,g,d,t,os⟩:=by
 obtain ⟨nm,q,bs,hd,sn,sub,ab,col,dd,k0,k1,k2,k3,k5,hC⟩:=X.ex; have f1:=tc_lookup; have f2:=tc_bind (.ref C)
 have hT:(⟨h,g,d,t,os⟩:Shared).TypeIs (.ref C) "type":=⟨_,hC,rfl⟩
 refine wpAny_call (codeAny_of_tree ?_)
 show wpAny _ _ (callAny (.ref C) _) _ _ _
 repeat (any_goals (first | assumption | with_reducible refine wpAny_loadPart_at hC ?_ | wp_step))
 refine ⟨rfl,?_⟩
 refine codeAny_call_builtin_at (Code.quiet_builtin _ (by decide +kernel)) entry_typeCall (wpAny_check_type_call_sub hC ?_)
 repeat (first | with_reducible refine wpAny_loadPart_at hC ?_ | with_reducible refine wpAny_madeBy_exc hC ?_ | wp_step)
 refine codeAny_call_builtin_code (Code.quiet_builtin _ F.quiet) (wpAny_check_new_subT F T hC ?_); refine codeAny_exc_new_subT F T hC ?_ hr
 show wpAny _ _ _ _ _ (⟨madeX h C zbq,g,d,t,os⟩:Shared)
 have hC1:=madeX_keep (C:=C) (vs:=zbq) _ _ hC; have hf1:=madeX_keep (C:=C) (vs:=zbq) _ _ hf
 have hn1:(madeX h C zbq).Ns N mN:=hn.keeps madeX_keep
 have hg1:=madeX_at (h:=h) (C:=C) (vs:=zbq); have T1:=T.keeps (madeX_keep (C:=C) (vs:=zbq))
 have hcC:(Value.ref C :: bm).contains (.ref C)=true:=by simp
 unfold isInstance
 repeat (first | with_reducible refine wpAny_loadPart_at hg1 ?_ | (with_reducible refine wpAny_isSubtype_exc hC1 ?_; rw [hcC]) | wp_step)
 show wpAny _ _ (typeLookup (.ref C) _) _ _ _
 refine wpAny_typeLookup_tail hC1 hn1 T1 F.mroIs F.init.lookup ?_; rw [hi]; refine YW (yA ?_); unfold bindSpecial; refine yA (wpAny_typeOf (T:="function") ⟨_,hf1,hfc⟩ ?_)
 rw [yM (by decide)]
 refine yF (yA (yp k (fun r s' hr=>?_) fun _ _ x=>x))
 obtain ⟨rfl,hQ⟩:=hr
 wp_walk
 exact hQ
end
section
variable {M:Model} {env:Env} {C N:Addr} {bm:List Value} {nid:String}
def raise_at {x:Sem Value} {Q:Flow->Shared->Prop} (hb:bm.contains (.type "BaseException")=true) (hh:A.handled=none)
  (h:wpAny M A x (fun v s1=>∃ e dd vs sl,v=.ref e/\XC s1.heap C N bm nid/\s1.heap.get? e=some ⟨.ref C,dd,.fields vs,sl⟩/\vs[1]?=some .none/\E (.ref e) s1) E s):wpAny M A (raiseStmt env (some x) none) Q E s:=by
 have hcB:(Value.ref C :: bm).contains (.type "BaseException")=true:=by rw [List.contains_cons,hb,Bool.or_true]
 unfold raiseStmt
 refine yA (yp h (fun v s1 h1=>?_) fun _ _ z=>z)
 obtain ⟨e,dd,vs,sl,rfl,X,he,hv,hE⟩:=h1; obtain ⟨nm,q,bs,hd,sn,sub,ab,col,dd',k0,k1,k2,k3,k5,hC⟩:=X.ex; obtain ⟨hp,g,d,tk,os⟩:=s1
 repeat (first | with_reducible refine wpAny_loadPart_at he ?_ | with_reducible refine wpAny_loadPart_at hC ?_ | (with_reducible refine wpAny_isSubtype_exc hC ?_; rw [hcB]) | wp_step)
 rw [hv]; refine yF ?_
 rw [yK (by decide)]
 exact yF (wpAny_raiseNew_none hh hE)
end
end X1
namespace X1
open PySem PySem.W
section
variable {K:Frag} {x C:Addr} {ox:Obj} {od:Option Obj} {name:Str}
structure XGet (K:Frag) (C:Addr):Prop where
 ga:findIn K (.ref C) "__getattribute__"=some (some (.builtin "BaseException.__getattribute__"))
 gr:findIn K (.ref C) "__getattr__"=some none
 sub:mroIn K C (.type "BaseException")=some true
def zjt {tk:Tok} {v:Value} {R:Result->Shared->Prop} (X:K.In s.heap) (I:InstAt s.heap x ox C od) (T:XGet K C) (hf:findObj K C od name=some (.value v)) (h:R (.ok (.ret v)) s) :
  codeAny (model prog w) A (.call (.builtin "BaseException.__getattribute__") ⟨[.ref x,.str name tk],[]⟩) R s:=by
 obtain ⟨hh',g,d,t,os⟩:=s; have L0:=I.type (M:=model prog w); have L1:=looks_find (M:=model prog w) X I hf
 have LI:Looks (model prog w) hh' (isInstance (.ref x) (.type "BaseException")) true:=L0.andThen (looks_mroIn X T.sub)
 have hk:builtinKind "BaseException.__getattribute__"=some .slot:=by decide +kernel
 have hsp:splitId "BaseException.__getattribute__"=some ("BaseException","__getattribute__"):=by decide +kernel
 refine codeAny_call_builtin F.excAttr_ValueError.ga.plain F.entry_bexc_ga (@check_slot (model prog w) _ _ _ "BaseException.__getattribute__" "BaseException" "__getattribute__" (.ref x) [.str name tk] [] _ hk hsp LI (F.args_bexc_ga (.ref x) (.str name tk)) ?_); refine yA (yF (yA (yF (yA (L0.at (yA (L1.at ?_))))))); exact yF h
def zko {tk:Tok} {fill expr:Bool} {v:Value} {Q:Value->Shared->Prop} (X:K.In s.heap) (I:InstAt s.heap x ox C od) (T:XGet K C) (h:∀ R:Result->Shared->Prop,R (.ok (.ret v)) s->codeAny (model prog w) A (.call (.builtin "BaseException.__getattribute__") ⟨[.ref x,.str name tk],[]⟩) R s)
  (hh:handedIn v=true) (q:Q v s):wpAny (model prog w) A (getAttrBy (.ref x) (.str name tk) fill expr) Q E s:=by
 obtain ⟨hh',g,d,t,os⟩:=s; have L0:=I.type (M:=model prog w); have L1:=looks_findIn (M:=model prog w) X T.ga; have L2:=looks_findIn (M:=model prog w) X T.gr; unfold getAttrBy; refine YW (yA (L0.at (yA (L1.at ?_))))
 show wpAny _ _ (if (onTheHeap (.ref C) && Value.builtin "BaseException.__getattribute__" == Value.builtin "object.__getattribute__")=true then _ else _) _ _ _
 rw [yK (by
  have z:(Value.builtin "BaseException.__getattribute__" == Value.builtin "object.__getattribute__")=false:=by decide +kernel
  rw [z,Bool.and_false]; exact yO)]
 unfold getAttrByItsOwn hookBefore; refine yA (L2.at ?_); refine yA (wpAny_attempt (YW ?_)); unfold callGetattribute
 rw [yK (by cases expr <;> decide)]
 unfold boundAndCalled; rw [F.excAttr_ValueError.ga.bind]; refine yA (yF (wpAny_call (h _ ?_)))
 show wpAny _ _ (handedOut v) _ _ _
 rw [handedOut_of hh]; exact yF q
def xget {expr:Bool} {v:Value} {Q:Value->Shared->Prop} (X:K.In s.heap) (I:InstAt s.heap x ox C od) (T:XGet K C) (hf:findObj K C od name=some (.value v)) (hh:handedIn v=true) (q:Q v { s with toks:=s.toks+1 }):wpAny (model prog w) A (getAttr (.ref x) name expr) Q E s:=by
 unfold getAttr
 exact yA (wpAny_mkText (zko (s:={ s with toks:=s.toks+1 }) X I T (fun R hR=>zjt (s:={ s with toks:=s.toks+1 }) X I T hf hR) hh q))
def zju {tk:Tok} {R:Result->Shared->Prop} (X:K.In s.heap) (I:InstAt s.heap x ox C od) (T:XGet K C) (hf:findObj K C od "__class__"=some (.bind (.builtin "getset_descriptor.__get__") (.builtin "object.__class__"))) (hm:mroIn K C (.type "object")=some true)
  (h:R (.ok (.ret (.ref C))) s):codeAny (model prog w) A (.call (.builtin "BaseException.__getattribute__") ⟨[.ref x,.str "__class__" tk],[]⟩) R s:=by
 obtain ⟨hh',g,d,t,os⟩:=s; have L0:=I.type (M:=model prog w); have L1:=looks_find (M:=model prog w) X I hf
 have LI:Looks (model prog w) hh' (isInstance (.ref x) (.type "BaseException")) true:=L0.andThen (looks_mroIn X T.sub)
 have hk:builtinKind "BaseException.__getattribute__"=some .slot:=by decide +kernel
 have hsp:splitId "BaseException.__getattribute__"=some ("BaseException","__getattribute__"):=by decide +kernel
 refine codeAny_call_builtin F.excAttr_ValueError.ga.plain F.entry_bexc_ga (@check_slot (model prog w) _ _ _ "BaseException.__getattribute__" "BaseException" "__getattribute__" (.ref x) [.str "__class__" tk] [] _ hk hsp LI (F.args_bexc_ga (.ref x) (.str "__class__" tk)) ?_); refine yA (yF (yA (yF (yA (L0.at (yA (L1.at ?_)))))))
 show wpAny _ _ (Builtin.ObjectAttr.bindTo (.builtin "getset_descriptor.__get__") (.builtin "object.__class__") (.ref x) (.ref C)) _ _ _
 show wpAny _ _ (do let r <- holding [Value.builtin "object.__class__"] (call (.builtin "getset_descriptor.__get__") [.builtin "object.__class__",.ref x,.ref C]); ret r) _ _ _
 exact yA (YW (wpAny_call (class_get (ox:=ox) (od:=od) X I hm (yF h))))
def xget_class? {Q:Option Value->Shared->Prop} (X:K.In s.heap) (I:InstAt s.heap x ox C od) (T:XGet K C) (hf:findObj K C od "__class__"=some (.bind (.builtin "getset_descriptor.__get__") (.builtin "object.__class__"))) (hm:mroIn K C (.type "object")=some true)
  (h:Q (some (.ref C)) { s with toks:=s.toks+1 }):wpAny (model prog w) A (getAttr? (.ref x) "__class__") Q E s:=by
 unfold getAttr? getAttrBy?
 refine yA (wpAny_mkText (yA (wpAny_attempt ?_)))
 exact zko (s:={ s with toks:=s.toks+1 }) X I T (fun R hR=>zju (s:={ s with toks:=s.toks+1 }) X I T hf hm hR) rfl (yF h)
end
structure XIs (K:Frag) (C:Addr):Prop extends XGet K C where
 cl:(clsIn K C).isSome=true
 ha:findIn K (.ref C) "__class__"=some (some (.builtin "object.__class__"))
 hn:specialIn K (.builtin "object.__class__") "__get__"=some (some (.builtin "getset_descriptor.__get__"))
 tk:takesIn K (.builtin "object.__class__")=some true
 ob:mroIn K C (.type "object")=some true
def zid {K:Frag} {C:Addr} {a g:Value} {od:Option Obj} {name:Str} (hc:(clsIn K C).isSome=true) (ha:findIn K (.ref C) name=some (some a)) (hg:specialIn K a "__get__"=some (some g)) (ht:takesIn K a=some true):findObj K C od name=some (.bind g a):=by
 obtain ⟨cd,e⟩:=YH.mp hc; unfold findObj; rw [e,Option.bind_some,ha]; simp [hg,ht]
def kitx_exc {K:Frag} {x C:Addr} (T:XIs K C):KitX K (.ref x) (.ref C) (fun h=>∃ ox od,InstAt h x ox C od) where
 ty:=fun _ _ _ ⟨_,_,I⟩=>I.type
 it:=fun _ _ X _=>by
  have hcD:=T.cl; unfold clsIn at hcD; split at hcD
  ·rename_i c' d' cd' sl' ho
   intro A' Q' E' s' k q; unfold isType loadHead; exact yA (wpAny_loadPart (k _ _ (X _ _ ho)) (yF q))
  ·cases hcD
 ne:=fun h tp dd its n sl X htp=>by
  have hcD:=T.cl
  refine Bool.eq_false_iff.mpr fun q=>?_
  have e:C=tp:=Value.ref.inj (beq_iff_eq.mp q)
  subst e; unfold clsIn at hcD; split at hcD
  ·rename_i c' d' cd' sl' ho
   have z:=(X _ _ ho).symm.trans htp; cases z
  ·cases hcD
 ca:=fun X ⟨_,_,I⟩ k=>xget_class? X I T.toXGet (zid T.cl T.ha T.hn T.tk) T.ob k
end X1
namespace L2
open PySem PySem.Spec PyProof.Rows
structure InsT (K:W.Frag) (C:Addr):Prop where
 cl:Cls K C
 ha:W.findIn K (.ref C) "__class__"=some (some (.builtin "object.__class__"))
 hn:W.specialIn K (.builtin "object.__class__") "__get__"=some (some (.builtin "getset_descriptor.__get__"))
 htk:W.takesIn K (.builtin "object.__class__")=some true
 hm:W.mroIn K C (.type "object")=some true
def TyA (K:W.Frag) (H:Hp) (x:V) (t:Value):Prop:=(∃ n,t=.type n/\ztz K H x n)\/(∃ a C dx fs,x=.ref a/\H a=some (.ins C dx fs)/\t=.ref C/\InsT K C)\/∃ a C dd,x=.ref a/\H a=some (.ext (XAt a C dd))/\(∀ dx,dd=some dx->∃ fs,H dx=some (.xd fs))/\t=.ref C/\X1.XIs K C
def zvu:V->Option Value
 | .ty n=>some (.type n)
 | .ref C=>some (.ref C)
 | _=>none
def zoj {c:V} {u v:Value} (r:zaw c u) (h:zvu c=some v):u=v:=by
 cases c with
 | ty n=>cases h; exact r
 | ref C=>cases h; exact r
 | _=>cases h
def zc8 {K:W.Frag} {C D':Addr} {b:Bool} (hd:W.hasDictIn K D'=true) (ht:W.typeIn K (.ref D')=some (.type "type")) (hm:W.mroIn K C (.ref D')=some b) (hne:b=true\/(Value.ref C == Value.ref D')=false):W.kitOne K (.ref C) (.ref D')=some b:=by
 have hc:(W.clsIn K D').isSome=true:=by
  obtain ⟨cd,e,_⟩:=W.any_some hd; rw [e]; rfl
 have hk:W.kitCls K (.ref C) (.ref D')=some b:=by
  show (if ((W.clsIn K D').isSome && W.typeIn K (.ref D') == some (.type "type"))=true then W.subIn K (.ref C) (.ref D') else none)=some b
  rw [hc,ht,yM (by simp)]
  exact hm
 unfold W.kitOne
 by_cases e:(Value.ref C == Value.ref D')=true
 ·rw [yM e]
  rcases hne with h | h
  ·rw [h]
  ·rw [h] at e
   cases e
 ·rw [yK e]
  exact hk
section
def zpm {pins:yyL} {σ:St} {H:Hp} {s:Shared} {x:V} {u t:Value} (I:Inv X pins σ H s) (r1:zaw x u) (ty:TyA X.K H x t):∃ Hh,W.KitX X.K u t Hh/\Hh s.heap/\u≠.builtin "__main__.__loader__#opaque":=by
 rcases ty with ⟨n,rfl,ty⟩ | ⟨a,C,dx,fs,rfl,ea,rfl,T⟩ | ⟨a,C,dd,rfl,ea,hdd,rfl,T⟩
 ·cases x with
  | non=>cases (show n=_ from ty); cases (show u=Value.none from r1); exact ⟨_,W.kitx_none,True.intro,fun z=>nomatch z⟩
  | bl y=>cases (show n=_ from ty); cases (show u=Value.bool y from r1); exact ⟨_,W.kitx_bool,True.intro,fun z=>nomatch z⟩
  | int i=>cases (show n=_ from ty); obtain ⟨tk,z⟩:=(show ∃ t,u=Value.int i t from r1); cases z; exact ⟨_,W.kitx_int,True.intro,fun z=>nomatch z⟩
  | str y=>cases (show n=_ from ty); obtain ⟨tk,z⟩:=(show ∃ t,u=Value.str y t from r1); cases z; exact ⟨_,W.kitx_str,True.intro,fun z=>nomatch z⟩
  | ref a =>
   cases (show u=Value.ref a from r1)
   rcases ty with ⟨rfl,xs,hq⟩ | ⟨rfl,xs,hq⟩ | ⟨rfl,hq⟩
   ·obtain ⟨its,_,p,_⟩:=I.list hq
    obtain ⟨o,n,e1,c1,_⟩:=p
    exact ⟨_,W.kitx_list,⟨o,e1,c1⟩,fun z=>nomatch z⟩
   ·obtain ⟨its,_,p,_⟩:=I.tuple hq
    obtain ⟨o,h1,h2,_⟩:=p
    exact ⟨_,W.kitx_tuple,⟨o,h1,h2⟩,fun z=>nomatch z⟩
   ·have z:∃ o,s.heap.get? a=some o/\o.ExactDict:=by
     rcases hq with ⟨kvs,hq⟩ | ⟨kvs,hq⟩
     ·obtain ⟨_,_,_,_,o,_,_,e,ex,_⟩:=hq.ok I.hok
      exact ⟨o,e,ex⟩
     ·obtain ⟨_,_,_,_,o,_,_,e,ex,_⟩:=hq.ok I.hok
      exact ⟨o,e,ex⟩
    obtain ⟨o,h1,h2⟩:=z
    exact ⟨_,W.kitx_dict,⟨o,h1,h2.1⟩,fun z=>nomatch z⟩
  | _=>exact False.elim ty
 ·cases (show u=Value.ref a from r1)
  obtain ⟨mA,O,_⟩:=zlN I.hok ea; obtain ⟨od,J,_⟩:=O.look
  exact ⟨_,W.kitx_own (T.cl.get _) T.cl.hd T.ha T.hn T.htk T.hm,J,fun z=>nomatch z⟩
 ·cases (show u=Value.ref a from r1)
  obtain ⟨⟨vs,sl,hx⟩,_⟩:=(show zap X.prog X.w H s.heap a (.ext (XAt a C dd)) from I.hok a _ ea)
  refine ⟨_,X1.kitx_exc T,?_,fun z=>nomatch z⟩
  cases dd with
  | none=>exact ⟨_,none,hx,rfl,rfl,True.intro⟩
  | some dx =>
   obtain ⟨fs,hf⟩:=hdd dx rfl
   obtain ⟨mA,⟨o,es,ep,ho,_⟩,_⟩:=(show zap X.prog X.w H s.heap dx (.xd fs) from I.hok dx _ hf)
   exact ⟨_,some o,hx,rfl,rfl,ho⟩
def zmk:zb6 X (.builtin "isinstance") (fun xs H Q=>∃ x t cv c b,xs=[x,cv]/\zvu cv=some c/\TyA X.K H x t/\W.kitOne X.K t c=some b/\Q (.bl b) H):=by
 intro pins s σ H xs us Q I r h; obtain ⟨x,t,cv,c,b,rfl,hc,ty,e,q⟩:=h; obtain ⟨u,w',rfl,r1,r2⟩:=zkw r
 cases zoj r2 hc
 obtain ⟨Hh,kx,hp,ne⟩:=zpm I r1 ty
 exact W.kia_one kx I.kIn hp e ne fun tk=>⟨.bl b,H,I.tok _,rfl,q⟩
end
end L2
namespace PL
open PySem L2
section
variable {pos:Pos}
theorem zmD.look {K:W.Frag} {H:Hp} {f:Str} {d:D}:∀ {fs:List (Str × V)} {ds:List (Str × D)},zmD K H fs ds->ds.lookup f=some d->∃ v,fs.lookup f=some v/\Den K H v d
 | _,_,.nil,h=>by simp at h
 | p :: fs,q :: ds,.cons r t,h=>by
  obtain ⟨p1,p2⟩:=p; obtain ⟨q1,q2⟩:=q; obtain ⟨r1,r2⟩:=r
  dsimp only at r1 r2
  subst r1
  by_cases e:f=q1
  ·have hb:(f == q1)=true:=beq_iff_eq.mpr e
   simp only [List.lookup,hb] at h ⊢; cases h; exact ⟨_,rfl,r2⟩
  ·have hb:(f == q1)=false:=beq_eq_false_iff_ne.mpr e
   simp only [List.lookup,hb] at h ⊢; exact zmD.look t h
def zcj {x:Str} {C:Addr} (hm:X.mg x=some (.ref C)) (hg:Gl X x:=by rfl) (hd:yyD x:=by decide):PE' X (.Name x pos) (tC' (.cls C)):=zss (v:=.ref C) hm rfl (fun _=>.cls C) hg hd
def zt9:D->Option Value
 | .ty n=>some (.type n)
 | .cls C=>some (.ref C)
 | _=>none
def zqY {K:W.Frag} {H:Hp} {v:V} {d:D} {c:Value} (h:Den K H v d) (e:zt9 d=some c):zvu v=some c:=by
 cases h with
 | ty n=>exact e
 | cls C=>exact e
 | _=>cases e
def TyD (K:W.Frag) (d:D) (t:Value):Prop:=(∃ n,t=.type n/\zqy d=some n)\/(∃ C fs,d=.obj C fs/\t=.ref C/\InsT K C)\/∃ C fs,d=.exc C fs/\t=.ref C/\X1.XIs K C
def TyD.ok {K:W.Frag} {Hi H:Hp} {x:V} {d:D} {t:Value} (s:zY Hi H) (den:Den K Hi x d) (h:TyD K d t):TyA K H x t:=by
 rcases h with ⟨n,rfl,h⟩ | ⟨C,fs,rfl,rfl,T⟩ | ⟨C,fs,rfl,rfl,T⟩
 ·exact .inl ⟨n,rfl,zn1 s den h⟩
 ·obtain ⟨a,dx,fvs,rfl,ha,_⟩:=den.objI
  exact .inr (.inl ⟨a,C,dx,fvs,rfl,s _ _ ha,rfl,T⟩)
 ·obtain ⟨a,dd,rfl,ha,xd⟩:=den.excI
  refine .inr (.inr ⟨a,C,dd,rfl,s _ _ ha,fun dx e=>?_,rfl,T⟩)
  rcases xd with ⟨e',_⟩ | ⟨dx',fs',e',hf,_⟩
  ·rw [e'] at e; cases e
  ·rw [e'] at e
   cases e; exact ⟨fs',s _ _ hf⟩
def zex (K:W.Frag):RC':=fun ds Q=>∃ d t cd c b,ds=[d,cd]/\zt9 cd=some c/\TyD K d t/\W.kitOne K t c=some b/\Q (.bl b)
def ztq:Cal X (.builtin "isinstance") (zex X.K):=⟨_,zmk,by
 rintro Hi H vs ds Q Q2 s dl ⟨d,t,cd,c,b,rfl,hc,ty,e,q⟩ fin
 obtain ⟨v,w,rfl,d1,d2⟩:=zhd dl; exact ⟨v,t,w,c,b,rfl,zqY d2 hc,ty.ok s.sub d1,e,fin Hi H _ _ (Ext.refl s) (.bl _) q⟩⟩
end
end PL
namespace L2
open PySem PySem.Spec PyProof.Rows
section
variable {a:Addr} {y d:V} {u r:Value} {o:Option V}
end
section
variable {o e f:Expr} {apos cpos:Pos} {td ty tx:TE}
end
def zjD {a b c:Int} (ha:-(2 ^ 60)<=a) (ha':a<2 ^ 60) (hb:-(2 ^ 60)<=b) (hb':b<2 ^ 60) (hc:-(2 ^ 30)<c) (hc':c<2 ^ 30):Builtin.Range.small a b c=true:=by
 have h1:=PyProof.Rows.rangeSize_toNat a b c; have h2:=PyProof.Rows.rangeSize_toNat_le a b c; unfold Builtin.Range.small; simp only [Builtin.Range.rangeFitsLong,yr,Bool.or_eq_true,YE,beq_iff_eq]
 refine ⟨⟨⟨⟨by omega,by omega⟩,by omega⟩,by omega⟩,.inr ?_⟩
 split <;> (simp [Builtin.Range.rangeFitsLong]; omega)
def zud (lo c:Int) (n:Nat):It:=⟨fun i _=>i<n,fun i H x H'=>H'=H/\x=.int (lo+(i:Nat) * c),fun i _=>n<=i⟩
def zhw {P:Program} {w:World} {K:W.Frag} {tg:Expr} (it:Addr) (lo c:Int) (n:Nat):Turn P w K tg (zud lo c n) [it] it (fun i h=>IsRangeIter h it (lo+(i:Nat) * c) ((n:Int)-(i:Nat)) c) where
 mem:=by simp
 obj:=fun i h st b hb=>by
  have e:b=it:=by simpa using hb
  subst e
  exact ⟨_,st,fun v z=>by
   have z':Data.fields _=Data.cell v:=z
   cases z'⟩
 keep:=fun i h h' st k=>k it (by simp) _ st
 item:=by
  intro X hP hw hK hc i pins s σ H E I hf st hg
  subst hP hw hK
  obtain ⟨f0,f1,f2,f3,f4,f5⟩:=hf it (by simp)
  have W:=Walks.range (prog:=X.prog) (w:=X.w) (I.ok.hd hc) it lo c n
  refine W.item i s _ _ hg st fun v h' tk hv st' kk=>?_
  obtain ⟨t,rfl⟩:=hv
  have I1:Inv X pins σ H { s with heap:=h',toks:=tk }:=I.turned (fun b o hb e=>kk b o (by simpa using hb) e) f0 f1 f3 f4 f5
  exact ⟨_,rfl,zj3 (s:={ s with heap:=h',toks:=tk }) (n:="range_iterator") st' rfl rfl (by decide) ⟨.int (lo+(i:Nat) * c),H,I1,⟨t,rfl⟩,⟨rfl,rfl⟩,st',fun b hb=>(hf b hb).1⟩⟩
 done:=by
  intro X hP hw hK hc i pins s σ H E I hf st hg
  subst hP hw hK
  obtain ⟨f0,f1,f2,f3,f4,f5⟩:=hf it (by simp)
  exact wpAny_pyNext_range_end (I.ok.hd hc) st (by have:n<=i:=hg; omega) fun h' eb=>⟨rfl,I.turned (t':=s.toks) (fun b o hb e=>eb b o hb e) f0 f1 f3 f4 f5⟩
 self:=fun _ _ _ _ _ st h=>wpAny_pyIter_rangeiter st h
section
variable {tg:Expr}
def zkT {pins:yyL} {σ:St} {H:Hp} {s:Shared} {R:It->Hp->Prop} {E:Value->Shared->Prop} {lo hi c:Int} {t u v:Tok} {tk:Nat} (I:Inv X pins σ H s) (h1:-(2 ^ 60)<=lo) (h2:lo<2 ^ 60) (h3:-(2 ^ 60)<=hi) (h4:hi<2 ^ 60) (h5:-(2 ^ 30)<c) (h6:c<2 ^ 30)
  (q:R (zud lo c (Builtin.Range.rangeSize lo hi c).toNat) H):wpAny (model X.prog X.w) X.A (pyIter (.ref s.heap.objs.size)) (PIE X pins σ tg R) E { s with heap:=s.heap.push { cls:=.type "range",data:=.fields #[.int lo t,.int hi u,.int c v] },toks:=tk }:=by
 refine wpAny_pyIter_range (IsRange.new ..) (zjD h1 h2 h3 h4 h5 h6) ?_
 have I1:Inv X pins σ H { s with heap:=s.heap.push { cls:=.type "range",data:=.fields #[.int lo t,.int hi u,.int c v] },toks:=tk }:=I.kept fun b o e=>yB _ e
 refine ⟨(s.heap.push { cls:=.type "range",data:=.fields #[.int lo t,.int hi u,.int c v] }).objs.size,[(s.heap.push { cls:=.type "range",data:=.fields #[.int lo t,.int hi u,.int c v] }).objs.size],_,_,H,rfl,
  I1.kept (t':=tk) fun b o e=>yB _ e,zhw _ lo c (Builtin.Range.rangeSize lo hi c).toNat,?_,fun b hb=>?_,q⟩
 ·have e1:lo+((0:Nat):Int) * c=lo:=by simp
  have e2:(((Builtin.Range.rangeSize lo hi c).toNat:Nat):Int)-((0:Nat):Int)=Builtin.Range.rangeSize lo hi c:=by rw [<- PyProof.Rows.rangeSize_toNat]; simp
  show IsRangeIter _ _ (lo+((0:Nat):Int) * c) ((((Builtin.Range.rangeSize lo hi c).toNat:Nat):Int)-((0:Nat):Int)) c
  rw [e1,e2]; exact yJ _ rfl
 ·have e:b=(s.heap.push { cls:=.type "range",data:=.fields #[.int lo t,.int hi u,.int c v] }).objs.size:=by simpa using hb
  subst e; exact I1.fpOk (yD _) (I1.hok.fresh (yD _))
def zvf (ta:TA):TI:=fun σ H R=>ta σ H fun vs H1=>∃ i j c:Int,vs=[.int i,.int j,.int c]/\(-(2 ^ 60)<=i/\i<2 ^ 60/\-(2 ^ 60)<=j/\j<2 ^ 60/\-(2 ^ 30)<c/\c<2 ^ 30/\c≠0)/\R (zud i c (Builtin.Range.rangeSize i j c).toNat) H1
def zk8 {a b c:Expr} {ta:TA} {p pos:Pos} (hg:Gl X "range") (hm:X.mg "range"=none) (ha:PA X [a,b,c] ta) (hs:starEach [a,b,c] X.env=(false,eval a X.env) :: starEach [b,c] X.env) (hpl:(backTo pos (starEach [b,c] X.env)).any (·.1)=false) :
  PI X tg (.Call (.Name "range" p) [a,b,c] [] pos) (zvf ta):=by
 intro pins s σ H R I h
 refine Call_ (zdr I hg hm boot_range (YV (thn (ha pos pins s σ H _ I h) fun us s1 ⟨vs,H1,I1,r1,q1⟩=>?_) hs hpl))
 obtain ⟨i,j,k,e,⟨q1,q2,q3,q4,q5,q6,q7⟩,q⟩:=q1
 subst e
 cases r1 with
 | cons r rr =>
  cases rr with
  | cons r' rr =>
   cases rr with
   | cons r'' rr =>
    cases rr; obtain ⟨t,rfl⟩:=r; obtain ⟨t',rfl⟩:=r'; obtain ⟨t'',rfl⟩:=r''
    exact call_range_3 q7 (zkT I1 q1 q2 q3 q4 q5 q6 q) (JA (PyProof.noPylong_small (by omega)))
end
end L2
namespace PL
open PySem L2
section
variable {pos:Pos}
def zfU (neg:Bool):R2':=fun x y Q=>∃ (l:List Nat) (ms:List (List Nat)),x=.str l/\(y=.tup (ms.map .str)\/y=.lst (ms.map .str))/\Q (.bl (if neg then !decide (l ∈ ms) else decide (l ∈ ms)))
theorem den_strs {K:W.Frag} {Hi:Hp}:∀ {vs:List V} {ms:List (List Nat)},zaU K Hi vs (ms.map .str)->vs=ms.map fun m=>V.str (st m)
 | [],[],_=>rfl
 | v :: vs,m :: ms,.cons r t=>by rw [yW,<- r.strI,<- den_strs t]
 | [],_ :: _,h=>nomatch h
 | _ :: _,[],h=>nomatch h
theorem zgc (l:List Nat):∀ ms:List (List Nat),inV (.str (st l)) (ms.map fun m=>V.str (st m))=decide (l ∈ ms)
 | []=>rfl
 | m :: ms=>by
  have ih:=zgc l ms
  unfold inV at ih ⊢
  rw [yW,List.any_cons,ih]
  have e:eqV (.str (st m)) (.str (st l))=decide (m=l):=by
   show decide (st m=st l)=_
   by_cases h:m=l
   ·rw [h]; simp
   ·rw [yg h,yg (fun z=>h (by
     have:=yi (fun x:Str=>x.cps.toList) z
     simpa [st] using this))]
  rw [e]
  by_cases h:m=l
  ·subst h; simp
  ·have h':¬ l=m:=fun z=>h z.symm
   simp [h,h']
def zg8 (ms:List (List Nat)):(ms.map fun m=>V.str (st m)).all ze0=true:=by
 rw [Yk]; intro x hx; obtain ⟨m,_,rfl⟩:=yS.mp hx; rfl
def zi0 {K:W.Frag} (neg:Bool):zke K (rIn K neg) (zfU neg):=by
 rintro Hi H x y dx dy Q Q2 s d1 d2 ⟨l,ms,rfl,hy,q⟩ fin
 cases d1.strI
 rcases hy with rfl | rfl
 ·obtain ⟨a,vs,rfl,h1,h2⟩:=d2.tupJ
  rw [den_strs h2] at h1; refine ⟨a,_,rfl,.inr (SqT.of (s.sub _ _ h1)),rfl,zg8 ms,?_⟩; rw [zgc]; exact fin Hi H _ _ (Ext.refl s) (.bl _) q
 ·obtain ⟨a,vs,rfl,h1,h2⟩:=d2.lstI
  rw [den_strs h2] at h1; refine ⟨a,_,rfl,.inl (zL s.sub h1),rfl,zg8 ms,?_⟩; rw [zgc]; exact fin Hi H _ _ (Ext.refl s) (.bl _) q
def znC:Op2 X (compareOp .In) (zfU false):=⟨_,zlf,zi0 false⟩
def zh0:Op2 X (compareOp .NotIn) (zfU true):=⟨_,zgN,zi0 true⟩
instance {neg:Bool}:MR2 (zfU neg):=⟨fun _ _ _ _ h ⟨l,ms,a,b,q⟩=>⟨l,ms,a,b,h _ q⟩⟩
def zn5 {K:W.Frag} {Hi:Hp} (lo c:Int) (n:Nat):ItD K Hi (zud lo c n) ((List.range n).map fun k=>.int (lo+(k:Nat) * c)):=by
 intro Hi' H' s f
 refine ⟨fun i d e=>?_,by show n<=_; simp⟩
 have hi:i<n:=by
  have:=(yG.mp e).1
  simpa using this
 rw [yH,Ys hi] at e; cases e; refine ⟨hi,?_⟩
 rintro x H'' ⟨rfl,rfl⟩
 exact ⟨Hi',Ext.refl f,.int _⟩
def ztI (i j c:Int):List D:=(List.range (Builtin.Range.rangeSize i j c).toNat).map fun k=>.int (i+(k:Nat) * c)
def zlO (t:TA'):TI':=fun Γ Q=>t Γ fun ds Γ1=>∃ i j c:Int,ds=[.int i,.int j,.int c]/\(-(2 ^ 60)<=i/\i<2 ^ 60/\-(2 ^ 60)<=j/\j<2 ^ 60/\-(2 ^ 30)<c/\c<2 ^ 30/\c≠0)/\Q (ztI i j c) Γ1
def zvp {K:W.Frag} {H:Hp} {vs:List V} {d e f:D} (h:zaU K H vs [d,e,f]):∃ v w u,vs=[v,w,u]/\Den K H v d/\Den K H w e/\Den K H u f:=by
 cases h with
 | cons r t =>
  cases t with
  | cons r' t=>
   cases t with
   | cons r'' t=>cases t; exact ⟨_,_,_,rfl,r,r',r''⟩
def zjM {a b c tg:Expr} {t:TA'} {p pos:Pos} (hm:X.mg "range"=none) (ha:PA' X [a,b,c] t) (hg:Gl X "range":=by rfl):PI' X tg (.Call (.Name "range" p) [a,b,c] [] pos) (zlO t):=by
 refine ⟨PI.weak (zk8 hg hm ha.pa (zS (zx ha.pl).1) (zae (zx ha.pl).2)) ?_⟩
 rintro σ H R ⟨W,Hi,Γ,Q',g,h,fin⟩
 refine ⟨W,Hi,Γ,_,g,h,?_⟩
 rintro vs H1 Hi1 Γ1 ds s1 g1 dl ⟨i,j,c,rfl,b,q⟩
 obtain ⟨v,w,u,rfl,d1,d2,d3⟩:=zvp dl
 exact ⟨i,j,c,by rw [d1.intI,d2.intI,d3.intI],b,fin _ H1 Hi1 Γ1 _ s1 g1 (zn5 i c _) q⟩
end
section
variable {Q:D->Prop}
instance:MR2 zhL:=⟨fun _ _ _ _ h ⟨i,j,a,b,c,q⟩=>⟨i,j,a,b,c,h _ q⟩⟩
def zgG:R2':=fun x y Q=>zfV x y Q\/zhL x y Q
def zaR:Op2 X (binaryOp .Add) zgG:=zva.or zsJ
instance:MR2 zgG:=⟨fun _ _ _ _ h q=>q.imp (MR2.mono (r:=zfV) _ _ _ _ h) (MR2.mono (r:=zhL) _ _ _ _ h)⟩
instance {neg:Bool}:MR2 (zox neg):=⟨fun _ _ _ _ h ⟨i,j,a,b,q⟩=>⟨i,j,a,b,h _ q⟩⟩
def zr6:R2':=fun x y Q=>zm5 false x y Q\/zox false x y Q\/zfU false x y Q
def zsM (hu:X.A.units+1<cLine):Op2 X (compareOp .In) zr6:=zu8.or ((zu7 hu).or znC)
instance:MR2 zr6:=⟨fun _ _ _ _ h q=>q.imp (MR2.mono (r:=zm5 false) _ _ _ _ h) (fun q=>q.imp (MR2.mono (r:=zox false) _ _ _ _ h) (MR2.mono (r:=zfU false) _ _ _ _ h))⟩
def zhI:R2':=fun x y Q=>zfR x y Q\/zox true x y Q\/zfU true x y Q
def zf5 (hu:X.A.units+1<cLine):Op2 X (compareOp .NotIn) zhI:=zqk.or ((zny hu).or zh0)
instance:MR2 zhI:=⟨fun _ _ _ _ h q=>q.imp (MR2.mono (r:=zfR) _ _ _ _ h) (fun q=>q.imp (MR2.mono (r:=zox true) _ _ _ _ h) (MR2.mono (r:=zfU true) _ _ _ _ h))⟩
instance:MR2 zhK:=⟨fun _ _ _ _ h ⟨i,j,v,a,b,c,q⟩=>⟨i,j,v,a,b,c,h _ q⟩⟩
def zfl:R2':=fun x y Q=>zms x y Q\/zhK x y Q
def i_A (hu:X.A.units+1<cLine):Ixs X zfl:=zvd.or (zve hu)
instance:MR2 zfl:=⟨fun _ _ _ _ h q=>q.imp (MR2.mono (r:=zms) _ _ _ _ h) (MR2.mono (r:=zhK) _ _ _ _ h)⟩
instance:MRS zgB:=⟨fun _ _ _ _ _ h ⟨ds,e,q⟩=>⟨ds,e,h _ q⟩⟩
def zkV:RS':=fun x lo hi Q=>zkW x lo hi Q\/zgB x lo hi Q
def s_A:Sli X zkV:=zwi.or zuB
instance:MRS zkV:=⟨fun _ _ _ _ _ h q=>q.imp (MRS.mono (r:=zkW) _ _ _ _ _ h) (MRS.mono (r:=zgB) _ _ _ _ _ h)⟩
def zfT:RC':=fun ds Q=>ze9 ds Q\/zhJ ds Q
def zbg:Cal X (.builtin "len") zfT:=zvw.or ztp
instance:MRC zfT:=⟨fun _ _ _ h q=>q.imp (MRC.mono (r:=ze9) _ _ _ h) (MRC.mono (r:=zhJ) _ _ _ h)⟩
def zgD:zom:=fun ds Q=>zfS ds Q\/zd9 ds Q
def zmm (hc:X.calm=true):CalO X (.type "list") zgD:=zto.or (zq0 hc)
@[simp] theorem zun:D.tup []=plc []:=rfl
@[simp] theorem zum (l:List Nat):D.tup [.str l]=plc [l]:=rfl
def zaT (p:List (List Nat)):List Key:=p.map fun l=>Sum.inr (st l)
def za2 (p:List (List Nat)):plc p=.tup ((zaT p).map keyD):=by
 unfold plc zaT; rw [ym]
 exact yi D.tup (YI fun l _=>by
  show D.str l=D.str (st l).cps.toList
  rw [zad])
def zey {p q:List (List Nat)} (h:plc p=plc q):p=q:=by
 unfold plc at h
 injection h with h
 exact (List.map_inj_right (fun a b h=>D.str.inj h)).mp h
@[simp] theorem zvQ (p q:List (List Nat)):plc p=plc q↔p=q:=⟨zey,fun h=>by rw [h]⟩
@[simp] theorem zr7 (i j:Int):zgG (.int i) (.int j) Q↔Q (.int (i+j)):=by simp [zgG,zhL]
@[simp] theorem zkY (l m:List Nat):zgG (.str l) (.str m) Q↔l.length+m.length<=sizeLine/\Q (.str (l ++ m)):=by simp [zgG,zhL]
@[simp] theorem zgF (p q:List (List Nat)):zgG (plc p) (plc q) Q↔p.length+q.length<=sizeLine/\Q (plc (p ++ q)):=by
 simp [zgG,zhL,zfV,zhM,plc]
@[simp] theorem zuP (c:Nat) (l:List Nat):zr6 (.str [c]) (.str l) Q↔Q (.bl (decide (c ∈ l))):=by simp [zr6,zox,zfU]
def zm7 (p:List (List Nat)) (ds:List (D × D)) (h:Q (.bl (zbd ds (plc p)).isSome)):zr6 (plc p) (.dit ds) Q:=.inr (.inl ⟨zaT p,ds,za2 p,rfl,h⟩)
def zbu (p:List (List Nat)) (ds:List (D × D)) (h:Q (.bl (!(zbd ds (plc p)).isSome))):zhI (plc p) (.dit ds) Q:=.inr (.inl ⟨zaT p,ds,za2 p,rfl,h⟩)
@[simp] theorem ztV (ds:List D) (i:Int):zfl (.lst ds) (.int i) Q↔∃ d,atI ds i=some d/\Q d:=by simp [zfl,zhK]
@[simp] theorem zm4 (ds:List D) (i:Int):zfl (.tup ds) (.int i) Q↔∃ d,atI ds i=some d/\Q d:=by simp [zfl,zhK]
@[simp] theorem ztT (l:List Nat) (i:Int):zfl (.str l) (.int i) Q↔l.length<=sizeLine/\∃ c,atI l i=some c/\Q (.str [c]):=by simp [zfl,zhK]
@[simp] theorem ztU (p:List (List Nat)) (i:Int):zfl (plc p) (.int i) Q↔∃ d,atI (p.map D.str) i=some d/\Q d:=zm4 _ i
def zea (p:List (List Nat)) (ds:List (D × D)) {v:D} (e:zbd ds (plc p)=some v) (h:Q v):zfl (.dit ds) (plc p) Q:=.inr ⟨ds,zaT p,v,rfl,za2 p,e,h⟩
@[simp] theorem zuI (l:List Nat) (n:Int):zkV (.str l) none (some n) Q↔l.length<=sizeLine/\0<=n/\Q (.str (l.take n.toNat)):=by simp [zkV,zgB]
@[simp] theorem zrU (l:List Nat) (n:Int):zkV (.str l) (some n) none Q↔l.length<=sizeLine/\0<=n/\Q (.str (l.drop n.toNat)):=by simp [zkV,zgB]
@[simp] theorem ztM (ds:List D) (lo hi:Option Int):zkV (.lst ds) lo hi Q↔Q (.lst (zdR ds lo hi)):=by simp [zkV,zgB]
@[simp] theorem zm1 (ds:List D) (lo hi:Option Int):zkV (.tup ds) lo hi Q↔Q (.tup (zdR ds lo hi)):=by simp [zkV,zgB,zkW,zjH,zjI]
def zek {α β:Type} (f:α->β) (xs:List α) (lo hi:Option Int):zdR (xs.map f) lo hi=(zdR xs lo hi).map f:=by
 unfold zdR; rw [yE,List.map_take,List.map_drop]
@[simp] theorem zm2 (p:List (List Nat)) (lo hi:Option Int):zkV (plc p) lo hi Q↔Q (plc (zdR p lo hi)):=by
 unfold plc; rw [zm1,zek]
@[simp] theorem zrW (l:List Nat):zfT [.str l] Q↔l.length<=sizeLine/\Q (.int (l.length:Nat)):=by simp [zfT,zhJ]
@[simp] theorem zrY (l:List D):zfT [.lst l] Q↔Q (.int (l.length:Nat)):=by simp [zfT,zhJ]
@[simp] theorem zkX (l:List D):zfT [.tup l] Q↔Q (.int (l.length:Nat)):=by simp [zfT,zhJ]
@[simp] theorem zrX (p:List (List Nat)):zfT [plc p] Q↔Q (.int (p.length:Nat)):=by
 unfold plc; rw [zkX,yE]
@[simp] theorem ztG (p:List (List Nat)):zq7 (plc p)=some (p.map .str):=rfl
@[simp] theorem zra {Q:OD->Prop} (l:List D):zgD [.tup l] Q↔Q (.lst l):=by simp [zgD,zfS,zd9]
@[simp] theorem zrb {Q:OD->Prop} (l:List (D × D)):zgD [.dit l] Q↔Q (.lst (l.map (·.1))):=by simp [zgD,zfS,zd9]
def zmc {α:Type} (xs:List α) (n:Nat):zdR xs none (some (n:Int))=xs.take n:=by
 unfold zdR; rw [HT.sIx_none,HT.sIx_nat,List.drop_zero,Nat.sub_zero]
 by_cases h:n<=xs.length
 ·rw [Nat.min_eq_left h]
 ·rw [Nat.min_eq_right (by omega),List.take_length,yh (by omega)]
def zmd {α:Type} (xs:List α) (n:Nat):zdR xs (some (n:Int)) none=xs.drop n:=by
 unfold zdR; rw [HT.sIx_none,HT.sIx_nat]
 by_cases h:n<=xs.length
 ·rw [Nat.min_eq_left h,yh (by rw [Yj]; exact yD _)]
 ·rw [Nat.min_eq_right (by omega),List.drop_length,List.take_nil,YZ (by omega)]
def zcu {α:Type} (xs:List α):zdR xs none (some (-1))=xs.dropLast:=by
 unfold zdR
 have e:HT.sIx xs.length xs.length (some (-1))=xs.length-1:=by
  show (if (-1:Int)<0 then ((-1:Int)+(xs.length:Int)).toNat else min (-1:Int).toNat xs.length)=_
  rw [yM (by decide)]
  omega
 rw [HT.sIx_none,e,List.drop_zero,Nat.sub_zero,List.dropLast_eq_take]
def zbv {i:Int} {j:Nat} {p pos:Pos}:PE' X (.UnaryOp .USub (.Constant (.int i) j p) pos) (tC' (.int (-i))):=by
 refine zhQ (v:=.int (-i)) (PE.weak (zuW zrt zoA) ?_) fun _=>.int _
 intro σ H Q q; exact ⟨i,rfl,q⟩
def zb4 {A:Around} {k:Nat} (hr:Room k A):A.units+100<cLine:=by have:=hr.un; omega
@[simp] theorem zwB {α:Type} (a:α) (l:List α):atI (a :: l) 0=some a:=zdT (j:=0) rfl
@[simp] theorem zwA {α:Type} (a b:α) (l:List α):atI (a :: b :: l) 1=some b:=zdT (j:=1) rfl
@[simp] theorem zwz {α:Type} (a b c:α) (l:List α):atI (a :: b :: c :: l) 2=some c:=zdT (j:=2) rfl
@[simp] theorem zvZ {CX:CXT} {P:Program} {w:World} {K:W.Frag} {mg:Str->Option Value} {base:Heap} {N:List Str} {q:Str} {sc:Scope} {f:Addr} {cd:Value} {A:Around} {o:List Env} {s:Shared} {H:Hp} {E:XK}:(zdy CX P w K mg base N q sc f cd A o s H E).K=K:=rfl
@[simp] theorem zvY {CX:CXT} {P:Program} {w:World} {K:W.Frag} {mg:Str->Option Value} {base:Heap} {N:List Str} {q:Str} {sc:Scope} {f:Addr} {cd:Value} {A:Around} {o:List Env} {s:Shared} {H:Hp} {E:XK}:(zdy CX P w K mg base N q sc f cd A o s H E).N=N:=rfl
def zgE (K:W.Frag) (C:Addr) (fs:List (Str × D)) {cd:D} {c:Value} (hc:zt9 cd=some c):zex K [.exc C fs,cd] Q↔X1.XIs K C/\∃ b,W.kitOne K (.ref C) c=some b/\Q (.bl b):=by
 constructor
 ·rintro ⟨d,t,cd',v,b,e,h1,h2,h3,q⟩
  injection e with e1 e2
  injection e2 with e2 _
  subst e1 e2
  rw [hc] at h1; cases h1
  rcases h2 with ⟨n,_,h2⟩ | ⟨C',fs',e,_,_⟩ | ⟨C',fs',e,rfl,T⟩
  ·cases h2
  ·cases e
  ·cases e
   exact ⟨T,b,h3,q⟩
 ·rintro ⟨T,b,h,q⟩
  exact ⟨_,_,_,_,b,rfl,hc,.inr (.inr ⟨C,fs,rfl,rfl,T⟩),h,q⟩
@[simp] theorem zre (K:W.Frag) (C c:Addr) (fs:List (Str × D)):zex K [.exc C fs,.cls c] Q↔X1.XIs K C/\∃ b,W.kitOne K (.ref C) (.ref c)=some b/\Q (.bl b):=zgE K C fs rfl
@[simp] theorem zrd (K:W.Frag) (C:Addr) (n:String) (fs:List (Str × D)):zex K [.exc C fs,.ty n] Q↔X1.XIs K C/\∃ b,W.kitOne K (.ref C) (.type n)=some b/\Q (.bl b):=zgE K C fs rfl
def zbO (K:W.Frag) {d:D} {n:String} (hk:zqy d=some n) {cd:D} {c:Value} (hc:zt9 cd=some c):zex K [d,cd] Q↔∃ b,W.kitOne K (.type n) c=some b/\Q (.bl b):=by
 constructor
 ·rintro ⟨d',t,cd',v,b,e,h1,h2,h3,q⟩
  injection e with e1 e2
  injection e2 with e2 _
  subst e1 e2
  rw [hc] at h1; cases h1
  rcases h2 with ⟨m,rfl,h2⟩ | ⟨C',fs',rfl,rfl,T⟩ | ⟨C',fs',rfl,rfl,T⟩
  ·rw [hk] at h2
   cases h2; exact ⟨b,h3,q⟩
  ·cases hk
  ·cases hk
 ·rintro ⟨b,h,q⟩
  exact ⟨d,_,cd,c,b,rfl,hc,.inl ⟨n,rfl,hk⟩,h,q⟩
@[simp] theorem zr1 (K:W.Frag) (c:String) :zex K [.non,.ty c] Q↔∃ b,W.kitOne K (.type "NoneType") (.type c)=some b/\Q (.bl b):=zbO K rfl rfl
@[simp] theorem zrc (K:W.Frag) (c:Addr) :zex K [.non,.cls c] Q↔∃ b,W.kitOne K (.type "NoneType") (.ref c)=some b/\Q (.bl b):=zbO K rfl rfl
@[simp] theorem zr0 (K:W.Frag) (c:String) (x:List Nat):zex K [(.str x),.ty c] Q↔∃ b,W.kitOne K (.type "str") (.type c)=some b/\Q (.bl b):=zbO K rfl rfl
@[simp] theorem zr2 (K:W.Frag) (c:String) (x:List D):zex K [(.lst x),.ty c] Q↔∃ b,W.kitOne K (.type "list") (.type c)=some b/\Q (.bl b):=zbO K rfl rfl
@[simp] theorem zrZ (K:W.Frag) (c:String) (x:List D):zex K [(.tup x),.ty c] Q↔∃ b,W.kitOne K (.type "tuple") (.type c)=some b/\Q (.bl b):=zbO K rfl rfl
end
end PL
namespace X1
open PySem PySem.W
def xmro:List Value->Bool
 | .ref _ :: r=>xmro r
 | l=>l == [.type "ValueError",.type "Exception",.type "BaseException",.type "object"]
theorem ziD (self:Value):∀ {l:List Value},xmro l=true->refuseLoop self "__setattr__" l=pure ()
 | [],e=>by cases e
 | .ref c :: r,e=>by rw [refuseLoop_ref]; exact ziD self e
 | .type n :: r,e=>by
  have z:(Value.type n :: r)=[.type "ValueError",.type "Exception",.type "BaseException",.type "object"]:=beq_iff_eq.mp e
  rw [z]; exact PySem.F.store_ValueError.passes self
 | .none :: r,e=>by cases beq_iff_eq.mp (show (_ == _)=true from e)
 | .bool _ :: r,e=>by cases beq_iff_eq.mp (show (_ == _)=true from e)
 | .int _ _ :: r,e=>by cases beq_iff_eq.mp (show (_ == _)=true from e)
 | .str _ _ :: r,e=>by cases beq_iff_eq.mp (show (_ == _)=true from e)
 | .float _ _ :: r,e=>by cases beq_iff_eq.mp (show (_ == _)=true from e)
 | .bytes _ _ :: r,e=>by cases beq_iff_eq.mp (show (_ == _)=true from e)
 | .builtin _ :: r,e=>by cases beq_iff_eq.mp (show (_ == _)=true from e)
structure XSet (K:Frag) (C:Addr):Prop where
 sa:findIn K (.ref C) "__setattr__"=some (some (.builtin "object.__setattr__"))
 dc:((clsIn K C).any fun cd=>cd.hasDict && xmro cd.mro)=true
 ob:mroIn K C (.type "object")=some true
section
variable {K:Frag} {x C:Addr} {vs:Array Value} {sl:Array (Option Value)} {name:Str} {v:Value}
def xset1 {Q:Unit->Shared->Prop} (X:K.In s.heap) (T:XSet K C) (ht:takerIn K C name=some none) (he:s.heap.get? x=some ⟨.ref C,none,.fields vs,sl⟩)
  (h:∀ h',h'.get? x=some ⟨.ref C,some s.heap.objs.size,.fields vs,sl⟩->h'.Ns1 s.heap.objs.size (fun y=>if y=name then some v else none)->(∀ b o,b≠x->s.heap.get? b=some o->h'.get? b=some o)->Q () { s with heap:=h',toks:=s.toks+2 }) :
  wpAny (model prog w) A (setAttr (.ref x) name v) Q E s:=by
 have I:InstAt s.heap x ⟨.ref C,none,.fields vs,sl⟩ C none:=⟨he,rfl,rfl,True.intro⟩
 obtain ⟨cd,hc,ho⟩:=any_some T.dc; rw [yr] at ho; refine set_plain X I T.sa ?_; have SF:=PySem.F.store_object
 have sub:Looks (model prog w) s.heap (isInstance (.ref x) (.type "object")) true:=I.type.andThen (looks_mroIn X T.ob)
 refine codeAny_call_builtin SF.slot.plain SF.entry (@check_slot (model prog w) _ _ { s with toks:=s.toks+1 } "object.__setattr__" "object" "__setattr__" (.ref x) [.str name s.toks,v] [] _ SF.kind SF.split sub (SF.args (.ref x) (.str name s.toks) v) ?_)
 obtain ⟨attr,ha,hr⟩:=Option.bind_eq_some_iff.mp ht
 have hm:Looks (model prog w) s.heap (mroOf (.ref C)) cd.mro:=(looks_clsIn X hc).andThen .now
 have L3:Looks (model prog w) s.heap (Builtin.ObjectAttr.storeTaker? attr) none:=by
  cases attr with
  | none=>exact .now
  | some a =>
   obtain ⟨b,hb,e⟩:=YY.mp hr; refine (looks_takesIn X hb).andThen ?_; cases b
   ·exact .now
   ·cases e
 rw [osa_eq,refuse_eq]
 refine yA (yA (I.type.here (s:={ s with toks:=s.toks+1 }) (yA (hm.here (s:={ s with toks:=s.toks+1 }) ?_))))
 rw [ziD _ ho.2]
 refine yF (yA (I.type.here (s:={ s with toks:=s.toks+1 }) (yA ((looks_findIn X ha).here (s:={ s with toks:=s.toks+1 }) (yA (L3.here (s:={ s with toks:=s.toks+1 }) ?_))))))
 show wpAny _ _ (Builtin.ObjectAttr.storeInOwnDict (.ref x) (.ref C) (.str name s.toks) name v attr.isSome) _ _ _
 refine yA (yF (yA (yA (wpAny_loadPart (s:={ s with toks:=s.toks+1 }) he (yA (Looks.here (s:={ s with toks:=s.toks+1 }) (looks_clsIn X hc) ?_))))))
 rw [ho.1]
 have hth:typeHasDict (.ref C)=true:=rfl
 show wpAny _ _ (do
  let d <- alloc { cls:=.type "dict",data:=.dict #[] }
  update x fun o=>{ o with dict:=some d }
  dictMade (.ref C) x d) _ _ _
 refine yA (wpAny_alloc ?_)
 have hx1:(s.heap.push { cls:=.type "dict",data:=.dict #[] }).get? x=some ⟨.ref C,none,.fields vs,sl⟩:=yB _ he
 refine yA (wpAny_update hx1 ?_)
 have hne:x≠s.heap.objs.size:=yU (yI he)
 have hx2:=Yc (fun o:Obj=>{ o with dict:=some s.heap.objs.size }) hx1 rfl
 have hd2:((s.heap.push { cls:=.type "dict",data:=.dict #[] }).update x fun o=>{ o with dict:=some s.heap.objs.size }).get? s.heap.objs.size=some { cls:=.type "dict",data:=.dict #[] }:=by
  rw [yj _ _ hne]; exact yJ _ rfl
 refine yF (yA (yF (yA ?_)))
 have hn:((s.heap.push { cls:=.type "dict",data:=.dict #[] }).update x fun o=>{ o with dict:=some s.heap.objs.size }).Ns1 s.heap.objs.size (fun _=>none):=Heap.Ns1.of_empty ⟨_,#[],_,hd2,rfl,(fun e z=>yN z (by simp)),fun _=>rfl⟩
 refine wpAny_nsSet1 hn fun h' hn2 hs2=>?_
 obtain ⟨oD,esD,epD,hoD,hdD,hcD⟩:=hn2.count (PySem.Within.cons name v (ns:=[]) fun y hy=>yN rfl hy)
 refine yA (wpAny_lookBehind hoD (by rw [hdD]; exact pastItsLine_dict (yq hcD (Nat.le_add_left 1 sizeLine))) ?_)
 refine yF (h h' ((hs2.2 _ hne).trans hx2) hn2 fun b o hb e=>?_)
 have hbd:b≠s.heap.objs.size:=yU (yI e)
 rw [hs2.2 _ hbd,yj _ _ (Ne.symm hb)]; exact yB _ e
end
section
variable {h:Heap} {g:Array GenState} {d:Drawn} {t:Nat} {os:OsState} {C N e:Addr} {bm bmB:List Value} {B nid iid:String} {zbq:List Value} {vs:Array Value} {dd:Option Addr} {sl:Array (Option Value)}
def base_init {Q:Value->Shared->Prop} (F:ExcBaseFacts B nid iid bmB) (T:OwnTail h bmB bm) (X:XC h C N bm nid) (he:h.get? e=some ⟨.ref C,dd,.fields vs,sl⟩) {t0:Addr} (h0:vs[0]?=some (.ref t0)) (hr:zbq.length<=sizeLine)
  (k:Q .none ⟨(h.push (tupX zbq)).update e (Obj.mapFields (·.setIfInBounds 0 (.ref h.objs.size))),g,d,t,os⟩):wpAny (model prog w) A (call (.builtin iid) (.ref e :: zbq)) Q E ⟨h,g,d,t,os⟩:=by
 obtain ⟨nm,q,bs,hd,sn,sub,ab,col,dd',k0,k1,k2,k3,k5,hC⟩:=X.ex; refine wpAny_call (codeAny_call_builtin F.init.plain F.initEntry (wpAny_check_init_subT F T hC he rfl ?_))
 wp_walk
 rw [h0]
 have he':(h.push (tupX zbq)).get? e=some ⟨.ref C,dd,.fields vs,sl⟩:=yB _ he
 refine yF (yA (Yt he' rfl (Yb.mp h0).1 ?_))
 repeat (first | wp_step)
 exact k
end
end X1
namespace L2
open PySem PySem.Spec PyProof.Rows
structure Fly (n:Nat) (H:Hp) (h:Heap) (e C:Addr) (dd:Option Addr):Prop where
 ne:n<=e
 fe:H e=none
 ex:∃ vs,X1.Ex h e (.ref C) dd vs/\1<vs.size/\X1.Hd h e vs .none (fun b=>n<=b/\H b=none)
def CX1 (P:Program) (w:World):CXT:=fun outer H s E e s'=>∃ ae C dd H',e=.ref ae/\s'.os=s.os/\AllBare s'.gens/\Un (frs outer) [] H H' s.heap s'.heap/\HOk P w H' s'.heap/\Fly s.heap.objs.size H' s'.heap ae C dd/\E (.ref C) dd H'
def zoV {P:Program} {w:World} {H:Hp} {h h':Heap} {R:Addr->Prop} {fr:List Addr} (x:HOk P w H h) (k:X1.Kp R fr h h') (hR:∀ b,R b->H b=none) (hf:∀ b ∈ fr,H b=none):HOk P w H h':=fun a o e =>
 (x a o e).stay (fun b u hb q=>by
  have hn:∀ c,H c≠none->¬ R c/\c ∉ fr:=fun c z=>⟨fun r=>z (hR c r),fun m=>z (hf c m)⟩
  rcases hb with rfl | hb
  ·have z:=hn b (by rw [e]; exact fun z=>nomatch z)
   exact k.keep b u q z.1 z.2
  ·have z:=hn b (by rw [hb]; exact fun z=>nomatch z)
   exact k.keep b u q z.1 z.2) (fun _ q=>q) fun _ _ q=>q
section
variable {N:List Str} {qual:Str} {scope:Scope} {f:Addr} {cd:Value} {outer:List Env} {s':Shared} {H':Hp} {E:XK} {e C:Addr} {dd:Option Addr}
def zsQ (I:Inv (zdy (CX1 P w) P w K mg base N qual scope f cd A outer s H E) pins σ H' s') (F:Fly s.heap.objs.size H' s'.heap e C dd) (hE:E (.ref C) dd H'):(zdy (CX1 P w) P w K mg base N qual scope f cd A outer s H E).xe (.ref e) s':=by
 obtain ⟨vs,hx,hs,hd⟩:=F.ex
 have hd':X1.Hd s'.heap e vs .none (fun b=>b=e\/vs[1]?=some (.ref b)):=by
  rcases hd with h | ⟨T,h1,h2,h3,h4⟩
  ·exact .inl h
  ·exact .inr ⟨T,h1,h2,.inr h1,h4⟩
 have hR:∀ b,(b=e\/vs[1]?=some (.ref b))->s.heap.objs.size<=b/\H' b=none:=fun b hb=>by
  rcases hb with rfl | hb
  ·exact ⟨F.ne,F.fe⟩
  ·rcases hd with ⟨h,_⟩ | ⟨T,h1,_,h3,_⟩
   ·rw [hb] at h; cases h
   ·rw [hb] at h1
    cases h1; exact h3
 refine X1.leave (env:=envOfC qual scope s.heap.objs.size f cd) (outer:=outer) (L:=s.heap.objs.size) (R:=fun b=>b=e\/vs[1]?=some (.ref b)) I.ok.frames I.stack rfl hx hs hd' (.inl rfl) fun h' T vs' x1 x2 x3 x4 x5 x6 x7 x8=>?_
 have hfr:∀ b ∈ frs (envOfC qual scope s.heap.objs.size f cd :: outer),H' b=none:=I.stkFree
 have un:=I.base
 have hT:H' T=none:=I.hok.fresh x6
 have hTn:s.heap.objs.size<=T:=yq I.sz x6
 have young:∀ b o,s.heap.get? b=some o->¬ (b=e\/vs[1]?=some (.ref b)):=fun b o q z=>yN (yT (yI q) (hR b z).1) (YX _)
 have notL:∀ b o,s.heap.get? b=some o->b≠s.heap.objs.size:=fun b o q=>yU (yI q)
 have cut:∀ b,b ∈ frs (envOfC qual scope s.heap.objs.size f cd :: outer)->b=s.heap.objs.size\/b ∈ frs outer:=fun b hb=>yP.mp hb
 refine ⟨e,C,dd,H',rfl,I.os,I.bare,⟨fun b o q n hb hx=>?_,fun b o q n hb hx=>?_,fun b o q n hx=>un.free b o q n hx,fun b o q hx=>?_,un.tups,un.frzs,un.tbls⟩,zoV I.hok x8 (fun b hb=>(hR b hb).2) hfr,⟨F.ne,F.fe,vs',x1,x3,.inr ⟨T,x4,x5,⟨hTn,hT⟩,x7⟩⟩,hE⟩
 ·refine x8.keep b o (un.keep b o q n hb hx) (young b o q) fun z=>?_
  rcases cut b z with z | z
  ·exact notL b o q z
  ·exact hb z
 ·obtain ⟨sl,e1⟩:=un.slot b o q n hb hx
  obtain ⟨sl2,e2⟩:=x8.slot b _ e1 (young b o q) (yL _ hb); exact ⟨sl2,e2⟩
 ·obtain ⟨o',e1⟩:=un.there b o q hx
  by_cases z:b ∈ frs (envOfC qual scope s.heap.objs.size f cd :: outer)
  ·obtain ⟨sl,e2⟩:=x8.slot b o' e1 (young b o q) z
   exact ⟨_,e2⟩
  ·exact ⟨o',x8.keep b o' e1 (young b o q) z⟩
end
structure FlyI (X:Cx) (pins:yyL) (H:Hp) (h:Heap) (e C:Addr) (dd:Option Addr):Prop where
 fe:zd4 X pins H e
 ex:∃ vs,X1.Ex h e (.ref C) dd vs/\1<vs.size/\X1.Hd h e vs .none (zd4 X pins H)
abbrev XS:=St->XK
def XP (X:Cx) (pins:yyL) (E:XS) (e:Value) (s':Shared):Prop:=∃ ae C dd σ' H',e=.ref ae/\Inv X pins σ' H' s'/\FlyI X pins H' s'.heap ae C dd/\E σ' (.ref C) dd H'
abbrev TEx:=St->Hp->VK->XK->Prop
abbrev TSx:=Ends->XS->St->Hp->Prop
def at1 (σ:St) (E:XK):XS:=fun σ' c d H'=>σ'=σ/\E c d H'
def PEx (X:Cx) (e:Expr) (t:TEx):Prop:=∀ (pins:yyL) (s:Shared) (σ:St) (H:Hp) (Q:VK) (E:XK),Inv X pins σ H s->t σ H Q E->wpAny (model X.prog X.w) X.A (eval e X.env) (EP X pins σ Q) (XP X pins (at1 σ E)) s
def PSx (X:Cx) (st:Stmt) (t:TSx):Prop:=∀ (pins:yyL) (s:Shared) (σ:St) (H:Hp) (D:Ends) (E:XS),Inv X pins σ H s->t D E σ H->wpAny (model X.prog X.w) X.A (exec st X.env) (SP X pins D) (XP X pins E) s
def zjr (X:Cx) (st:List Stmt) (t:TSx):Prop:=∀ (pins:yyL) (s:Shared) (σ:St) (H:Hp) (D:Ends) (E:XS),Inv X pins σ H s->t D E σ H->wpAny (model X.prog X.w) X.A (execs st X.env) (SP X pins D) (XP X pins E) s
section
variable {st:Stmt} {zbq:List Stmt} {t u:TSx} {e:Expr} {te:TEx} {pos:Pos}
def PS.x {t:TS} (h:PS X.nox st t):PSx X st (fun D _ σ H=>t D σ H):=fun pins s σ H D E I q =>
 yp (h pins s σ H D (I.wish _) q) (fun _ _ q=>q.unwish) fun _ _ z=>z.elim
def PA.x {es:List Expr} {t:TA} (h:PA X.nox es t) {E:Value->Shared->Prop} {pos:Pos} {pins:yyL} {s:Shared} {σ:St} {H:Hp} {Q:List V->Hp->Prop} (I:Inv X pins σ H s) (q:t σ H Q):wpAny (model X.prog X.w) X.A (spliced (backTo pos (starEach es X.env))) (AP X pins σ Q) E s :=
 yp (h pos pins s σ H Q (I.wish _) q) (fun _ _ ⟨v,H',I',r,q⟩=>⟨v,H',I'.unwish,r,q⟩) fun _ _ z=>z.elim
def PT.x {t:TT} (h:PT X.nox e t) {E:Value->Shared->Prop} {pins:yyL} {s:Shared} {σ:St} {H:Hp} {Q:Bool->Hp->Prop} (I:Inv X pins σ H s) (q:t σ H Q):wpAny (model X.prog X.w) X.A (isTrue e X.env (eval e X.env)) (TP X pins σ Q) E s :=
 yp (h pins s σ H Q (I.wish _) q) (fun _ _ ⟨H',I',q⟩=>⟨H',I'.unwish,q⟩) fun _ _ z=>z.elim
def XP.at {pins:yyL} {σ:St} {E:XK} {E':XS} {v:Value} {s':Shared} (h:XP X pins (at1 σ E) v s') (k:∀ c d H',E c d H'->E' σ c d H'):XP X pins E' v s':=by
 obtain ⟨ae,C,dd,σ',H',e1,I,F,rfl,q⟩:=h; exact ⟨ae,C,dd,σ',H',e1,I,F,k _ _ _ q⟩
def zv2 (t u:TSx):TSx:=fun D E σ H=>t { D with nx:=u D E } E σ H
def zpd:zjr X [] (fun D _ σ H=>D.nx σ H):=fun _ _ σ H _ _ I h=>JE ⟨σ,H,I,h⟩
def zmG (h1:PSx X st t) (h2:zjr X zbq u):zjr X (st :: zbq) (zv2 t u):=by
 intro pins s σ H D E I h
 refine wpAny_execs_cons (thn (h1 pins s σ H { D with nx:=u D E } E I h) fun f s1 q=>?_)
 cases f with
 | next =>
  obtain ⟨σ',H',I',q⟩:=q; exact h2 pins s1 σ' H' D E I' q
 | ret v=>exact q
 | brk=>exact q
 | cont=>exact q
def zpc (h1:PSx X st t):zjr X [st] t:=by
 intro pins s σ H D E I h
 refine wpAny_execs_cons (thn (h1 pins s σ H D E I h) fun f s1 q=>?_)
 cases f with
 | next=>exact JE q
 | ret v=>exact q
 | brk=>exact q
 | cont=>exact q
def zv3 (c:TT) (t u:TSx):TSx:=fun D E σ H=>c σ H fun b H1=>if b=true then t D E σ H1 else u D E σ H1
def zue {c:Expr} {a b:List Stmt} {tc:TT} (hc:PT X.nox c tc) (ha:zjr X a t) (hb:zjr X b u):PSx X (.If c a b pos) (zv3 tc t u):=by
 intro pins s σ H D E I h
 refine wpAny_If (thn (PT.x hc I h) fun d s1 ⟨H1,I1,q1⟩=>?_)
 cases d with
 | true=>exact ha pins s1 σ H1 D E I1 q1
 | false=>exact hb pins s1 σ H1 D E I1 q1
def zuf (te:TEx):TSx:=fun D E σ H=>te σ H (fun _ H1=>D.nx σ H1) (E σ)
def zpf (he:PEx X e te) (hs:swapsWith e none pos.line X.env=pure false:=by rfl):PSx X (.Expr e pos) (zuf te):=by
 intro pins s σ H D E I h
 exact wpAny_Expr_any (yp (he pins s σ H _ _ I h) (fun v s1 ⟨x,H1,I1,r1,q1⟩=>⟨σ,H1,I1,q1⟩) fun _ _ z=>z.at fun _ _ _ q=>q) I.quiet hs
def zv4 (te:TEx) (i:Nat):TSx:=fun D E σ H=>te σ H (fun x H1=>D.nx (σ.set i (some x)) H1) (E σ)
def zrk {i:Nat} {x:Str} {pos':Pos} (hN:X.N.Nodup) (hi:X.N[i]?=some x) (hx:Loc X.env.scope x) (he:PEx X e te) (hs:swapsWith e (some (.Name x pos')) pos.line X.env=pure false:=by rfl) (hf:X.fn x=true\/X.env.scope.names.lookup x=some .local:=by first | exact .inl rfl | exact .inr rfl | assumption) :
  PSx X (.Assign [.Name x pos'] e pos) (zv4 te i):=by
 intro pins s σ H D E I h
 refine wpAny_Assign_Name (yp (he pins s σ H _ _ I h) (fun v s1 ⟨y,H1,I1,r1,q1⟩=>?_) fun _ _ z=>z.at fun _ _ _ q=>q) hs
 exact zdi I1 hN hi hx r1 (fun s2 I2=>⟨_,H1,I2,q1⟩) hf
def zpg {k:Nat} {f:Addr} {fd:FuncData} {ps:List Str} {sp:Sp} {pins:yyL} {σ:St} {H:Hp} {s:Shared} {Q:VK} {E:XK} {us:List Value} {vs:List V} (F:FnOk X.prog X.w X.K X.mg X.base (CX1 X.prog X.w) k f fd ps sp) (hr:Room k X.A) (hb:zb7 X.K fd ps [])
  (I:Inv X pins σ H s) (r:zah vs us) (h:sp vs H Q E):wpAny (model X.prog X.w) X.A (call (.ref f) us) (EP X pins σ Q) (XP X pins (at1 σ E)) s:=by
 have hl:(us ++ []).length=ps.length:=by rw [yb,<- r.length]; exact F.len _ _ _ _ h
 have hb':=hb s us I.kIn hl; rw [yb] at hb'
 refine wpAny_call (codeAny_mono (F.run X.A X.stack s H ⟨us,[]⟩ us vs Q E hr I.env0 hb' r h) fun r s' hq=>?_)
 cases r with
 | error e =>
  obtain ⟨ae,C,dd,H',rfl,os,bare,un,hok,fl,q⟩:=hq
  have I':Inv X pins σ H' s':=I.call' os un hok bare (fun b z=>yN z (by simp))
  have fp:∀ b,s.heap.objs.size<=b->H' b=none->zd4 X pins H' b:=fun b h1 h2=>I.fpOk h1 h2
  obtain ⟨vs',x1,x2,x3⟩:=fl.ex; refine ⟨ae,C,dd,σ,H',rfl,I',⟨fp ae fl.ne fl.fe,vs',x1,x2,?_⟩,rfl,q⟩
  rcases x3 with z | ⟨T,y1,y2,y3,y4⟩
  ·exact .inl z
  ·exact .inr ⟨T,y1,y2,fp T y3.1 y3.2,y4⟩
 | ok fl =>
  cases fl with
  | ret u=>exact I.after hq
  | next=>exact False.elim hq
  | brk=>exact False.elim hq
  | cont=>exact False.elim hq
def zug (sp:Sp) (t:TA):TEx:=fun σ H Q E=>t σ H fun vs H1=>sp vs H1 Q E
def zph {k:Nat} {f:Addr} {fd:FuncData} {ps:List Str} {sp:Sp} {x:Str} {p:Pos} {es:List Expr} {ta:TA} (F:FnOk X.prog X.w X.K X.mg X.base (CX1 X.prog X.w) k f fd ps sp) (hr:Room k X.A) (hg:Gl X x) (hm:X.mg x=some (.ref f)) (hk:W.keepIn X.K (.ref f)=true) (hb:zb7 X.K fd ps [])
  (ha:PA X.nox (e :: es) ta) (hdb:yyD x:=by decide) (he:starEach (e :: es) X.env=(false,eval e X.env) :: starEach es X.env:=by rfl) (hpl:(backTo pos (starEach es X.env)).any (·.1)=false:=by rfl) :
  PEx X (.Call (.Name x p) (e :: es) [] pos) (zug sp ta):=by
 intro pins s σ H Q E I h; refine YT (zcm I hg hm ?_ hdb)
 refine W.callWith_K (h₀:=X.base) I.ok.mod.kin hk (thn (PA.x ha I h) fun us s1 ⟨vs,H1,I1,r,q⟩=>⟨I1.kIn,?_⟩) he hpl
 exact zpg F hr hb I1 r q
end
section
def Fun.okx {x qual:Str} {st:Stmt} {f:Addr} {fd:FuncData} {N ps:List Str} {k:Nat} {sp:Sp} (F:Fun K x qual st f fd) (S:FnScope N ps (zl st)) (len:∀ vs H Q E,sp vs H Q E->vs.length=ps.length)
  (hbody:∀ (cdv:Value) (A:Around) (outer:List Env) (s:Shared) (H:Hp) (vs:List V) (Q:VK) (E:XK),Room k (A.deeper (envOfC qual (zl st) s.heap.objs.size f cdv))->sp vs H Q E ->
   ∃ t,zjr (zdy (CX1 P w) P w K mg base N qual (zl st) f cdv A outer s H E) (zak st) t/\t { nx:=fun _ H'=>Q .non H',rt:=Q } (fun _=>E) (start N vs) H):FnOk P w K mg base (CX1 P w) (k+1) f fd ps sp:=by
 obtain ⟨oc,od,kV,doc,pm,an,cdv,ct,osl,e,lk,cd⟩:=F.ex; subst e
 refine zqL lk cd S len fun A outer s H vs Q E hr h=>?_
 obtain ⟨t,h1,h2⟩:=hbody cdv A outer s H vs Q E hr h
 refine ⟨fun D σ H'=>t D (fun _=>E) σ H',?_,h2⟩
 intro pins s1 σ H1 D I q
 refine yp (h1 pins s1 σ H1 D _ I q) (fun _ _ z=>z) fun v s' z=>?_
 obtain ⟨ae,C,dd,σ',H',rfl,I',fl,hE⟩:=z
 have old:∀ b,zd4 (zdy (CX1 P w) P w K mg base N qual (zl st) f cdv A outer s H E) pins H' b->s.heap.objs.size<=b/\H' b=none:=fun b hb=>by
  obtain ⟨f0,_,_,f3,_⟩:=hb
  rcases f3 with z | z
  ·exact yN (show b ∈ ([]:List Addr) from z) (by simp)
  ·exact ⟨z,f0⟩
 obtain ⟨vs',x1,x2,x3⟩:=fl.ex; refine zsQ I' ⟨(old ae fl.fe).1,(old ae fl.fe).2,vs',x1,x2,?_⟩ hE
 rcases x3 with z | ⟨T,y1,y2,y3,y4⟩
 ·exact .inl z
 ·exact .inr ⟨T,y1,y2,old T y3,y4⟩
end
def zkb (a C:Addr):Heap->Prop:=fun h=>∃ t sl,h.get? a=some ⟨.ref C,none,.fields #[.ref t,.none,.none,.none,.bool false,.none],sl⟩
def zgm (a C dx:Addr):Heap->Prop:=fun h=>∃ t sl,h.get? a=some ⟨.ref C,some dx,.fields #[.ref t,.none,.none,.none,.bool false,.none],sl⟩
def zkn {P:Program} {w:World} {H:Hp} {h:Heap} {a C:Addr} (x:zkb a C h):zap P w H h a (.ext (zkb a C)):=by
 refine ⟨x,?_,fun h1 h2 ⟨t,sl,e⟩ k=>⟨t,sl,k _ e⟩⟩
 obtain ⟨t,sl,e⟩:=x; exact ⟨_,e⟩
def zmI {P:Program} {w:World} {H:Hp} {h:Heap} {a C dx:Addr} (x:zgm a C dx h):zap P w H h a (.ext (zgm a C dx)):=by
 refine ⟨x,?_,fun h1 h2 ⟨t,sl,e⟩ k=>⟨t,sl,k _ e⟩⟩
 obtain ⟨t,sl,e⟩:=x; exact ⟨_,e⟩
def del (H:Hp) (a:Addr):Hp:=fun b=>if b=a then none else H b
def zge {H:Hp} {a:Addr}:del H a a=none:=by unfold del; rw [yM rfl]
def zd3 {H:Hp} {a b:Addr} (h:b≠a):del H a b=H b:=by unfold del; rw [yK h]
def Inv.drop {X:Cx} {pins:yyL} {σ:St} {H:Hp} {s:Shared} {a:Addr} {φ:Heap->Prop} (I:Inv X pins σ H s) (e:H a=some (.ext φ)):Inv X pins σ (del H a) s:=by
 have nx:∀ b u,H b=some u->(∀ ψ,u≠.ext ψ)->b≠a:=fun b u q n z=>by
  rw [z,e] at q; exact n φ (Option.some.inj q).symm
 have le:∀ b,H b=none->del H a b=none:=fun b q=>by
  by_cases z:b=a
  ·rw [z,zge]
  ·rw [zd3 z]; exact q
 refine ⟨I.ok,I.os,I.bare,⟨I.base.keep,I.base.slot,fun b o q n hx=>le b (I.base.free b o q n hx),I.base.there,fun b xs q=>?_,fun b o u q=>?_,fun b ps q=>?_⟩,I.loc,I.cell,le _ I.free,fun x c h=>le _ (I.freeC x c h),fun p hp=>⟨(I.pin p hp).1,le _ (I.pin p hp).2.1,(I.pin p hp).2.2⟩,fun b u q=>?_,I.len⟩
 ·have z:=I.base.tups b xs q
  rw [zd3 (nx b _ z fun _ y=>nomatch y)]
  exact z
 ·have z:=I.base.frzs b o u q
  rw [zd3 (nx b _ z fun _ y=>nomatch y)]
  exact z
 ·obtain ⟨more,z⟩:=I.base.tbls b ps q
  exact ⟨more,by rw [zd3 (nx b _ z fun _ y=>nomatch y)]; exact z⟩
 ·have hb:b≠a:=fun z=>by rw [z,zge] at q; cases q
  rw [zd3 hb] at q
  exact (I.hok b u q).stay (fun _ _ _ z=>z) (fun c z=>by rw [zd3 (nx c _ z fun _ y=>nomatch y)]; exact z) fun c xs z=>by rw [zd3 (nx c _ z fun _ y=>by cases xs <;> nomatch y)]; exact z
def vbm:List Value:=[.type "ValueError",.type "Exception",.type "BaseException",.type "object"]
structure XCl (K:W.Frag) (C N:Addr) (bm:List Value):Prop where
 xc:∀ h:Heap,K.In h->X1.XC h C N bm "ValueError.__new__"
 tail:∀ h:Heap,K.In h->OwnTail h vbm bm
 base:bm.contains (.type "BaseException")=true
 kp:W.keepIn K (.ref C)=true
structure XIn (K:W.Frag) (N f:Addr):Prop where
 ns:∀ h:Heap,K.In h->∃ mN,h.Ns N mN/\mN "__init__"=some (.ref f)
 fn:∀ h:Heap,K.In h->∃ o,h.get? f=some o/\o.cls=.type "function"
def ztD (C:Addr) (fld:Str) (ok:V->Hp->Prop):Sp:=fun vs H Q _=>∃ a v,vs=[.ref a,v]/\H a=some (.ext (zkb a C))/\ok v H/\∀ dx,H dx=none->Q .non (upd (upd H dx (.xd [(fld,v)])) a (.ext (zgm a C dx)))
section
def zrp (C:Addr) (fld:Str) (ok:V->Hp->Prop) (ta:TA):TSx:=fun _ E σ H=>ta σ H fun vs H1=>∃ v,vs=[v]/\(∀ a o,H1 a=none->ok v (upd H1 a o))/\∀ dx,H1 dx=none->E σ (.ref C) (some dx) (upd H1 dx (.xd [(fld,v)]))
def zmH {k:Nat} {C N f:Addr} {bm:List Value} {fd:FuncData} {ps:List Str} {fld x:Str} {ok:V->Hp->Prop} {e:Expr} {ta:TA} {p cpos pos:Pos} (hc:X.calm=true) (T:XCl X.K C N bm) (TI:XIn X.K N f) (F:FnOk X.prog X.w X.K X.mg X.base CX0 k f fd ps (ztD C fld ok)) (hr:Room (k+1) X.A) (hb:zb7 X.K fd ps [])
  (hg:Gl X x) (hm:X.mg x=some (.ref C)) (ha:PA X.nox [e] ta) (hs:starEach [e] X.env=(false,eval e X.env) :: starEach [] X.env:=by rfl) (hdb:yyD x:=by decide) :
  PSx X (.Raise (some (.Call (.Name x p) [e] [] cpos)) none pos) (zrp C fld ok ta):=by
 intro pins s σ H D E I h; rw [arm_exec_Raise]; refine yA (wpAny_standAt ?_)
 show wpAny _ _ (raiseStmt X.env (some (do let v <- eval (.Call (.Name x p) [e] [] cpos) X.env; standAt pos; pure v)) none) _ _ _
 refine X1.raise_at (C:=C) (N:=N) (nid:="ValueError.__new__") T.base (I.ok.hd hc) (yA ?_); refine YT (zcm I hg hm ?_ hdb)
 refine W.callWith_K (h₀:=X.base) I.ok.mod.kin T.kp (thn (PA.x ha I h) fun us s1 ⟨vs,H1,I1,r,v,ev,q0,q⟩=>⟨I1.kIn,?_⟩) hs rfl
 subst ev; obtain ⟨u,rfl,ru⟩:=zcH r; obtain ⟨hh,g,d,t,os⟩:=s1; obtain ⟨mN,hN,hi⟩:=TI.ns hh I1.kIn; obtain ⟨oI,hfI,hfc⟩:=TI.fn hh I1.kIn
 refine X1.make_init PySem.F.excBase_ValueError (T.tail hh I1.kIn) (T.xc hh I1.kIn) hN hi hfI hfc (by show 1<=sizeLine; exact Nat.le_of_lt (zaS (by decide))) ?_
 -- the new exception is tracked while its __init__ runs
 have fresh:H1 (hh.objs.size+1)=none:=I1.hok.fresh (Nat.le_succ _)
 have I2:Inv X pins σ (upd H1 (hh.objs.size+1) (.ext (zkb (hh.objs.size+1) C))) ⟨X1.madeX hh C [u],g,d,t,os⟩ :=
  I1.laid (a:=hh.objs.size+1) (o:=.ext (zkb (hh.objs.size+1) C)) (t':=t) X1.madeX_keep (Nat.le_succ _) (zkn ⟨hh.objs.size,#[],X1.madeX_at⟩)
 have rv:zah [V.ref (hh.objs.size+1),v] [Value.ref (hh.objs.size+1),u]:=.cons rfl (.cons ru .nil)
 have hsp:ztD C fld ok [.ref (hh.objs.size+1),v] (upd H1 (hh.objs.size+1) (.ext (zkb (hh.objs.size+1) C)))
   (fun y H2=>y=.non/\∃ dx,H1 dx=none/\dx≠hh.objs.size+1/\H2=upd (upd (upd H1 (hh.objs.size+1) (.ext (zkb (hh.objs.size+1) C))) dx (.xd [(fld,v)])) (hh.objs.size+1) (.ext (zgm (hh.objs.size+1) C dx))) E0:=by
  refine ⟨_,v,rfl,zp,q0 _ _ fresh,fun dx hdx=>⟨rfl,dx,?_,?_,rfl⟩⟩
  ·by_cases z:dx=hh.objs.size+1
   ·rw [z,zp] at hdx; cases hdx
   ·rwa [zq z] at hdx
  ·intro z
   rw [z,zp] at hdx; cases hdx
 have hl:([Value.ref (hh.objs.size+1),u] ++ []).length=ps.length:=by
  have:=F.len _ _ _ _ hsp
  rw [yb]; exact this
 have hb':=hb ⟨X1.madeX hh C [u],g,d,t,os⟩ [Value.ref (hh.objs.size+1),u] I2.kIn hl; rw [yb] at hb'
 refine wpAny_call (codeAny_mono (F.run _ X.stack _ _ ⟨[Value.ref (hh.objs.size+1),u],[]⟩ _ _ _ E0 (hr.make C [u] []) (I2.env0.make C [u] []) hb' rv hsp) fun r s' hq'=>?_)
 cases r with
 | error z=>exact (show False from hq').elim
 | ok fl =>
  cases fl with
  | ret y =>
   obtain ⟨y',H',I3,ry,rfl,dx,hdx,hne,rfl⟩:=I2.after hq'
   obtain rfl:y=Value.none:=ry
   refine ⟨rfl,?_⟩; have I4:=I3.drop (a:=hh.objs.size+1) zp
   have eH:del (upd (upd (upd H1 (hh.objs.size+1) (.ext (zkb (hh.objs.size+1) C))) dx (.xd [(fld,v)])) (hh.objs.size+1) (.ext (zgm (hh.objs.size+1) C dx))) (hh.objs.size+1)=upd H1 dx (.xd [(fld,v)]):=by
    funext b
    by_cases z:b=hh.objs.size+1
    ·rw [z,zge,zq (Ne.symm hne),fresh]
    ·rw [zd3 z,zq z]
     by_cases y:b=dx
     ·rw [y,zp,zp]
     ·rw [zq y,zq y,zq z]
   rw [eH] at I4
   obtain ⟨⟨t0,sl,hx⟩,_⟩:=(show zap X.prog X.w _ s'.heap (hh.objs.size+1) (.ext (zgm (hh.objs.size+1) C dx)) from I3.hok _ _ zp)
   refine yA (wpAny_standAt (yF ⟨hh.objs.size+1,some dx,_,sl,rfl,T.xc _ I4.kIn,hx,rfl,hh.objs.size+1,C,some dx,σ,_,rfl,I4,⟨?_,_,⟨sl,hx⟩,by simp,.inl ⟨rfl,rfl⟩⟩,q dx hdx⟩))
   exact I1.fpOk (Nat.le_succ _) (by rw [zq (Ne.symm hne)]; exact fresh)
  | next=>exact False.elim hq'
  | brk=>exact False.elim hq'
  | cont=>exact False.elim hq'
end
def zrs {H:Hp} {a:Addr} {o:HO} (h:H a=some o):upd H a o=H:=by
 funext b
 by_cases z:b=a
 ·rw [z,zp,h]
 ·rw [zq z]
structure BIn (K:W.Frag) (M:Addr):Prop where
 sp:W.specialIn K (.ref M) "__getattribute__"=some (some (.builtin "type.__getattribute__"))
 rd:W.readsIn K M (.type "type")=true
 fd:W.findCls K (.ref M) (.type "type") "__init__"=some (.val (.builtin "ValueError.__init__"))
section
def tBI (K:W.Frag) (ta:TA):TE:=fun σ H Q=>ta σ H fun vs H1=>∃ a C N bm z,vs=[.ref a,.str z]/\H1 a=some (.ext (zkb a C))/\XCl K C N bm/\Q .non H1
def znw {M:Addr} {x:Str} {p apos pos:Pos} {e:Expr} {es:List Expr} {ta:TA} {pl:Sem Bool} (B:BIn X.K M) (hg:Gl X x) (hm:X.mg x=some (.ref M)) (ha:PA X (e :: es) ta) (hdb:yyD x:=by decide)
  (he:starEach (e :: es) X.env=(false,eval e X.env) :: starEach es X.env:=by rfl) (hpl:(backTo pos (starEach es X.env)).any (·.1)=false:=by rfl)
  (ht:eval (.Call (.Attribute (.Name x p) "__init__" apos) (e :: es) [] pos) X.env=(do
   let ov <- eval (.Name x p) X.env
   standAt apos.atName
   let (f,first) <- holding [ov] (getMethod ov "__init__" pl)
   callWith pos f first (backTo pos (starEach (e :: es) X.env)) (backToKw pos (keywordEach [] X.env))):=by rfl) :
  PE X (.Call (.Attribute (.Name x p) "__init__" apos) (e :: es) [] pos) (tBI X.K ta):=by
 intro pins s σ H Q I h; refine W.methodCall_KW (pl:=pl) (zcm I hg hm ?_ hdb) ht; refine W.method_cls I.kIn B.sp (W.cls_value I.kIn B.rd B.fd rfl ?_)
 refine PyProof.Rows.callWith_builtin1 (thn (ha pos pins _ σ H _ (I.tok _) h) fun us s1 ⟨vs,H1,I1,r,a,C,N,bm,z,ev,hx,T,q⟩=>?_) he hpl
 subst ev; obtain ⟨u,w',rfl,r1,r2⟩:=zkw r
 obtain rfl:u=Value.ref a:=r1
 obtain ⟨tk,rfl⟩:=(show ∃ t,w'=Value.str z t from r2)
 obtain ⟨⟨t0,sl,hxo⟩,_⟩:=(show zap X.prog X.w H1 s1.heap a (.ext (zkb a C)) from I1.hok a _ hx)
 obtain ⟨hh,g,d,t,os⟩:=s1
 refine X1.base_init PySem.F.excBase_ValueError (T.tail hh I1.kIn) (T.xc hh I1.kIn) hxo rfl (by show 1<=sizeLine; exact Nat.le_of_lt (zaS (by decide))) ?_
 have hp:(hh.push (X1.tupX [.str z tk])).get? a=some ⟨.ref C,none,.fields #[.ref t0,.none,.none,.none,.bool false,.none],sl⟩:=yB _ hxo
 have hu:=X1.upd_fields (f:=(·.setIfInBounds 0 (Value.ref hh.objs.size))) hp
 have I2:=I1.write (x:=a) (e:=a) (o:=.ext (zkb a C)) (t':=t) (h':=(hh.push (X1.tupX [.str z tk])).update a (Obj.mapFields (·.setIfInBounds 0 (Value.ref hh.objs.size)))) (by rw [hx]; exact True.intro) (.inl rfl)
  (fun b o hb e=>by rw [yj _ _ (Ne.symm hb)]; exact yB _ e) ⟨_,hu⟩ (zkn ⟨hh.objs.size,sl,hu⟩)
 rw [zrs hx] at I2; exact ⟨.non,H1,I2,rfl,q⟩
def zuD (K:W.Frag) (ta tv:TE) (f:Str):TS:=fun D σ H=>tv σ H fun y H1=>ta σ H1 fun x H2=>∃ a C,x=.ref a/\H2 a=some (.ext (zkb a C))/\X1.XSet K C/\zcS K C f/\∀ dx,H2 dx=none->D.nx σ (upd (upd H2 dx (.xd [(f,y)])) a (.ext (zgm a C dx)))
def zpN {o value:Expr} {f:Str} {pos pos':Pos} {ta tv:TE} (ha:PE X o ta) (hv:PE X value tv) (hs:swapsWith value (some (.Attribute o f pos')) pos.line X.env=pure false):PS X (.Assign [.Attribute o f pos'] value pos) (zuD X.K ta tv f):=by
 intro pins s σ H D I h
 refine plainObj_wpAny_Assign_Attribute (thn (hv pins s σ H _ I h) fun u s1 ⟨y,H1,I1,ry,q⟩=>thn (ha pins s1 σ H1 _ I1 q) fun ov s2 ⟨x,H2,I2,rx,a,C,ex,ea,T,n,q2⟩=>?_) hs
 subst ex
 obtain rfl:ov=Value.ref a:=rx
 obtain ⟨⟨t0,sl,hxo⟩,_⟩:=(show zap X.prog X.w H2 s2.heap a (.ext (zkb a C)) from I2.hok a _ ea)
 refine X1.xset1 I2.kIn T n.taker hxo fun h' x1 x2 x3=>?_
 have fr:H2 s2.heap.objs.size=none:=I2.hok.fresh (yD _)
 have hne:a≠s2.heap.objs.size:=yU (yI hxo)
 -- first the object is written, then its dict is laid
 have un:Un X.fs [] H2 (upd (upd H2 s2.heap.objs.size (.xd [(f,y)])) a (.ext (zgm a C s2.heap.objs.size))) s2.heap h':=by
  have na:∀ b,H2 b=none->b≠a:=fun b z w=>by rw [w,ea] at z; cases z
  have nd:∀ b o,s2.heap.get? b=some o->b≠s2.heap.objs.size:=fun b o e=>yU (yI e)
  refine ⟨fun b o e n _ _=>x3 b o (na b n) e,fun b o e n _ _=>⟨o.slots,x3 b o (na b n) e⟩,fun b o e n _=>?_,fun b o e _=>?_,fun b xs e=>?_,fun b o u e=>?_,fun b ps e=>?_⟩
  ·rw [zq (na b n),zq (nd b o e)]; exact n
  ·by_cases z:b=a
   ·exact ⟨_,by rw [z]; exact x1⟩
   ·exact ⟨o,x3 b o z e⟩
  ·rw [zq (zlm e ea fun z=>nomatch z),zq (zA e fr)]; exact e
  ·rw [zq (zlm e ea fun z=>nomatch z),zq (zA e fr)]; exact e
  ·exact ⟨#[],by rw [zq (zlm e ea fun z=>nomatch z),zq (zA e fr),e]; simp⟩
 have hok:HOk X.prog X.w (upd (upd H2 s2.heap.objs.size (.xd [(f,y)])) a (.ext (zgm a C s2.heap.objs.size))) h':=by
  intro b o e
  by_cases z:b=a
  ·subst z
   rw [zp] at e; cases e; exact zmI ⟨t0,sl,x1⟩
  ·rw [zq z] at e
   by_cases z2:b=s2.heap.objs.size
   ·subst z2
    rw [zp] at e; cases e
    refine ⟨_,x2,fun g=>?_⟩
    by_cases eg:g=f
    ·have hb:(g == f)=true:=beq_iff_eq.mpr eg
     simp only [List.lookup,hb,yM eg]; exact ry
    ·have hb:(g == f)=false:=beq_eq_false_iff_ne.mpr eg
     simp only [List.lookup,hb,yK eg]; exact True.intro
   ·rw [zq z2] at e
    have noA:∀ c u,H2 c=some u->(∀ ψ,u≠.ext ψ)->c≠a:=fun c u hc hn zz=>by
     rw [zz,ea] at hc; exact hn _ (Option.some.inj hc).symm
    refine (I2.hok b o e).stay (fun c v hc r=>x3 c v ?_ r) (fun c r=>by rw [zq (noA c _ r fun _ zz=>nomatch zz),zq (zA r fr)]; exact r) fun c xs r=>by rw [zq (noA c _ r fun _ zz=>by cases xs <;> nomatch zz),zq (zA r fr)]; exact r
    rcases hc with rfl | hc
    ·exact z
    ·exact noA c _ hc fun _ zz=>nomatch zz
 exact ⟨σ,_,I2.un (t':=s2.toks+2) un hok,q2 _ fr⟩
def Rep (X:Cx) (v:V) (H:Hp) (n:Nat):Prop:=∀ (pins:yyL) (s:Shared) (σ:St) (u:Value) (E:Value->Shared->Prop) (Q:Value->Shared->Prop),Inv X pins σ H s->zaw v u->(∀ z t s',z.length<=n->Inv X pins σ H s'->Q (.str z t) s')->wpAny (model X.prog X.w) X.A (pyReprObj u) Q E s
def tFR (X:Cx) (n:Nat) (te:TE):TE:=fun σ H Q=>te σ H fun v H1=>Rep X v H1 n/\∀ z,Q (.str z) H1
def zlX (c:Str):(Str.empty ++ c).length=c.length:=by
 rw [strLen_append]
 show 0+c.length=c.length
 omega
end
abbrev Cx.mark (X:Cx) (e:Value):Cx:={ X with A:=X.A.mark (some e),calm:=false,xe:=fun _ _=>False }
def zq8:Option Value->List Addr
 | some (.ref b)=>[b]
 | _=>[]
def zmZ {o:Option Value} {b:Addr}:b ∈ zq8 o↔o=some (.ref b):=by
 cases o with
 | none=>simp [zq8]
 | some v=>cases v <;> simp [zq8,eq_comm]
section
def Inv.mark (I:Inv X pins σ H s) (e:Value):Inv (X.mark e) pins σ H s :=
 ⟨⟨I.ok.mod,I.ok.kind,I.ok.glob,I.ok.blt,I.ok.above,I.ok.inj,I.ok.has,I.ok.cab,fun z=>(nomatch (show false=true from z)),I.ok.frames,I.ok.stk,I.ok.exf,I.ok.bs,I.ok.bsz,I.ok.noex,I.ok.exfs,I.ok.funs,I.ok.frf,I.ok.tab⟩,I.os,I.bare,I.base,I.loc,I.cell,I.free,I.freeC,I.pin,I.hok,I.len⟩
def Inv.unmark {e:Value} (ok:X.Ok) (I:Inv (X.mark e) pins σ H s):Inv X pins σ H s :=
 ⟨ok,I.os,I.bare,I.base,I.loc,I.cell,I.free,I.freeC,I.pin,I.hok,I.len⟩
def zth {M:Model} {A:Around} {E:Value->Shared->Prop} {i:Nat} {x:Str} {Q:Bool->Shared->Prop} (I:Inv X pins σ H s) (hN:X.N.Nodup) (hi:X.N[i]?=some x) (hk:X.env.scope.names.lookup x=some .local) {v:V} (hv:σ[i]?=some (some v))
  (h:∀ s',Inv X pins (σ.set i none) H s'->Q true s'):wpAny M A (nsDel X.env.locals x) Q E s:=by
 obtain ⟨m,hn,hl⟩:=id I.loc; have cne:=I.cne; obtain ⟨oL,_,_,hoL,_⟩:=id hn
 have hm:(m x).isSome=true:=by
  obtain ⟨u,r,q⟩:=hl i x v hi hv (.inl hk)
  rcases q with ⟨_,e⟩ | ⟨k,_⟩
  ·rw [e]; rfl
  ·have k':X.env.scope.names.lookup x=some .cell\/X.env.scope.names.lookup x=some .free:=k
   rw [hk] at k'
   rcases k' with z | z <;> cases z
 refine wpAny_nsDel_keeps hn fun h' v' hn' hs=>?_
 rw [hm]
 have tracked:HOk X.prog X.w H h':=fun b ob e=>by
  refine (I.hok b ob e).stay (fun c w' hc q=>(hs.2 c ?_).trans q) (fun _ q=>q) fun _ _ q=>q
  rintro rfl
  rcases hc with rfl | hc
  ·rw [I.free] at e; cases e
  ·rw [I.free] at hc; cases hc
 refine h _ ⟨I.ok,I.os,I.bare,⟨fun b o e n hb hx=>?_,fun b o e n hb hx=>?_,I.base.free,fun b o e hx=>?_,I.base.tups,I.base.frzs,I.base.tbls⟩,⟨_,hn',fun j y w' e1 e2 e3=>?_⟩,fun y c e=>?_,I.free,I.freeC,fun p hp=>?_,tracked,by simpa using I.len⟩
 ·exact (hs.2 b (yU (yT (yI e) I.ok.above))).trans (I.base.keep b o e n hb hx)
 ·obtain ⟨sl,e1⟩:=I.base.slot b o e n hb hx
  exact ⟨sl,(hs.2 b (yU (yT (yI e) I.ok.above))).trans e1⟩
 ·obtain ⟨o',e1⟩:=I.base.there b o e hx
  exact ⟨o',(hs.2 b (yU (yT (yI e) I.ok.above))).trans e1⟩
 ·by_cases hj:j=i
  ·subst hj
   rw [YG (yG.mp hv).1] at e2; cases e2
  ·rw [yZ (Ne.symm hj)] at e2
   obtain ⟨u',r',q⟩:=hl j y w' e1 e2 e3; refine ⟨u',r',?_⟩
   rcases q with ⟨k,e⟩ | ⟨k,c,e,z⟩
   ·refine .inl ⟨k,?_⟩
    have:y≠x:=fun e=>hj (zf6 hN e1 (e ▸ hi))
    simp [this,e]
   ·exact .inr ⟨k,c,e,z.sameBut hs (cne y c e)⟩
 ·obtain ⟨w',z⟩:=I.cell y c e
  exact ⟨w',z.sameBut hs (cne y c e)⟩
 ·obtain ⟨e,n,ne,nf,d⟩:=I.pin p hp
  exact ⟨(hs.2 p.1 ne).trans e,n,ne,nf,d⟩
def zgd {M:Model} {A:Around} {E:Value->Shared->Prop} {i:Nat} {x:Str} {pos:Pos} {Q:Unit->Shared->Prop} (I:Inv X pins σ H s) (hN:X.N.Nodup) (hi:X.N[i]?=some x) (hk:X.env.scope.names.lookup x=some .local)
  (h:∀ s',Inv X pins (σ.set i none) H s'->Q () s'):wpAny M A (do bindName X.env x .none; unbindBehindTheSuite X.env x pos) Q E s:=by
 have hiσ:i<σ.length:=by rw [I.len]; exact (yG.mp hi).1
 refine yA (wpAny_bindName (zdi (v:=.non) I hN hi (.inl hk) rfl (fun s1 I1=>?_) (.inr hk)))
 unfold unbindBehindTheSuite; refine wpAny_onRaise ?_; unfold unbindName; refine yA (wpAny_point (yA ?_))
 have hp:(X.env.scope.kind == .class || (X.env.scope.kind == .module && X.env.locals != X.env.globals))=false:=by rw [I.ok.kind]; rfl
 have hl:X.env.kindOf x=some .local:=hk
 unfold deleteName; simp only [hl,hp]
 rw [yK (by decide)]
 refine yA (zth (v:=.non) I1 hN hi hk (YG hiσ) fun s2 I2=>?_)
 simp only [Bool.not_true,YL,if_false]; rw [List.set_set] at I2; exact yF (wpAny_point (h s2 I2))
def zro {P:Program} {w:World} {H:Hp} {h:Heap} {a C:Addr} {dd:Option Addr} (x:XAt a C dd h):zap P w H h a (.ext (XAt a C dd)):=by
 refine ⟨x,?_,fun h1 h2 ⟨t,sl,e⟩ k=>⟨t,sl,k _ e⟩⟩
 obtain ⟨t,sl,e⟩:=x; exact ⟨_,e⟩
def Inv.track {a:Addr} {φ:Heap->Prop} (I:Inv X pins σ H s) (f:zd4 X pins H a) (new:zap X.prog X.w (upd H a (.ext φ)) s.heap a (.ext φ)):Inv X pins σ (upd H a (.ext φ)) s:=by
 obtain ⟨f0,f1,f2,f3,f4,f5⟩:=f
 have sm:∀ b u,H b=some u->upd H a (.ext φ) b=some u:=fun b u e=>by rw [zq (zA e f0)]; exact e
 refine ⟨I.ok,I.os,I.bare,⟨I.base.keep,I.base.slot,fun b o e n hx=>?_,I.base.there,fun b xs e=>sm _ _ (I.base.tups b xs e),fun b o u e=>sm _ _ (I.base.frzs b o u e),fun b ps e=>?_⟩,I.loc,I.cell,?_,fun x c e=>?_,fun p hp=>?_,fun b u e=>?_,I.len⟩
 ·have:b≠a:=fun z=>by
   rcases f3 with y | y
   ·exact hx (by rw [z]; exact y)
   ·exact yN (yT (yI e) (by rw [z]; exact y)) (YX _)
  rw [zq this]; exact I.base.free b o e n hx
 ·obtain ⟨more,z⟩:=I.base.tbls b ps e
  exact ⟨more,sm _ _ z⟩
 ·rw [zq (Ne.symm f1)]; exact I.free
 ·rw [zq (f4 x c e)]; exact I.freeC x c e
 ·obtain ⟨e,n,ne,nf,d⟩:=I.pin p hp
  exact ⟨e,by rw [zq (f5 p hp)]; exact n,ne,nf,d⟩
 ·by_cases z:b=a
  ·subst z
   rw [zp] at e; cases e; exact new
  ·rw [zq z] at e
   exact (I.hok b u e).stay (fun _ _ _ q=>q) (fun c q=>sm _ _ q) fun c xs q=>sm _ _ q
def zpo {E:Value->Shared->Prop} {e C:Addr} {dd:Option Addr} {Q:Unit->Shared->Prop} (hst:X.stack=X.env :: X.outer) (hf:X.env.frame=some X.env.locals) (I:Inv X pins σ H s) (F:FlyI X pins H s.heap e C dd)
  (q:∀ s' T vs,Inv X pins σ H s'->zd4 X pins H e->zd4 X pins H T->T≠e->X1.Ex s'.heap e (.ref C) dd vs->vs[1]?=some (.ref T)->X1.Ent s'.heap T .none->Q () s') :
  wpAny (model X.prog X.w) X.A (noteFrame (.ref e) X.env) (fun _ s2=>wpAny (model X.prog X.w) X.A (setFlight (.ref e) none) Q E s2) E s:=by
 obtain ⟨vs,hx,hs,hd⟩:=F.ex
 have hR:∀ b,(b=e\/vs[1]?=some (.ref b))->zd4 X pins H b:=fun b hb=>by
  rcases hb with rfl | hb
  ·exact F.fe
  ·rcases hd with ⟨h,_⟩ | ⟨T,h1,_,h3,_⟩
   ·rw [hb] at h; cases h
   ·rw [hb] at h1
    cases h1; exact h3
 have hd':X1.Hd s.heap e vs .none (fun b=>b=e\/vs[1]?=some (.ref b)):=by
  rcases hd with h | ⟨T,h1,h2,h3,h4⟩
  ·exact .inl h
  ·exact .inr ⟨T,h1,h2,.inr h1,h4⟩
 have hstk:s.heap.FunFrames X.base (X.env :: X.outer):=by rw [<- hst]; exact I.stack
 have hfr:X.A.frames=some (X.env :: X.outer):=by rw [<- hst]; exact I.ok.frames
 refine X1.note (R:=fun b=>b=e\/vs[1]?=some (.ref b)) hfr hstk hf hx hs hd' (.inl rfl) fun h' T vs' x1 x2 x3 x4 x5 x6 x7=>?_
 -- the state behind it
 have fs:∀ b,b ∈ (X.env :: X.outer).filterMap (·.frame)↔b ∈ frs X.stack:=fun b=>by rw [hst]; exact Iff.rfl
 have hfrN:∀ b ∈ frs X.stack,H b=none:=I.stkFree
 have hch:∀ b,b ∈ e :: zq8 vs[1]?↔(b=e\/vs[1]?=some (.ref b)):=fun b=>by rw [yP,zmZ]
 have un:Un (frs X.stack) (e :: zq8 vs[1]?) H H s.heap h':=by
  refine ⟨fun b o eb n hb hx=>x7.keep b o eb (fun z=>hx ((hch b).mpr z)) (fun z=>hb ((fs b).mp z)),fun b o eb n hb hx=>x7.slot b o eb (fun z=>hx ((hch b).mpr z)) ((fs b).mpr hb),fun b o eb n hx=>n,fun b o eb hx=>?_,fun _ _ z=>z,fun _ _ _ z=>z,fun b ps z=>⟨#[],by rw [z]; simp⟩⟩
  by_cases z:b ∈ frs X.stack
  ·obtain ⟨sl,e2⟩:=x7.slot b o eb (fun z=>hx ((hch b).mpr z)) ((fs b).mpr z)
   exact ⟨_,e2⟩
  ·exact ⟨o,x7.keep b o eb (fun z=>hx ((hch b).mpr z)) fun y=>z ((fs b).mp y)⟩
 have hok:HOk X.prog X.w H h':=zoV I.hok x7 (fun b hb=>(hR b hb).1) (fun b hb=>hfrN b ((fs b).mp hb))
 have I1:Inv X pins σ H { s with heap:=h' }:=I.call (g':=s.gens) (t':=s.toks) (d':=s.drawn) (ch:=e :: zq8 vs[1]?) un hok I.bare fun b hb=>by
  obtain ⟨_,y1,_,y3,y4,y5⟩:=hR b ((hch b).mp hb); exact ⟨y3,y1,y4,y5⟩
 have hT:H T=none:=I.hok.fresh x5
 have fT:zd4 X pins H T:=I.fpOk x5 hT
 refine X1.flight (s:={ s with heap:=h' }) (R:=fun _=>True) x1 x3 x4 x6 True.intro fun h2 y1 y2 y3 y4=>?_
 obtain ⟨g0,g1,g2,g3,g4,g5⟩:=id fT
 exact q _ T vs' (I1.turned (t':=s.toks) (fun b o hb eb=>by rw [y3 b hb]; exact eb) g0 g1 g3 g4 g5) F.fe fT x4 y1 x3 y2
end
section
def zv1 (K:W.Frag) (M:Addr) (i:Nat) (tb:TSx) (ts:TS):TSx:=fun D _ σ H=>tb D (fun σ1 c dd H1=>∃ C,c=.ref C/\W.exmOne K c (.ref M)=some true/\∀ ae,H1 ae=none ->
 ts { nx:=fun σ2 H2=>D.nx (σ2.set i none) H2,rt:=D.rt,bk:=fun σ2 H2=>D.bk (σ2.set i none) H2,ct:=fun σ2 H2=>D.ct (σ2.set i none) H2 } (σ1.set i (some (.ref ae))) (upd H1 ae (.ext (XAt ae C dd)))) σ H
def zrj {M:Addr} {i:Nat} {x n:Str} {body suite:List Stmt} {b0:Stmt} {tb:TSx} {ts:TS} {p hpos pos:Pos} (hst:X.stack=X.env :: X.outer) (hf:X.env.frame=some X.env.locals) (hb:zjr X body tb) (hs:∀ e,PSs (X.mark e) (b0 :: suite) ts) (hg:Gl X x) (hm:X.mg x=some (.ref M)) (hN:X.N.Nodup) (hi:X.N[i]?=some n)
  (hk:X.env.scope.names.lookup n=some .local) (hdb:yyD x:=by decide):PSx X (.Try body [.ExceptHandler (some (.Name x p)) (some n) (b0 :: suite) hpos] [] [] pos) (zv1 X.K M i tb ts):=by
 intro pins s σ H D E I h
 refine wpAny_Try_except (yp (hb pins s σ H D _ I h) (fun f s1 q=>?_) fun v s1 q=>?_)
 ·cases f with
  | next=>exact JE q
  | ret v=>exact q
  | brk=>exact q
  | cont=>exact q
 ·obtain ⟨ae,C,dd,σ1,H1,rfl,I1,F,C',hC,hx,q⟩:=q
  obtain rfl:C=C':=Value.ref.inj hC
  refine zpo hst hf I1 F fun s2 T vs I2 fe fT hne x1 x2 x3=>?_
  refine wpAny_handleBy_cons (codeAny_handlers_test ?_) (by intro q; cases q)
  refine zcm (X:=X.mark (.ref ae)) (I2.mark (.ref ae)) hg hm ?_ hdb; obtain ⟨sl,x1'⟩:=id x1
  have LT:W.Looks (model X.prog X.w) s2.heap (typeOf (.ref ae)) (.ref C):=(W.Looks.ld x1').andThen .now
  refine (W.exm_one I2.kIn LT hx).at ?_
  show codeAny _ _ _ _ _
  refine codeAny_handlers_suite_as ?_
  refine X1.flight (R:=fun _=>True) x1 x2 hne x3 True.intro fun h3 y1 y2 y3 y4=>?_
  obtain ⟨g0,g1,g2,g3,g4,g5⟩:=id fT
  have I3:Inv X pins σ1 H1 { s2 with heap:=h3 }:=I2.turned (t':=s2.toks) (fun b o hb eb=>by rw [y3 b hb]; exact eb) g0 g1 g3 g4 g5
  obtain ⟨sl3,y1'⟩:=id y1
  have I4:Inv X pins σ1 (upd H1 ae (.ext (XAt ae C dd))) { s2 with heap:=h3 }:=I3.track fe (zro ⟨_,sl3,y1'⟩)
  refine zdi (X:=X) (v:=.ref ae) I4 hN hi (.inl hk) rfl (fun s5 I5=>?_) (.inr hk)
  refine yp (hs (.ref ae) pins s5 _ _ _ (I5.mark (.ref ae)) (q ae fe.1)) (fun f s6 q6=>?_) fun _ _ z=>False.elim z
  cases f with
  | next =>
   obtain ⟨σ6,H6,I6,q6⟩:=q6
   exact zgd (I6.unmark I.ok) hN hi hk fun s7 I7=>⟨_,_,I7,q6⟩
  | brk =>
   obtain ⟨σ6,H6,I6,q6⟩:=q6
   exact zgd (I6.unmark I.ok) hN hi hk fun s7 I7=>⟨_,_,I7,q6⟩
  | cont =>
   obtain ⟨σ6,H6,I6,q6⟩:=q6
   exact zgd (I6.unmark I.ok) hN hi hk fun s7 I7=>⟨_,_,I7,q6⟩
  | ret u =>
   obtain ⟨v6,σ6,H6,I6,r6,q6⟩:=q6
   exact zgd (I6.unmark I.ok) hN hi hk fun s7 I7=>⟨_,_,_,I7,r6,q6⟩
end
end L2
namespace PL
open PySem L2
abbrev XW:=Addr->List (Str × D)->Sts->Prop
abbrev zq3:=Sts->(D->Sts->Prop)->XW->Prop
abbrev zij:=Ends'->XW->Sts->Prop
def zon (K:W.Frag) (n:Nat) (W:Wd) (Hi:Hp) (E:XW) (E2:XS):Prop:=∀ σ' H' Hi' Γ' C dd fs,zY Hi Hi'->Good K n W Hi' Γ' σ' H'->zo8 K Hi' dd fs->E C fs Γ'->E2 σ' (.ref C) dd H'
def zon.mono {K:W.Frag} {n:Nat} {W:Wd} {Hi Hi':Hp} {E:XW} {E2:XS} (l:zon K n W Hi E E2) (s:zY Hi Hi'):zon K n W Hi' E E2:=fun σ' H' Hi2 Γ' C dd fs e=>l σ' H' Hi2 Γ' C dd fs (s.trans e)
def zv5 (K:W.Frag) (n:Nat) (t:zq3):TEx:=fun σ H Q2 E2=>∃ W Hi Γ Q E,Good K n W Hi Γ σ H/\t Γ Q E/\(∀ v H',ztw K n W Hi σ Q v H'->Q2 v H')/\∀ H' Hi' Γ' C dd fs,zY Hi Hi'->Good K n W Hi' Γ' σ H'->zo8 K Hi' dd fs->E C fs Γ'->E2 (.ref C) dd H'
def zvJ (K:W.Frag) (n:Nat) (t:zij):TSx:=fun N2 E2 σ H=>∃ W Hi Γ N E,Good K n W Hi Γ σ H/\t N E Γ/\Lifts K n W Hi N N2/\zon K n W Hi E E2
structure PEx' (X:Cx) (e:Expr) (t:zq3):Prop where
 h:PEx X e (zv5 X.K X.N.length t)
structure PSx' (X:Cx) (s:Stmt) (t:zij):Prop where
 h:PSx X s (zvJ X.K X.N.length t)
structure PSsx' (X:Cx) (s:List Stmt) (t:zij):Prop where
 h:zjr X s (zvJ X.K X.N.length t)
section
variable {pos:Pos} {e:Expr} {te:zq3} {st:Stmt} {zbq:List Stmt} {t u:zij}
def PEx.weak {t t2:TEx} (h:PEx X e t) (w:∀ σ H Q E,t2 σ H Q E->t σ H Q E):PEx X e t2:=fun pins s σ H Q E I q=>h pins s σ H Q E I (w _ _ _ _ q)
def PSx.weak {t t2:TSx} (h:PSx X st t) (w:∀ N E σ H,t2 N E σ H->t N E σ H):PSx X st t2:=fun pins s σ H N E I q=>h pins s σ H N E I (w _ _ _ _ q)
def zjr.weak {sts:List Stmt} {t t2:TSx} (h:zjr X sts t) (w:∀ N E σ H,t2 N E σ H->t N E σ H):zjr X sts t2:=fun pins s σ H N E I q=>h pins s σ H N E I (w _ _ _ _ q)
def xS (t:TS'):zij:=fun N _ Γ=>t N Γ
def PS'.x {t:TS'} (h:PS' X.nox st t):PSx' X st (xS t):=by
 refine ⟨PSx.weak (PS.x (X:=X) h.h) ?_⟩
 rintro N2 E2 σ H ⟨W,Hi,Γ,N,E,g,q,l,_⟩
 exact ⟨W,Hi,Γ,N,g,q,l⟩
def zfD:PSsx' X [] (xS zO):=by
 refine ⟨zjr.weak zpd ?_⟩
 rintro N2 E2 σ H ⟨W,Hi,Γ,N,E,g,q,l,_⟩
 exact l.nx σ H Hi Γ (zY.refl _) g q
def zkq (t u:zij):zij:=fun N E Γ=>t { N with nx:=u N E } E Γ
def zaH (h1:PSx' X st t) (h2:PSsx' X zbq u):PSsx' X (st :: zbq) (zkq t u):=by
 refine ⟨zjr.weak (zmG h1.h h2.h) ?_⟩
 rintro N2 E2 σ H ⟨W,Hi,Γ,N,E,g,q,l,x⟩
 refine ⟨W,Hi,Γ,_,E,g,q,⟨?_,l.bk,l.ct,l.rt⟩,x⟩; intro σ1 H1 Hi1 Γ1 s1 g1 q1; exact ⟨W,Hi1,Γ1,N,E,g1,q1,l.mono s1,x.mono s1⟩
def zbh (h1:PSx' X st t):PSsx' X [st] t:=⟨zpc h1.h⟩
def zhu (c:TT') (t u:zij):zij:=fun N E Γ=>c Γ fun b Γ1=>if b=true then t N E Γ1 else u N E Γ1
def zik {c:Expr} {sa sb:List Stmt} {tc:TT'} (hc:PT' X.nox c tc) (ha:PSsx' X sa t) (hb:PSsx' X sb u):PSx' X (.If c sa sb pos) (zhu tc t u):=by
 refine ⟨PSx.weak (zue (X:=X) hc.h ha.h hb.h) ?_⟩
 rintro N2 E2 σ H ⟨W,Hi,Γ,N,E,g,q,l,x⟩
 refine ⟨W,Hi,Γ,_,g,q,?_⟩; intro k H1 Hi1 Γ1 s1 g1 q1
 cases k with
 | true=>exact ⟨W,Hi1,Γ1,N,E,g1,q1,l.mono s1,x.mono s1⟩
 | false=>exact ⟨W,Hi1,Γ1,N,E,g1,q1,l.mono s1,x.mono s1⟩
def zgo (te:zq3):zij:=fun N E Γ=>te Γ (fun _ Γ1=>N.nx Γ1) E
def zfE (he:PEx' X e te) (hs:swapsWith e none pos.line X.env=pure false:=by rfl):PSx' X (.Expr e pos) (zgo te):=by
 refine ⟨PSx.weak (zpf he.h hs) ?_⟩
 rintro N2 E2 σ H ⟨W,Hi,Γ,N,E,g,q,l,x⟩
 refine ⟨W,Hi,Γ,_,E,g,q,?_,fun H1 Hi1 Γ1 C dd fs s1 g1 xd q1=>x σ H1 Hi1 Γ1 C dd fs s1 g1 xd q1⟩
 rintro v H1 ⟨Hi1,d,Γ1,s1,g1,den,q1⟩
 exact l.nx σ H1 Hi1 Γ1 s1 g1 q1
def zrq (te:zq3) (i:Nat):zij:=fun N E Γ=>te Γ (fun d Γ1=>N.nx (Γ1.set i (.val d))) E
def zpe (i:Nat) {x:Str} {pos':Pos} (hN:X.N.Nodup) (he:PEx' X e te) (hi:X.N[i]?=some x:=by rfl) (hx:Loc X.env.scope x:=by first | exact JA rfl | exact Yd rfl) (hs:swapsWith e (some (.Name x pos')) pos.line X.env=pure false:=by rfl)
  (hf:X.fn x=true\/X.env.scope.names.lookup x=some .local:=by first | exact .inl rfl | exact .inr rfl | assumption):PSx' X (.Assign [.Name x pos'] e pos) (zrq te i):=by
 refine ⟨PSx.weak (zrk (i:=i) hN hi hx he.h hs hf) ?_⟩
 rintro N2 E2 σ H ⟨W,Hi,Γ,N,E,g,q,l,x⟩
 refine ⟨W,Hi,Γ,_,E,g,q,?_,fun H1 Hi1 Γ1 C dd fs s1 g1 xd q1=>x σ H1 Hi1 Γ1 C dd fs s1 g1 xd q1⟩
 rintro v H1 ⟨Hi1,d,Γ1,s1,g1,den,q1⟩
 exact l.nx _ H1 Hi1 _ s1 (g1.set (yG.mp hi).1 den) q1
abbrev zkd:=List D->(Res->Prop)->(Addr->List (Str × D)->Prop)->Prop
def zuA (K:W.Frag) (sp:zkd):Sp:=fun vs H Q2 E2=>∃ Hi ds Q E,Fz Hi H/\zaU K Hi vs ds/\sp ds Q E/\(∀ Hi' H' v r,Ext Hi H Hi' H'->zq4 K H Hi' H' v r->Q r->Q2 v H')/\∀ Hi' H' C dd fs,Ext Hi H Hi' H'->zo8 K Hi' dd fs->E C fs->E2 (.ref C) dd H'
def zff (sp:zkd) (t:TA'):zq3:=fun Γ Q E=>t Γ fun ds Γ1=>sp ds (fun r=>Q r.toD Γ1) fun C fs=>E C fs Γ1
end
structure FnX (P:Program) (w:World) (K:W.Frag) (mg:Str->Option Value) (base:Heap) (k:Nat) (x:Str) (ps:List Str) (sp:zkd):Prop where
 ex:∃ f fd,FnOk P w K mg base (CX1 P w) k f fd ps (zuA K sp)/\zb7 K fd ps []/\W.keepIn K (.ref f)=true/\mg x=some (.ref f)/\∃ oc od osl,K.lookup f=some ⟨oc,od,.func fd,osl⟩
section
variable {k:Nat} {x:Str} {ps:List Str} {sp:zkd} {p pos:Pos} {e:Expr} {es:List Expr} {t:TA'}
def zkp (h:FnX X.prog X.w X.K X.mg X.base k x ps sp) (hr:Room k X.A) (ha:PA' X.nox (e :: es) t) (hg:Gl X x:=by rfl) (hdb:yyD x:=by decide) :
  PEx' X (.Call (.Name x p) (e :: es) [] pos) (zff sp t):=by
 obtain ⟨f,fd,F,b,kp,m,_⟩:=h.ex; refine ⟨PEx.weak (zph F hr hg m kp b ha.pa hdb (zS (zx ha.pl).1) (zae (zx ha.pl).2)) ?_⟩
 rintro σ H Q E ⟨W,Hi,Γ,Q',E',g,h,fin,fix⟩
 refine ⟨W,Hi,Γ,_,g,h,?_⟩; intro vs H1 Hi1 Γ1 ds s1 g1 dl q; refine ⟨Hi1,ds,_,_,g1.fz,dl,q,?_,?_⟩
 ·intro Hi2 H2 v r ex ro q2
  cases r with
  | val d=>exact fin v H2 ⟨Hi2,d,Γ1,s1.trans ex.hi,g1.ext ex,ro,q2⟩
  | own o =>
   obtain ⟨a,rfl,h1,h2,h3⟩:=ro; have nw:=zbl g1 ex h1 h2 h3; obtain ⟨u,hu⟩:=h3.there; exact fin _ H2 ⟨upd Hi2 a u,_,Γ1,s1.trans (ex.hi.trans (zM h1 u)),(g1.ext ex).freezeA nw.hi nw.h0 nw.ne hu,h3.den h1 hu,q2⟩
  | bk d o =>
   obtain ⟨b',dv,hol,h1,h2,h3⟩:=ro; have nw:=zbl g1 ex h1 h2 h3; obtain ⟨u,hu⟩:=h3.there; exact fin _ H2 ⟨upd Hi2 b' u,_,Γ1,s1.trans (ex.hi.trans (zM h1 u)),(g1.ext ex).freezeA nw.hi nw.h0 nw.ne hu,hol b' _ v o (h3.den h1 hu) (dv.mono (zM h1 u)),q2⟩
 ·intro Hi2 H2 C dd fs ex xd q2
  exact fix H2 Hi2 Γ1 C dd fs (s1.trans ex.hi) (g1.ext ex) xd q2
end
section
variable {K:PySem.W.Frag}
def zbT {N ps:List Str} {vs:List V} {ds:List D} {Hi H:Hp} (hlen:ds.length=ps.length) (hpl:ps.length<=N.length) (sb:Fz Hi H) (dl:zaU K Hi vs ds):Good K N.length ⟨H,Hi,[]⟩ Hi (zaN N ds) (L2.start N vs) H:=by
 have hvl:=zj dl
 refine ⟨?_,sb,fun b o e _=>e,fun b o e=>⟨o,e⟩,fun b o e=>rfl,fun j d e=>?_,fun j o e=>?_,fun j k o o' b e=>?_,fun j d b xs e=>?_⟩
 ·unfold L2.start
  rw [yV,yE,List.length_replicate]; omega
 all_goals
  unfold zaN at e
  by_cases hj:j<ds.length
  ·rw [yn (by simpa using hj),yH,yC hj] at e
   try cases e
   try
    obtain ⟨v,e1,e2⟩:=zX dl (yC hj); refine ⟨v,?_,e2⟩; unfold L2.start
    rw [yn (by rw [yE]; omega),yH,e1]
    rfl
  ·rw [yz (by simpa using hj),List.getElem?_replicate] at e
   split at e <;> cases e
def Df.okx {k:Nat} {x:Str} {ps:List Str} {sp:zkd} {st:Stmt} {N:List Str} (d:Df K mg x st ps) (S:FnScope N ps (zl st)) (len:∀ ds Q E,sp ds Q E->ds.length=ps.length)
  (hbody:∀ (f:Addr) (cdv:Value) (A:Around) (outer:List Env) (s:Shared) (H:Hp) (E:XK),Room k (A.deeper (PyProof.Rows.envOfC x (zl st) s.heap.objs.size f cdv))->∀ ds Q E',sp ds Q E' ->
   ∃ t,PSsx' (zdy (CX1 P w) P w K mg base N x (zl st) f cdv A outer s H E) (zak st) t/\t { nx:=fun _=>Q (.val .non),rt:=fun r _=>Q r } (fun C fs _=>E' C fs) (zaN N ds)):FnX P w K mg base (k+1) x ps sp:=by
 obtain ⟨f,fd,F,b,m⟩:=d.ex; obtain ⟨oc,od,kV,doc,pm,an,cdv,ct,osl,e,lk,_⟩:=id F.ex; refine ⟨f,fd,?_,b,F.kp,m,oc,od,osl,lk⟩
 refine F.okx S (fun vs H Q E h=>?_) fun cdv A outer s H vs Q E hr h=>?_
 ·obtain ⟨Hi,ds,Q',E',_,dl,h,_⟩:=h
  rw [zj dl]; exact len ds Q' E' h
 obtain ⟨Hi,ds,Q',E',sb,dl,h,fin,fix⟩:=h; obtain ⟨t,h1,h2⟩:=hbody f cdv A outer s H E hr ds Q' E' h
 have hlen:ds.length=ps.length:=len ds Q' E' h
 have hpl:ps.length<=N.length:=by have:=yi List.length S.pre; rw [YJ] at this; omega
 refine ⟨_,h1.h,⟨H,Hi,[]⟩,Hi,zaN N ds,_,_,zbT hlen hpl sb dl,h2,?_,?_⟩
 ·refine ⟨fun σ' H' Hi' Γ' s1 g1 q=>?_,fun _ _ _ _ _ _ q=>q.elim,fun _ _ _ _ _ _ q=>q.elim,fun v σ' H' Hi' Γ' r s1 g1 ro q=>?_⟩
  ·exact fin Hi' H' .non (.val .non) ⟨s1,fun b o e=>g1.keep b o e (by simp),g1.fz,fun b o e=>g1.fro b o e⟩ .non q
  ·exact fin Hi' H' v r ⟨s1,fun b o e=>g1.keep b o e (by simp),g1.fz,fun b o e=>g1.fro b o e⟩ ro q
 ·intro σ' H' Hi' Γ' C dd fs s1 g1 xd q
  exact fix Hi' H' C dd fs ⟨s1,fun b o e=>g1.keep b o e (by simp),g1.fz,fun b o e=>g1.fro b o e⟩ xd q
end
structure XcI (P:Program) (w:World) (K:W.Frag) (mg:Str->Option Value) (base:Heap) (k:Nat) (x:Str) (C:Addr) (fld:Str) (ok:V->Hp->Prop):Prop where
 ex:∃ N f bm fd ps,XCl K C N bm/\XIn K N f/\FnOk P w K mg base CX0 k f fd ps (ztD C fld ok)/\zb7 K fd ps []/\mg x=some (.ref C)
section
variable {k:Nat} {x fld:Str} {C:Addr} {ok:V->Hp->Prop} {okD:D->Prop} {p cpos pos:Pos} {e:Expr} {ta:TA'}
def zem (C:Addr) (fld:Str) (okD:D->Prop) (ta:TA'):zij:=fun _ E Γ=>ta Γ fun ds Γ1=>∃ d,ds=[d]/\okD d/\E C [(fld,d)] Γ1
def zel (okD:D->Prop) (T:XcI X.prog X.w X.K X.mg X.base k x C fld ok) (hok:∀ Hi H v d a o,Fz Hi H->Den X.K Hi v d->okD d->H a=none->ok v (upd H a o)) (hr:Room (k+1) X.A) (ha:PA' X.nox [e] ta) (hc:X.calm=true:=by rfl) (hg:Gl X x:=by rfl) (hdb:yyD x:=by decide) :
  PSx' X (.Raise (some (.Call (.Name x p) [e] [] cpos)) none pos) (zem C fld okD ta):=by
 obtain ⟨N,f,bm,fd,ps,h1,h2,F,b,m⟩:=T.ex; refine ⟨PSx.weak (zmH hc h1 h2 F hr b hg m ha.pa (zS (zx ha.pl).1) hdb) ?_⟩
 rintro N2 E2 σ H ⟨W,Hi,Γ,N',E,g,q,l,xl⟩
 refine ⟨W,Hi,Γ,_,g,q,?_⟩
 rintro vs H1 Hi1 Γ1 ds s1 g1 dl ⟨d,rfl,qo,q1⟩
 obtain ⟨v,rfl,den⟩:=zdx dl
 refine ⟨v,rfl,fun a o ha=>hok Hi1 H1 v d a o g1.fz den qo ha,fun dx hdx=>?_⟩
 have ex:=Ext.new g1.fz hdx (.xd [(fld,v)]); exact xl σ _ _ Γ1 C (some dx) [(fld,d)] (s1.trans ex.hi) (g1.ext ex) (.inr ⟨dx,_,rfl,zp,.cons ⟨rfl,den.mono ex.hi⟩ .nil⟩) q1
end
def Good.unset {K:W.Frag} {n:Nat} {W:Wd} {Hi H:Hp} {Γ:Sts} {σ:St} (g:Good K n W Hi Γ σ H) {i:Nat} (hi:i<n):Good K n W Hi (Γ.set i .emp) (σ.set i none) H:=by
 have ad:∀ j,j≠i->adr n W (σ.set i none) j=adr n W σ j:=fun j hj=>by
  unfold adr
  rw [yZ (fun z=>hj z.symm)]
 have inv:∀ (j:Nat) (s:Slot),(Γ.set i .emp)[j]?=some s->(j=i/\s=.emp)\/(j≠i/\Γ[j]?=some s):=fun j s e=>by
  by_cases hj:j=i
  ·subst hj
   refine .inl ⟨rfl,?_⟩; rw [List.getElem?_set] at e; simp only [if_true] at e; split at e
   ·exact (Option.some.inj e).symm
   ·cases e
  ·rw [yZ (fun z=>hj z.symm)] at e
   exact .inr ⟨hj,e⟩
 refine ⟨by rw [List.length_set]; exact g.len,g.fz,g.keep,g.there,g.fro,fun j d' e=>?_,fun j o e=>?_,fun j k o o' a e1 e2 h1 h2=>?_,fun j d' b xs e=>?_⟩
 ·rcases inv j _ e with ⟨rfl,z⟩ | ⟨hj,z⟩
  ·cases z
  ·obtain ⟨w,h1,h2⟩:=g.val j d' z
   exact ⟨w,by rw [yZ (fun z=>hj z.symm)]; exact h1,h2⟩
 ·rcases inv j _ e with ⟨rfl,z⟩ | ⟨hj,z⟩
  ·cases z
  ·obtain ⟨a,h1,h2⟩:=g.own j o z
   exact ⟨a,by rw [ad j hj]; exact h1,h2⟩
 ·rcases inv j _ e1 with ⟨rfl,z⟩ | ⟨hj,z⟩
  ·cases z
  ·rcases inv k _ e2 with ⟨rfl,y⟩ | ⟨hk,y⟩
   ·cases y
   ·exact g.apart j k o o' a z y (by rw [<- ad j hj]; exact h1) (by rw [<- ad k hk]; exact h2)
 ·rcases inv j _ e with ⟨rfl,z⟩ | ⟨hj,z⟩
  ·cases z
  ·obtain ⟨⟨w,w1,w2⟩,h1,h2,h3,h4,h5,h6⟩:=g.bk j d' b xs z
   refine ⟨⟨w,by rw [yZ (fun z=>hj z.symm)]; exact w1,w2⟩,h1,h2,h3,h4,fun k d' xs' q=>?_,fun k o' q=>?_⟩
   ·rcases inv k _ q with ⟨rfl,y⟩ | ⟨hk,y⟩
    ·cases y
    ·exact h5 k _ _ y
   ·rcases inv k _ q with ⟨rfl,y⟩ | ⟨hk,y⟩
    ·cases y
    ·rw [ad k hk]
     exact h6 k o' y
section
variable {M:Addr} {x n:Str} {body suite:List Stmt} {b0:Stmt} {tb:zij} {ts:TS'} {p hpos pos:Pos}
def zpp (K:W.Frag) (M:Addr) (i:Nat) (tb:zij) (ts:TS'):TS':=fun N Γ=>tb N (fun C fs Γ1=>W.exmOne K (.ref C) (.ref M)=some true /\
 ts { nx:=fun Γ2=>N.nx (Γ2.set i .emp),rt:=N.rt,bk:=fun Γ2=>N.bk (Γ2.set i .emp),ct:=fun Γ2=>N.ct (Γ2.set i .emp) } (Γ1.set i (.val (.exc C fs)))) Γ
def zpO (i:Nat) (hb:PSsx' X body tb) (hs:∀ e,PSs' (X.mark e) (b0 :: suite) ts) (hm:X.mg x=some (.ref M)) (hN:X.N.Nodup) (hst:X.stack=X.env :: X.outer:=by rfl) (hf:X.env.frame=some X.env.locals:=by rfl) (hi:X.N[i]?=some n:=by rfl) (hk:X.env.scope.names.lookup n=some .local:=by rfl) (hg:Gl X x:=by rfl)
  (hdb:yyD x:=by decide):PS' X (.Try body [.ExceptHandler (some (.Name x p)) (some n) (b0 :: suite) hpos] [] [] pos) (zpp X.K M i tb ts):=by
 have hin:i<X.N.length:=(yG.mp hi).1
 have h0:=zrj (X:=X) (p:=p) (hpos:=hpos) (pos:=pos) (ts:=sOf X.K X.N.length ts) hst hf hb.h (fun e=>(hs e).h) hg hm hN hi hk hdb
 refine ⟨fun pins s σ H N2 I q=>?_⟩
 refine yp (h0 pins s σ H N2 (fun _ _ _ _=>False) I ?_) (fun _ _ z=>z) fun v s' z=>?_
 ·obtain ⟨W,Hi,Γ,N,g,h,l⟩:=q
  refine ⟨W,Hi,Γ,N,_,g,h,l,?_⟩
  rintro σ1 H1 Hi1 Γ1 C dd fs s1 g1 xd ⟨hx,q1⟩
  refine ⟨C,rfl,hx,fun ae hae=>?_⟩
  have ex:=Ext.new g1.fz hae (.ext (XAt ae C dd)); refine ⟨W,_,_,_,(g1.ext ex).set hin (Den.mkX zp (xd.mono ex.hi)),q1,?_⟩; have l1:=l.mono (s1.trans ex.hi)
  exact ⟨fun σ2 H2 Hi2 Γ2 s2 g2 q2=>l1.nx _ H2 Hi2 _ s2 (g2.unset hin) q2,fun σ2 H2 Hi2 Γ2 s2 g2 q2=>l1.bk _ H2 Hi2 _ s2 (g2.unset hin) q2,fun σ2 H2 Hi2 Γ2 s2 g2 q2=>l1.ct _ H2 Hi2 _ s2 (g2.unset hin) q2,l1.rt⟩
 ·obtain ⟨_,_,_,_,_,_,_,_,z⟩:=z
  exact z.elim
end
end PL
namespace L2
open PySem PySem.Spec PyProof.Rows PySem.Builtin PySem.Builtin.Str
structure XFl (K:W.Frag) (C:Addr):Prop where
 get:X1.XGet K C
 hd:W.hasDictIn K C=true
section
def zuv (K:W.Frag) (ta:TE) (f:Str):TE:=fun σ H Q=>ta σ H fun x H1=>(∃ a C dx fs v,x=.ref a/\H1 a=some (.ins C dx fs)/\Cls K C/\zcS K C f/\fs.lookup f=some v/\Q v H1) \/
 ∃ a C dx fs v,x=.ref a/\H1 a=some (.ext (XAt a C (some dx)))/\H1 dx=some (.xd fs)/\XFl K C/\zcS K C f/\fs.lookup f=some v/\Q v H1
def zp6 {e:Expr} {f:Str} {pos:Pos} {ta:TE} (he:PE X e ta) (hb:attributeBase e f X.env (eval e X.env)=eval e X.env):PE X (.Attribute e f pos) (zuv X.K ta f):=by
 intro pins s σ H Q I h
 refine zq1 hb (thn (he pins s σ H _ I h) fun u s1 ⟨x,H1,I1,rx,q⟩=>?_)
 rcases q with ⟨a,C,dx,fs,v,rfl,ea,c,n,l,q⟩ | ⟨a,C,dx,fs,v,rfl,ea,ed,c,n,l,q⟩
 ·obtain rfl:u=Value.ref a:=rx
  exact zj4 I1 ea c n l fun u' s2 I2 ru=>⟨v,H1,I2,ru,q⟩
 ·obtain rfl:u=Value.ref a:=rx
  obtain ⟨⟨vs,sl,hx⟩,_⟩:=(show zap X.prog X.w H1 s1.heap a (.ext (XAt a C (some dx))) from I1.hok a _ ea)
  obtain ⟨mA,ns,r⟩:=(show zap X.prog X.w H1 s1.heap dx (.xd fs) from I1.hok dx _ ed)
  obtain ⟨od,ho,hl⟩:=zgW ns
  obtain ⟨w',hw,rw'⟩:=zmp.some_of (v:=v) (o:=mA f) (by rw [<- l]; exact r f)
  have J:W.InstAt s1.heap a ⟨.ref C,some dx,.fields vs,sl⟩ C (some od):=⟨hx,rfl,rfl,ho⟩
  exact X1.xget I1.kIn J c.get (W.findObj_own c.hd n rfl (by rw [hl,hw])) (zg4 rw') ⟨v,H1,I1.tok _,rw',q⟩
end
end L2
namespace PL
open PySem L2
section
def zkE (K:W.Frag) (t:TE') (f:Str):TE':=fun Γ Q=>t Γ fun d Γ1=>(∃ C fs v,d=.obj C fs/\Cls K C/\zcS K C f/\fs.lookup f=some v/\Q v Γ1)\/∃ C fs v,d=.exc C fs/\XFl K C/\zcS K C f/\fs.lookup f=some v/\Q v Γ1
def znq {e:Expr} {t:TE'} {f:Str} {pos:Pos} (he:PE' X e t) (hb:attributeBase e f X.env (eval e X.env)=eval e X.env:=by rfl):PE' X (.Attribute e f pos) (zkE X.K t f):=by
 refine ⟨PE.weak (zp6 he.h hb) ?_⟩
 rintro σ H Q ⟨W,Hi,Γ,Q',g,h,fin⟩
 refine ⟨W,Hi,Γ,_,g,h,?_⟩
 rintro x H1 ⟨Hi1,d,Γ1,s1,g1,den1,h1⟩
 rcases h1 with ⟨C,fs,v,rfl,cl,na,lk,q⟩ | ⟨C,fs,v,rfl,cl,na,lk,q⟩
 ·obtain ⟨a,dx,fvs,rfl,ha,df⟩:=den1.objI
  obtain ⟨u,hu,du⟩:=df.look lk; exact .inl ⟨a,C,dx,fvs,u,rfl,g1.sub _ _ ha,cl,na,hu,fin u H1 ⟨Hi1,v,Γ1,s1,g1,du,q⟩⟩
 ·obtain ⟨a,dd,rfl,ha,xd⟩:=den1.excI
  rcases xd with ⟨_,rfl⟩ | ⟨dx,fvs,rfl,hd,df⟩
  ·cases lk
  ·obtain ⟨u,hu,du⟩:=df.look lk
   exact .inr ⟨a,C,dx,fvs,u,rfl,g1.sub _ _ ha,g1.sub _ _ hd,cl,na,hu,fin u H1 ⟨Hi1,v,Γ1,s1,g1,du,q⟩⟩
theorem zkR {K:W.Frag} {H:Hp} {vs:List V} {ds:List D} (h:zaU K H vs ds):∀ k,zaU K H (List.replicate k vs).flatten (List.replicate k ds).flatten
 | 0=>.nil
 | k+1=>by
  rw [Yi,Yi,JG,JG]; exact zat h (zkR h k)
end
section
variable {k:Nat} {x:Str} {ps:List Str} {sp:zkd} {p pos:Pos} {e:Expr} {es:List Expr} {t:TA'}
def zcU (sp:zkd) (t:TA'):TE':=fun Γ Q=>t Γ fun ds Γ1=>sp ds (fun r=>Q r.toD Γ1) fun _ _=>False
def zoB (h:FnX X.prog X.w X.K X.mg X.base k x ps sp) (hr:Room k X.A) (ha:PA' X.nox (e :: es) t) (hg:Gl X x:=by rfl) (hdb:yyD x:=by decide) :
  PE' X (.Call (.Name x p) (e :: es) [] pos) (zcU sp t):=by
 have h0:=(zkp (p:=p) (pos:=pos) h hr ha hg hdb).h
 refine ⟨fun pins s σ H Q I q=>yp (h0 pins s σ H Q (fun _ _ _=>False) I ?_) (fun _ _ z=>z) fun v s' z=>?_⟩
 ·obtain ⟨W,Hi,Γ,Q',g,h,fin⟩:=q
  exact ⟨W,Hi,Γ,Q',fun _ _ _=>False,g,h,fin,fun _ _ _ _ _ _ _ _ _ z=>z⟩
 ·obtain ⟨_,_,_,_,_,_,_,_,_,z⟩:=z
  exact z.elim
class MSpX (sp:zkd):Prop where
 mono:∀ ds (Q Q':Res->Prop) (E E':Addr->List (Str × D)->Prop),(∀ r,Q r->Q' r)->(∀ C fs,E C fs->E' C fs)->sp ds Q E->sp ds Q' E'
end
def zbG {X:Cx} (K:W.Frag) (h:X.K=K):Cal X (.builtin "isinstance") (zex K):=by
 subst h; exact ztq
end PL
namespace L2
open PySem PySem.Spec PyProof.Rows
def skB (es:Array DictEntry):Bool:=es.toList.all fun e=>match e.key with | .str _ _=>true | _=>false
section
variable {C M N NM f:Addr} {c cM:Value} {d dM od:Option Addr} {es eM:Array DictEntry} {ep epM:Nat} {sl slM sf:Array (Option Value)}
def zlj (l:K.lookup N=some ⟨c,d,.dict es ep,sl⟩) (sk:skB es=true) {h:Heap} (X:K.In h):h.Ns N (nsFind es):=by
 refine ⟨_,es,ep,X _ _ l,rfl,fun e he=>?_,fun _=>rfl⟩
 have z:=Yk.mp sk e (Array.mem_toList_iff.mpr he)
 revert z
 cases hk:e.key <;> intro z <;> first | exact ⟨_,_,rfl⟩ | exact yN z (by simp)
def zoD (l:K.lookup N=some ⟨c,d,.dict es ep,sl⟩) {name:Str} {v:Option Value} (e:W.nsIn K N name=some v):nsFind es name=v:=by
 unfold W.nsIn at e; rw [l] at e
 dsimp only at e
 unfold nsFind findBy; rw [<- Array.find?_toList]
 cases hf:es.toList.find? (·.key.isStr name) with
 | none =>
  rw [hf] at e
  dsimp only at e
  split at e
  ·cases e
  ·exact Option.some.inj e
 | some x =>
  rw [hf] at e; exact Option.some.inj e
def zrn {nm q nmM qM:Str} {bs bsM bmM:List Value} {hd hdM:Bool} {sn snM:List Str} {sub subM:List Value} {ab abM:Bool} {col colM:Option Bool} {dd ddM:Option Addr} {k0 k1 k2 k3 k5 j0 j1 j2 j3 j5:Option Value} {nid:String}
  (bC:K.lookup C=some (excClassObj nm q C N bs (.ref M :: vbm) hd sn sub ab col dd k0 k1 k2 k3 k5 "ValueError.__new__")) (bM:K.lookup M=some (excClassObj nmM qM M NM bsM bmM hdM snM subM abM colM ddM j0 j1 j2 j3 j5 nid))
  (lM:K.lookup NM=some ⟨cM,dM,.dict eM epM,slM⟩) (skM:skB eM=true) (iM:W.nsIn K NM "__init__"=some none) (kp:W.keepIn K (.ref C)=true):XCl K C N (.ref M :: vbm) where
 xc:=fun h X=>⟨_,_,_,_,_,_,_,_,_,_,_,_,_,_,X _ _ bC⟩
 tail:=fun h X=>.own (X _ _ bM) (zlj lM skM X) (zoD lM iM) .base
 base:=by simp [vbm]
 kp:=kp
def zrl {fd:FuncData} (l:K.lookup N=some ⟨c,d,.dict es ep,sl⟩) (sk:skB es=true) (i:W.nsIn K N "__init__"=some (some (.ref f))) (lf:K.lookup f=some ⟨.type "function",od,.func fd,sf⟩):XIn K N f where
 ns:=fun h X=>⟨_,zlj l sk X,zoD l i⟩
 fn:=fun h X=>⟨_,X _ _ lf,rfl⟩
def zjm (hd:W.hasDictIn K C=true):(W.clsIn K C).isSome=true:=by
 obtain ⟨cd,e,_⟩:=W.any_some hd; rw [e]; rfl
def ztd {b:Bool} (hd:W.hasDictIn K M=true) (ty:W.typeIn K (.ref M)=some (.type "type")) (mb:W.mroIn K M (.type "BaseException")=some true) (m:W.mroIn K C (.ref M)=some b):W.exmOne K (.ref C) (.ref M)=some b:=by
 unfold W.exmOne
 rw [show W.subIn K (.ref M) (.type "BaseException")=some true from mb,yM (by decide)]
 show (if ((W.clsIn K M).isSome && W.typeIn K (.ref M) == some (.type "type"))=true then W.subIn K (.ref C) (.ref M) else none)=some b
 rw [zjm hd,ty,yM (by simp)]
 exact m
def znQ:W.kitOne K (.ref C) (.ref C)=some true:=by
 unfold W.kitOne
 rw [yM (by simp)]
def zsW {n:String} {b:Bool} (hk:W.kitMeta n=true) (m:W.mroIn K C (.type n)=some b):W.kitOne K (.ref C) (.type n)=some b:=by
 unfold W.kitOne
 rw [yK (by simp)]
 show (if W.kitMeta n=true then W.subIn K (.ref C) (.type n) else none)=some b
 rw [yM hk]; exact m
end
end L2
namespace L2
open PySem
def zrm {K:W.Frag} {C M N:Addr} {nm q:Str} {bs:List Value} {sn:List Str} {sub:List Value} {ab:Bool} {col:Option Bool} {dd:Option Addr} {k0 k1 k2 k3 k5:Option Value} {nid:String} (bC:K.lookup C=some (excClassObj nm q C N bs (.ref M :: vbm) true sn sub ab col dd k0 k1 k2 k3 k5 nid)):((W.clsIn K C).any fun cd=>cd.hasDict && X1.xmro cd.mro)=true:=by
 unfold W.clsIn; rw [bC]; rfl
end L2
namespace L2
open PySem PySem.Spec PyProof.Rows
section
end
end L2
namespace PL
open PySem L2
section
variable {k:Nat} {C:Addr} {m:Str} {ps:List Str} {sp:Sp'} {spx:zkd} {apos pos:Pos} {o e:Expr} {es:List Expr} {to:TE'} {t:TA'}
abbrev zo9:=List D->Sts->(Sts->Prop)->Prop
def zwu (K:W.Frag) (n:Nat) (g:zo9):TGs:=fun vs σ H Q2=>∃ W Hi Γ ds Q,Good K n W Hi Γ σ H/\zaU K Hi vs ds/\g ds Γ Q/\∀ σ' H' Hi' Γ',zY Hi Hi'->Good K n W Hi' Γ' σ' H'->Q Γ'->Q2 σ' H'
structure PGs' (X:Cx) (es:List Expr) (g:zo9):Prop where
 h:PGs X es (zwu X.K X.N.length g)
def PGs.weak {es:List Expr} {t t2:TGs} (h:PGs X es t) (w:∀ vs σ H Q,t2 vs σ H Q->t vs σ H Q):PGs X es t2:=fun pins s σ H vs us Q I r q=>h pins s σ H vs us Q I r (w _ _ _ _ q)
def zj6:zo9:=fun ds Γ Q=>ds=[]/\Q Γ
def zeY (t:TG') (u:zo9):zo9:=fun ds Γ Q=>∃ d r,ds=d :: r/\t d Γ fun Γ1=>u r Γ1 Q
def zj5 (n:Nat) (t:zo9):TG':=fun d Γ Q=>∃ ds,d=.tup ds/\ds.length=n/\t ds Γ Q
def znk:PGs' X [] zj6:=by
 refine ⟨PGs.weak zp0 ?_⟩
 rintro vs σ H Q ⟨W,Hi,Γ,ds,Q',g,dl,⟨rfl,q⟩,fin⟩
 cases dl; exact ⟨rfl,fin σ H Hi Γ (zY.refl _) g q⟩
def zgJ {e:Expr} {es:List Expr} {t:TG'} {u:zo9} (h1:PG' X e t) (h2:PGs' X es u) (hs:(assignEach (e :: es) X.env).map (·.2)=assign e X.env :: (assignEach es X.env).map (·.2):=by rfl):PGs' X (e :: es) (zeY t u):=by
 refine ⟨PGs.weak (znl h1.h h2.h hs) ?_⟩
 rintro vs σ H Q ⟨W,Hi,Γ,ds,Q',g,dl,⟨d,r,rfl,q⟩,fin⟩
 cases dl with
 | cons r0 rr =>
  refine ⟨_,_,rfl,W,Hi,Γ,d,_,g,r0,q,?_⟩; intro σ1 H1 Hi1 Γ1 s1 g1 q1
  exact ⟨W,Hi1,Γ1,r,Q',g1,zaU.mono rr s1,q1,fun σ2 H2 Hi2 Γ2 s2=>fin σ2 H2 Hi2 Γ2 (s1.trans s2)⟩
def zp1 {es:List Expr} {k n:Nat} {t:zo9} (h:PGs' X es t) (hc:X.calm=true:=by rfl) (hn:(assignEach es X.env).length=n:=by rfl) (hst:(assignEach es X.env).findIdx? (·.1)=none:=by rfl):PG' X (.Tuple es k pos) (zj5 n t):=by
 refine ⟨PG.weak (zsi hc h.h hn hst) ?_⟩
 rintro v σ H Q ⟨W,Hi,Γ,d,Q',g,den,⟨ds,rfl,hl,q⟩,fin⟩
 obtain ⟨a,vs,rfl,ha,dl⟩:=den.tupI
 exact ⟨a,vs,rfl,zR g.sub ha,by rw [zj dl]; exact hl,W,Hi,Γ,ds,Q',g,dl,q,fin⟩
end
section
end
section
variable {K:PySem.W.Frag}
end
end PL
namespace Mu
open PySem PySem.Builtin
def noFill_tup:fillsNumberSlot (.type "tuple") "mul"=pure false :=
 fillsNumberSlot_seq (id:="tuple.__mul__") (r:=some (.builtin "tuple.__rmul__")) PySem.F.slot_tuple_mul.lookup (by decide +kernel) PySem.F.slot_tuple_rmul.lookup (by decide +kernel)
def rep_tup:seqRepeat? (.type "tuple")=pure (some (.builtin "tuple.__mul__")):=by
 unfold seqRepeat?
 rw [seqSlot_of (T:="tuple") (name:="__mul__") (id:="tuple.__mul__") PySem.F.slot_tuple_mul.lookup (by decide +kernel),seqSlot_of (T:="tuple") (name:="__rmul__") (id:="tuple.__rmul__") PySem.F.slot_tuple_rmul.lookup (by decide +kernel)]
 rfl
def rmul_tup (a:Int) (t:Tok) (l:Addr) (o:Obj) (xs:Array Value) (n:Nat) (hc:o.cls=.type "tuple") (hd:o.data=.seq xs n):Meets (Builtin.«int.__rmul__» ⟨[.int a t,.ref l],[]⟩) (fun _ R s=>s.heap.get? l=some o/\R (.ok (.ret Value.notImplemented)) s) :=
 .of_wp fun prog w A R s h=>by
  obtain ⟨hp,g,d,tk,os⟩:=s; obtain ⟨hl,h⟩:=h; obtain ⟨oc,od,dt,sl⟩:=o
  dsimp only at hc hd
  subst hc hd
  wp_walk
  exact ⟨_,rfl,h⟩
def mul_tup (k:Nat) (t:Tok) (l:Addr) (o:Obj) (xs:Array Value) (n:Nat) (hc:o.cls=.type "tuple") (hd:o.data=.seq xs n) (hk:2<=k) (hk2:k<=100) (hz:xs.size * k<=10000) :
  Meets (Builtin.«tuple.__mul__» ⟨[.ref l,.int k t],[]⟩) (fun _ R s=>s.heap.get? l=some o/\(xs.isEmpty=true->R (.ok (.ret (.ref l))) s) /\
   (xs.isEmpty=false->R (.ok (.ret (.ref s.heap.objs.size))) { s with heap:=s.heap.push { cls:=.type "tuple",data:=.seq ((List.replicate k xs).foldl (· ++ ·) #[]) } })) :=
 .of_wp fun prog w A R s h=>by
  obtain ⟨hp,g,d,tk,os⟩:=s; obtain ⟨hl,h1,h2⟩:=h; obtain ⟨oc,od,dt,sl⟩:=o
  dsimp only at hc hd
  subst hc hd
  have e1:(decide ((k:Int)< -(2 ^ 63)) || decide ((k:Int) >= 2 ^ 63))=false:=by
   rw [yg (by omega),yg (by omega)]
   rfl
  have e2:((k:Int) == 1)=false:=by rw [beq_eq_false_iff_ne]; omega
  have e3:decide ((k:Int)<=0)=false:=yg (by omega)
  have e4:¬ ((xs.size:Int) * (k:Int) > (2 ^ 63-1) / 8):=by
   have:((xs.size * k:Nat):Int)<=10000:=by omega
   rw [Int.natCast_mul] at this; omega
  have e5:Builtin.Tuple.tupleTooMany ((xs.size:Int) * (k:Int))=false:=by
   unfold Builtin.Tuple.tupleTooMany
   have:((xs.size * k:Nat):Int)<=10000:=by omega
   rw [Int.natCast_mul] at this
   have b:10000<sizeLine:=by decide
   exact yg (by omega)
  wp_walk
  rw [yK (by rw [e1]; exact yO)]
  wp_walk
  cases he:xs.isEmpty with
  | true =>
   wp_walk
   exact ⟨_,rfl,h1 he⟩
  | false =>
   wp_walk
   rw [yK (by rw [e3]; decide)]
   dsimp only
   rw [yK e4,yK (by rw [e5]; decide),JH]
   have hsz:(List.foldl (fun x1 x2=>x1 ++ x2) #[] (List.replicate k xs)).size<=sizeLine:=by
    have e:=L2.foldl_rep xs.toList k []
    have e':List.foldl (fun x1 x2=>x1 ++ x2) #[] (List.replicate k xs)=([] ++ (List.replicate k xs.toList).flatten).toArray:=by simpa using e
    rw [e',yQ,YM,L2.len_rep,YC,Nat.mul_comm]
    have b:10000<sizeLine:=by decide
    omega
   unfold Builtin.Tuple.tupleExact; exact yA (YD (yF ⟨_,rfl,h2 he⟩) hsz)
end Mu
namespace L2
open PySem PySem.Spec PyProof.Rows
section
def zuJ:R2:=fun x y H Q=>∃ (l:Addr) (k:Nat) (xs:List V),x=.ref l/\y=.int k/\H l=some (.tup xs)/\2<=k/\k<=100/\xs.length * k<=10000/\(xs=[]->Q (.ref l) H)/\(xs≠[]->∀ p,H p=none->Q (.ref p) (upd H p (.tup (List.replicate k xs).flatten)))
def zqd:OpR X (binaryOp .Mult) zuJ:=by
 intro pins s σ H x y v u Q I rx ry h; obtain ⟨l,k,xs,rfl,rfl,hH,h1,h2,hz,q1,q2⟩:=h; cases rx; obtain ⟨t,rfl⟩:=ry
 obtain ⟨z,its,r,o,ho,hc,n,hd⟩:=(show zap X.prog X.w H s.heap l (.tup xs) from I.hok l _ hH)
 have hl:=r.length
 refine wpAny_binaryOp_repeat_ref (T:="tuple") (U:="int") (by decide) ⟨_,ho,hc⟩ (fun s'=>typeIs_int s' k t) Mu.noFill_tup PySem.F.fills_int_mul PySem.F.slot_int_rmul Mu.rep_tup PySem.F.slot_int_index.lookup
  (call_meets PySem.F.slot_int_rmul (typeIs_int s k t) PySem.F.entry_int_rmul (PySem.F.args_int_rmul_2 _ _) (Mu.rmul_tup k t l o its.toArray n hc hd) ⟨ho,rfl,⟨_,ho,hc⟩,call_meets PySem.F.slot_tuple_mul ⟨_,ho,hc⟩ PySem.F.entry_tuple_mul (PySem.F.args_tuple_mul_2 _ _) (Mu.mul_tup k t l o its.toArray n hc hd h1 h2 (by rw [yQ,<- hl]; exact hz)) ⟨ho,fun e=>?_,fun e=>?_⟩⟩)
 ·have:xs=[]:=Yy (by rw [hl]; simpa using e)
  exact ⟨.ref l,H,I,rfl,q1 this⟩
 ·have hne:xs≠[]:=fun z=>by
   rw [z] at hl
   have:its=[]:=Yy hl.symm
   rw [this] at e
   simp at e
  have e':List.foldl (fun x1 x2=>x1 ++ x2) #[] (List.replicate k its.toArray)=(List.replicate k its).flatten.toArray:=by
   have:=foldl_rep its k []
   rw [YM] at this; exact this
  rw [e']
  have hlen:(List.replicate k xs).flatten.length<=sizeLine:=by
   rw [len_rep,Nat.mul_comm]
   have b:10000<sizeLine:=by decide
   omega
  refine ⟨.ref _,upd H s.heap.objs.size (.tup (List.replicate k xs).flatten),I.laid (t':=s.toks) (fun _ _ q=>yB _ q) (yD _) ⟨hlen,(List.replicate k its).flatten,r.rep k,⟨_,yJ _ rfl,rfl,_,rfl⟩⟩,rfl,q2 hne _ I.fresh⟩
end
end L2
namespace PL
open PySem L2
section
def zgC:R2':=fun x y Q=>∃ (ds:List D) (k:Nat),x=.tup ds/\y=.int k/\2<=k/\k<=100/\ds.length * k<=10000/\Q (.tup (List.replicate k ds).flatten)
def zsH:Op2 X (binaryOp .Mult) zgC:=⟨_,zqd,by
 rintro Hi H x y dx dy Q Q2 s d1 d2 ⟨ds,k,rfl,rfl,h1,h2,h3,q⟩ fin
 obtain ⟨a,vs,rfl,ha,dl⟩:=d1.tupJ; have hl:=zj dl
 refine ⟨a,k,vs,rfl,d2.intI,s.sub _ _ ha,h1,h2,by rw [hl]; exact h3,fun e=>?_,fun _ p hp=>?_⟩
 ·have:ds=[]:=Yy (by rw [<- hl,e]; rfl)
  subst this; refine fin Hi H _ (.tup []) (Ext.refl s) d1 ?_
  simpa using q
 ·have e:=Ext.new s hp (.tup (List.replicate k vs).flatten)
  exact fin _ _ _ _ e (Den.mkT zp (zkR (dl.mono e.hi) k)) q⟩
instance:MR2 zgC:=⟨fun _ _ _ _ h ⟨ds,k,a,b,c,d,e,q⟩=>⟨ds,k,a,b,c,d,e,h _ q⟩⟩
end
section
variable {Q:D->Prop}
def zm3:R2':=fun x y Q=>rI' zoo (fun i j=>.int (i * j)) x y Q\/zgC x y Q
def ziW:Op2 X (binaryOp .Mult) zm3:=zu5.or zsH
instance:MR2 zm3:=⟨fun _ _ _ _ h q=>q.imp (MR2.mono (r:=rI' zoo fun i j=>.int (i * j)) _ _ _ _ h) (MR2.mono (r:=zgC) _ _ _ _ h)⟩
@[simp] theorem zrV (i j:Int):zm3 (.int i) (.int j) Q↔zoo i j/\Q (.int (i * j)):=by simp [zm3,zgC]
def zr4:RC':=fun ds Q=>∃ b:Bool,ds=[.bl b]/\Q (.int (if b then 1 else 0))
def ztr:Cal X (.type "int") zr4:=⟨_,zml,by
 rintro Hi H vs ds Q Q2 s dl ⟨b,rfl,q⟩ fin
 obtain ⟨v,rfl,den⟩:=zdx dl
 exact .inr ⟨b,by rw [den.blI],fin Hi H _ _ (Ext.refl s) (.int _) q⟩⟩
def zr5:RC':=fun ds Q=>zr3 ds Q\/zr4 ds Q
def zo6:Cal X (.type "int") zr5:=zvx.or ztr
end
end PL
namespace Zp
open PySem
structure Src (prog:Program) (w:World) (it:Addr) (xs:List Value) (fp:List Addr) (nx:Nat->Heap->Prop):Prop where
 mem:it ∈ fp
 fr:∀ i h h',nx i h->(∀ c ∈ fp,∀ o,h.get? c=some o->h'.get? c=some o)->nx i h'
 at_:∀ i h,nx i h->∃ o,h.get? it=some o/\∀ v,o.data≠.cell v
 item:∀ (A:Around) (s:Shared) (i:Nat) (x:Value) (Q:Value->Shared->Prop) (E:Value->Shared->Prop),nx i s.heap->xs[i]?=some x->(∀ h',nx (i+1) h'->Heap.SameBut it s.heap h'->Q x { s with heap:=h' })->wpAny (model prog w) A (Builtin.SmallTypes.nextOf (.ref it)) Q E s
 stop:∀ (A:Around) (s:Shared) (i:Nat) (Q:Value->Shared->Prop) (E:Value->Shared->Prop),A.handled=none->nx i s.heap->xs[i]?=none ->
  (∀ h' e,Heap.ExtBut it s.heap h'->(∃ o,h'.get? e=some o/\o.cls=.type "StopIteration")->E (.ref e) { s with heap:=h' })->wpAny (model prog w) A (Builtin.SmallTypes.nextOf (.ref it)) Q E s
def zG {a:Addr} {h h':Heap} (x:Heap.SameBut a h h'):∀ c o,c≠a->h.get? c=some o->h'.get? c=some o:=fun c o n e=>x.extBut _ _ n e
def zmT {prog:Program} {w:World} {it l:Addr} {xs:List Value} (ne:l≠it):Src prog w it xs [it,l] (fun i h=>h.IsListIter it l i/\h.IsList l xs.toArray) where
 mem:=by simp
 fr:=fun i h h' ⟨a,b⟩ k=>⟨a.at fun o e=>k it (by simp) o e,b.at fun o e=>k l (by simp) o e⟩
 at_:=fun i h ⟨⟨o,e,_,d⟩,_⟩=>⟨o,e,fun v z=>by rw [d] at z; cases z⟩
 item:=fun A s i x Q E ⟨a,b⟩ hx q=>wpAny_nextOf_list_item a b (by simpa using hx) fun h' n sb=>q h' ⟨n,b.at fun o e=>zG sb _ o ne e⟩ sb
 stop:=fun A s i Q E hh ⟨a,b⟩ hx q=>wpAny_nextOf_list_end hh a b (by simpa using hx) q
def zkK {prog:Program} {w:World} {it l:Addr} {xs:List Value} (ne:l≠it):Src prog w it xs [it,l] (fun i h=>h.IsTupleIter it l i/\h.IsTuple l xs.toArray) where
 mem:=by simp
 fr:=fun i h h' ⟨a,⟨ol,e,r⟩⟩ k=>⟨a.at fun o e=>k it (by simp) o e,⟨ol,k l (by simp) ol e,r⟩⟩
 at_:=fun i h ⟨⟨o,e,_,d⟩,_⟩=>⟨o,e,fun v z=>by rw [d] at z; cases z⟩
 item:=by
  intro A s i x Q E ⟨a,b⟩ hx q
  obtain ⟨oi,gi,ci,di⟩:=id a; obtain ⟨ot,gt,ct,nt,dt⟩:=id b; unfold Builtin.SmallTypes.nextOf; refine yA (wpAny_callSpecial?_slot (name:=Str.ofString "__next__") a.typeIs Yn (YU Yn a.typeIs PySem.F.entry_tuple_iterator_next ?_ (PySem.F.args_tuple_iterator_next_1 _)))
  show wpAny _ _ (field (.ref it) 0 >>= _) _ _ _
  refine yA (YK gi di (x:=.ref l) rfl ?_)
  show wpAny _ _ (if (Value.ref l == Value.none)=true then _ else _) _ _ _
  rw [yK (by simp)]
  show wpAny _ _ (field (.ref it) 1 >>= _) _ _ _
  refine yA (YK gi di (x:=.int i 0) rfl ?_)
  show wpAny _ _ (seqItems? (.ref l) >>= _) _ _ _
  refine yA (Ye gt dt ?_)
  have hx':xs.toArray[i]?=some x:=by simpa using hx
  simp only [JH,hx']
  refine yA (Yt gi di (by simp) (yF ⟨x,rfl,yF (q _ ⟨⟨_,Yc _ gi (Obj.isFreed_of_fields (Obj.data_mapFields di _)),(Obj.cls_mapFields ..).trans ci,by rw [Obj.data_mapFields di]; simp [rawInt]⟩,?_⟩ (Heap.SameBut.update ..))⟩))
  exact ⟨ot,(yj _ _ (Ne.symm ne)).trans gt,ct,nt,dt⟩
 stop:=by
  intro A s i Q E hh ⟨a,b⟩ hx q
  obtain ⟨oi,gi,ci,di⟩:=id a; obtain ⟨ot,gt,ct,nt,dt⟩:=id b; unfold Builtin.SmallTypes.nextOf; refine yA (wpAny_callSpecial?_slot (name:=Str.ofString "__next__") a.typeIs Yn (YU Yn a.typeIs PySem.F.entry_tuple_iterator_next ?_ (PySem.F.args_tuple_iterator_next_1 _)))
  show wpAny _ _ (field (.ref it) 0 >>= _) _ _ _
  refine yA (YK gi di (x:=.ref l) rfl ?_)
  show wpAny _ _ (if (Value.ref l == Value.none)=true then _ else _) _ _ _
  rw [yK (by simp)]
  show wpAny _ _ (field (.ref it) 1 >>= _) _ _ _
  refine yA (YK gi di (x:=.int i 0) rfl ?_)
  show wpAny _ _ (seqItems? (.ref l) >>= _) _ _ _
  refine yA (Ye gt dt ?_)
  have hx':xs.toArray[i]?=none:=by simpa using hx
  simp only [JH,hx']
  refine yA (wpAny_rule (yA (Yt gi di (by simp) ?_)))
  show wpAny _ _ (newExc (.type "StopIteration") [] >>= _) _ _ _
  refine yA ?_; simp only [newExc,newTuple]
  refine yA (YD ?_ (by size_fits))
  refine yA (m:=firstArgMember _ _) (wpAny_of_eq (a:=Value.none) (by first | rfl | (simp only [firstArgMember]; rfl)) ?_)
  refine YD ?_ (by size_fits)
  simp only [raiseNew]; refine yA (wpAny_handled ?_)
  first | rw [show A.in1.handled=none from hh] | rw [hh]
  exact yA (yF (wpAny_throw (q _ _ (((Heap.SameBut.update ..).extBut.push _).push _) ⟨_,yJ _ rfl,rfl⟩)))
structure Apart (z TI TO i1 i2:Addr) (f1 f2:List Addr):Prop where
 z1:z ∉ f1
 z2:z ∉ f2
 o1:TO ∉ f1
 o2:TO ∉ f2
 i21:i2 ∉ f1
 i12:i1 ∉ f2
 iz:TI≠z
 oz:TO≠z
 io:TI≠TO
 ii1:TI≠i1
 ii2:TI≠i2
section
variable {z TI TO i1 i2:Addr} {f1 f2:List Addr} {n1 n2:Nat->Heap->Prop} {xs ys:List Value} {k:Nat} {a b x y:Value}
def Src.but {it:Addr} {zs:List Value} {fp:List Addr} {nx:Nat->Heap->Prop} (S:Src prog w it zs fp nx) {i:Nat} {h h':Heap} {c:Addr} (g:nx i h) (sb:Heap.SameBut c h h') (hc:c ∉ fp):nx i h':=S.fr i h h' g fun d hd o e=>zG sb d o (fun q=>hc (q ▸ hd)) e
def zmF {Q:Value->Shared->Prop} (S1:Src prog w i1 xs f1 n1) (S2:Src prog w i2 ys f2 n2) (D:Apart z TI TO i1 i2 f1 f2) (wz:IsZip s.heap z TI TO .none) (wI:IsPair s.heap TI (.ref i1) (.ref i2)) (wO:IsPair s.heap TO a b) (g1:n1 k s.heap) (g2:n2 k s.heap) (hx:xs[k]?=some x) (hy:ys[k]?=some y)
  (q:∀ h',IsZip h' z TI TO (rawInt s.heap.objs.size)->IsPair h' TO x y->n1 (k+1) h'->n2 (k+1) h'->IsPair h' s.heap.objs.size x y->h'.objs.size=s.heap.objs.size+1->(∀ c o,c≠z->c≠TO->c≠i1->c≠i2->s.heap.get? c=some o->h'.get? c=some o)->Q (.ref s.heap.objs.size) { s with heap:=h' }) :
  wpAny (model prog w) A (Builtin.«zip.__next__» ⟨[.ref z],[]⟩) (fun fin s'=>∃ v,fin=.done (.ret v)/\Q v s') E s:=by
 have ne1:i1≠z:=fun e=>D.z1 (e ▸ S1.mem)
 have ne2:i2≠z:=fun e=>D.z2 (e ▸ S2.mem)
 have no1:i1≠TO:=fun e=>D.o1 (e ▸ S1.mem)
 have no2:i2≠TO:=fun e=>D.o2 (e ▸ S2.mem)
 show wpAny _ _ (field (.ref z) 2 >>= _) _ _ _
 refine yA (YK wz rfl (x:=.bool false) rfl ?_)
 show wpAny _ _ (field (.ref z) 3 >>= _) _ _ _
 refine yA (YK wz rfl (x:=.ref TI) rfl ?_); refine yA (Ye wI rfl ?_)
 show wpAny _ _ (Builtin.SmallTypes.ownedTupleIsFree (.ref z) >>= _) _ _ _
 refine yA ?_; unfold Builtin.SmallTypes.ownedTupleIsFree; refine yA (YK wz rfl (x:=.none) rfl (yF ?_)); simp only [if_true]; refine yA (wpAny_rule ?_); refine yA (YK wz rfl (x:=.ref TO) rfl ?_)
 refine yA (Yz wz (by simp) fun ha za sa=>?_)
 have za:IsZip ha z TI TO .ellipsis:=za
 refine yA ?_; simp only [List.zipIdx_cons,List.zipIdx_nil,List.forIn_cons,List.forIn_nil]; refine yA (yA (wpAny_onRaise ?_))
 show wpAny _ _ (Builtin.SmallTypes.nextOf (.ref i1) >>= _) _ _ _
 refine yA (S1.item _ { s with heap:=ha } k x _ _ (S1.but g1 sa D.z1) hx fun hb g1b sb=>yF ?_)
 have ob:IsPair hb TO a b:=zG sb _ _ (Ne.symm no1) (zG sa _ _ D.oz wO)
 refine yA (Ye ob rfl ?_)
 refine yA (wpAny_updateSeq_pair ob fun hc oc sc=>?_)
 have oc:IsPair hc TO x b:=oc
 refine yA (wpAny_letGo (yF ?_)); refine yA (yA (wpAny_onRaise ?_))
 show wpAny _ _ (Builtin.SmallTypes.nextOf (.ref i2) >>= _) _ _ _
 refine yA (S2.item _ { s with heap:=hc } k y _ _ (S2.but (S2.but (S2.but g2 sa D.z2) sb D.i12) sc D.o2) hy fun hd g2d sd=>yF ?_)
 have od:IsPair hd TO x b:=zG sd _ _ (Ne.symm no2) oc
 refine yA (Ye od rfl ?_)
 refine yA (wpAny_updateSeq_pair od fun he oe se=>?_)
 have oe:IsPair he TO x y:=oe
 refine yA (wpAny_letGo (yF (yF ?_))); refine yA (Ye oe rfl ?_); refine yA (wpAny_newTuple ?_)
 have hsz:he.objs.size=s.heap.objs.size:=by rw [se.1,sd.1,sc.1,sb.1,sa.1]
 have ze:IsZip he z TI TO .ellipsis:=zG se _ _ (Ne.symm D.oz) (zG sd _ _ (Ne.symm ne2) (zG sc _ _ (Ne.symm D.oz) (zG sb _ _ (Ne.symm ne1) za)))
 have hk:∀ c o,c≠z->c≠TO->c≠i1->c≠i2->s.heap.get? c=some o->he.get? c=some o:=fun c o c1 c2 c3 c4 e=>zG se _ _ c2 (zG sd _ _ c4 (zG sc _ _ c2 (zG sb _ _ c3 (zG sa _ _ c1 e))))
 have g1e:n1 (k+1) he:=S1.but (S1.but (S1.but g1b sc D.o1) sd D.i21) se D.o1
 have g2e:n2 (k+1) he:=S2.but g2d se D.o2
 have zlt:z<he.objs.size:=yI ze
 show wpAny _ _ (Builtin.SmallTypes.ownedTupleHandOut (.ref z) (.ref he.objs.size) >>= _) _ _ _
 refine yA ?_; unfold Builtin.SmallTypes.ownedTupleHandOut
 have zf:IsZip (he.push { cls:=.type "tuple",data:=.seq #[x,y] }) z TI TO .ellipsis:=yB _ ze
 refine yA (Yz zf (by simp) fun hg zg sg=>?_)
 have zg:IsZip hg z TI TO (rawInt he.objs.size):=zg
 refine Yz zg (by simp) fun hh zh sh=>?_
 have zh:IsZip hh z TI TO (rawInt he.objs.size):=zh
 have up:∀ c o,c≠z->he.get? c=some o->hh.get? c=some o:=fun c o c1 e=>zG sh _ _ c1 (zG sg _ _ c1 (yB _ e))
 have tp:IsPair hh he.objs.size x y:=zG sh _ _ (Nat.ne_of_gt zlt) (zG sg _ _ (Nat.ne_of_gt zlt) (yJ _ rfl))
 have hs8:hh.objs.size=he.objs.size+1:=by rw [sh.1,sg.1,Ym]
 rw [hsz] at zh tp hs8; refine yF ⟨_,rfl,?_⟩
 show Q (.ref he.objs.size) _
 rw [hsz]
 exact q hh zh (up _ _ D.oz oe) (S1.fr _ he hh g1e fun c hc o e=>up c o (fun z'=>D.z1 (z' ▸ hc)) e) (S2.fr _ he hh g2e fun c hc o e=>up c o (fun z'=>D.z2 (z' ▸ hc)) e) tp hs8 fun c o c1 c2 c3 c4 e=>up c o c1 (hk c o c1 c2 c3 c4 e)
def zmE {Q:PySem.Fin->Shared->Prop} (hh:A.handled=none) (S1:Src prog w i1 xs f1 n1) (S2:Src prog w i2 ys f2 n2) (D:Apart z TI TO i1 i2 f1 f2) (wz:IsZip s.heap z TI TO .none) (wI:IsPair s.heap TI (.ref i1) (.ref i2)) (wO:IsPair s.heap TO a b) (g1:n1 k s.heap) (g2:n2 k s.heap) (hend:xs[k]?=none\/ys[k]?=none)
  (q:∀ h' e,(∀ c o,c≠z->c≠TO->c≠i1->c≠i2->s.heap.get? c=some o->h'.get? c=some o)->(∃ o,h'.get? e=some o/\o.cls=.type "StopIteration")->E (.ref e) { s with heap:=h' }) :
  wpAny (model prog w) A (Builtin.«zip.__next__» ⟨[.ref z],[]⟩) Q E s:=by
 have ne1:i1≠z:=fun e=>D.z1 (e ▸ S1.mem)
 have ne2:i2≠z:=fun e=>D.z2 (e ▸ S2.mem)
 have no1:i1≠TO:=fun e=>D.o1 (e ▸ S1.mem)
 show wpAny _ _ (field (.ref z) 2 >>= _) _ _ _
 refine yA (YK wz rfl (x:=.bool false) rfl ?_)
 show wpAny _ _ (field (.ref z) 3 >>= _) _ _ _
 refine yA (YK wz rfl (x:=.ref TI) rfl ?_); refine yA (Ye wI rfl ?_)
 show wpAny _ _ (Builtin.SmallTypes.ownedTupleIsFree (.ref z) >>= _) _ _ _
 refine yA ?_; unfold Builtin.SmallTypes.ownedTupleIsFree; refine yA (YK wz rfl (x:=.none) rfl (yF ?_)); simp only [if_true]; refine yA (wpAny_rule ?_); refine yA (YK wz rfl (x:=.ref TO) rfl ?_)
 refine yA (Yz wz (by simp) fun ha za sa=>?_)
 have za:IsZip ha z TI TO .ellipsis:=za
 refine yA ?_; simp only [List.zipIdx_cons,List.zipIdx_nil,List.forIn_cons,List.forIn_nil]; refine yA (yA (wpAny_onRaise ?_))
 show wpAny _ _ (Builtin.SmallTypes.nextOf (.ref i1) >>= _) _ _ _
 cases hx:xs[k]? with
 | none =>
  refine yA (S1.stop _ { s with heap:=ha } k _ _ hh (S1.but g1 sa D.z1) hx fun hb e sb st=>?_)
  obtain ⟨ox,gx,cx⟩:=st
  have zb:IsZip hb z TI TO .ellipsis:=sb _ _ (Ne.symm ne1) za
  have ez:e≠z:=fun c=>by subst c; rw [zb] at gx; cases gx; simp at cx
  exact Yz zb (by simp) fun hc _ sc=>q hc e (fun c o c1 _ c3 _ v=>zG sc _ _ c1 (sb _ _ c3 (zG sa _ _ c1 v))) ⟨ox,zG sc _ _ ez gx,cx⟩
 | some x =>
  have hy:ys[k]?=none:=by rcases hend with h | h; rw [hx] at h; cases h; exact h
  refine yA (S1.item _ { s with heap:=ha } k x _ _ (S1.but g1 sa D.z1) hx fun hb g1b sb=>yF ?_)
  have ob:IsPair hb TO a b:=zG sb _ _ (Ne.symm no1) (zG sa _ _ D.oz wO)
  refine yA (Ye ob rfl ?_)
  refine yA (wpAny_updateSeq_pair ob fun hc oc sc=>?_)
  refine yA (wpAny_letGo (yF ?_)); refine yA (yA (wpAny_onRaise ?_))
  show wpAny _ _ (Builtin.SmallTypes.nextOf (.ref i2) >>= _) _ _ _
  refine yA (S2.stop _ { s with heap:=hc } k _ _ hh (S2.but (S2.but (S2.but g2 sa D.z2) sb D.i12) sc D.o2) hy fun hd e sd st=>?_)
  obtain ⟨ox,gx,cx⟩:=st
  have zd:IsZip hd z TI TO .ellipsis:=sd _ _ (Ne.symm ne2) (zG sc _ _ (Ne.symm D.oz) (zG sb _ _ (Ne.symm ne1) za))
  have ez:e≠z:=fun c=>by subst c; rw [zd] at gx; cases gx; simp at cx
  exact Yz zd (by simp) fun he _ se=>q he e (fun c o c1 c2 c3 c4 v=>zG se _ _ c1 (sd _ _ c4 (zG sc _ _ c2 (zG sb _ _ c3 (zG sa _ _ c1 v))))) ⟨ox,zG se _ _ ez gx,cx⟩
def zll {Q:Option Value->Shared->Prop} (S1:Src prog w i1 xs f1 n1) (S2:Src prog w i2 ys f2 n2) (D:Apart z TI TO i1 i2 f1 f2) (wz:IsZip s.heap z TI TO .none) (wI:IsPair s.heap TI (.ref i1) (.ref i2)) (wO:IsPair s.heap TO a b) (g1:n1 k s.heap) (g2:n2 k s.heap) (hx:xs[k]?=some x) (hy:ys[k]?=some y)
  (q:∀ h',IsZip h' z TI TO (rawInt s.heap.objs.size)->IsPair h' TO x y->n1 (k+1) h'->n2 (k+1) h'->IsPair h' s.heap.objs.size x y->h'.objs.size=s.heap.objs.size+1->(∀ c o,c≠z->c≠TO->c≠i1->c≠i2->s.heap.get? c=some o->h'.get? c=some o)->Q (some (.ref s.heap.objs.size)) { s with heap:=h' }) :
  wpAny (model prog w) A (pyNext (.ref z)) Q E s:=by
 have ty:s.TypeIs (.ref z) "zip":=⟨_,wz,rfl⟩
 unfold pyNext
 exact yA (wpAny_attempt (wpAny_callSpecial?_slot (name:=Str.ofString "__next__") ty PySem.F.slot_zip_next (YU PySem.F.slot_zip_next ty PySem.F.entry_zip_next (zmF S1 S2 D wz wI wO g1 g2 hx hy fun h' c1 c2 c3 c4 c5 c6 c7=>yF (q h' c1 c2 c3 c4 c5 c6 c7)) (PySem.F.args_zip_next_1 _))))
def zlk {Q:Option Value->Shared->Prop} (hh:A.handled=none) (S1:Src prog w i1 xs f1 n1) (S2:Src prog w i2 ys f2 n2) (D:Apart z TI TO i1 i2 f1 f2) (wz:IsZip s.heap z TI TO .none) (wI:IsPair s.heap TI (.ref i1) (.ref i2)) (wO:IsPair s.heap TO a b) (g1:n1 k s.heap) (g2:n2 k s.heap) (hend:xs[k]?=none\/ys[k]?=none)
  (q:∀ h',(∀ c o,c≠z->c≠TO->c≠i1->c≠i2->s.heap.get? c=some o->h'.get? c=some o)->Q none { s with heap:=h' }):wpAny (model prog w) A (pyNext (.ref z)) Q E s:=by
 have ty:s.TypeIs (.ref z) "zip":=⟨_,wz,rfl⟩
 unfold pyNext
 refine yA (wpAny_attempt (wpAny_callSpecial?_slot (name:=Str.ofString "__next__") ty PySem.F.slot_zip_next (YU PySem.F.slot_zip_next ty PySem.F.entry_zip_next (zmE hh S1 S2 D wz wI wO g1 g2 hend fun h' e ke st=>?_) (PySem.F.args_zip_next_1 _))))
 obtain ⟨ox,gx,cx⟩:=st; exact yA (wpAny_isInstance (T:="StopIteration") (b:=true) ⟨ox,gx,cx⟩ isSubtype_stop (yF (q _ ke)))
end
abbrev tIt (l:Addr):Obj:={ cls:=.type "tuple_iterator",data:=.fields #[.ref l,.int 0 0] }
abbrev zt1 (h:Heap) (l1:Addr):Heap:=h.push (tIt l1)
abbrev zt2 (h:Heap) (l1 l2:Addr):Heap:=(zt1 h l1).push (tIt l2)
abbrev zt3 (h:Heap) (l1 l2:Addr):Heap:=(zt2 h l1 l2).push { cls:=.type "tuple",data:=.seq #[.ref h.objs.size,.ref (zt1 h l1).objs.size] }
abbrev zt4 (h:Heap) (l1 l2:Addr):Heap:=(zt3 h l1 l2).push { cls:=.type "tuple",data:=.seq #[.none,.none] }
abbrev zt5 (h:Heap) (l1 l2:Addr):Heap:=(zt4 h l1 l2).push { cls:=.type "zip",data:=.fields #[.none,.bool false,.bool false,.ref (zt2 h l1 l2).objs.size,.ref (zt3 h l1 l2).objs.size] }
def zsN (l1 l2:Addr) (us vs:Array Value):Meets (Builtin.«zip.__new__» ⟨[.type "zip",.ref l1,.ref l2],[]⟩) (fun _ R s=>s.heap.IsTuple l1 us/\s.heap.IsTuple l2 vs/\R (.ok (.ret (.ref (zt4 s.heap l1 l2).objs.size))) { s with heap:=zt5 s.heap l1 l2 }) :=
 .of_wp fun prog w A R s h=>by
  obtain ⟨hp,g,d,tk,os⟩:=s; obtain ⟨t1,t2,h⟩:=h; have sb:=sub_zip
  have T1:Heap.IsTuple (Shared.heap ⟨hp,g,d,tk,os⟩) l1 us:=t1
  have T2:Heap.IsTuple (Shared.heap ⟨hp.push (tIt l1),g,d,tk,os⟩) l2 vs:=Heap.IsTuple.push t2 _
  wp_walk using wpAny_pyIter_tuple T1,wpAny_pyIter_tuple T2
  exact ⟨_,rfl,h⟩
section
def zqZ {l1 l2:Addr} {us vs:Array Value} {Q:Value->Shared->Prop} (t1:s.heap.IsTuple l1 us) (t2:s.heap.IsTuple l2 vs)
  (q:∀ h',IsZip h' (s.heap.objs.size+4) (s.heap.objs.size+2) (s.heap.objs.size+3) .none->IsPair h' (s.heap.objs.size+2) (.ref s.heap.objs.size) (.ref (s.heap.objs.size+1))->IsPair h' (s.heap.objs.size+3) .none .none ->
   h'.IsTupleIter s.heap.objs.size l1 0->h'.IsTupleIter (s.heap.objs.size+1) l2 0->(∀ c o,s.heap.get? c=some o->h'.get? c=some o)->Q (.ref (s.heap.objs.size+4)) { s with heap:=h' }) :
  wpAny (model prog w) A (call (.type "zip") [.ref l1,.ref l2]) Q E s:=by
 refine callType_new PySem.F.called_zip (by decide) (PySem.F.typeCall_zip_2 _ _) (PySem.F.newCall_zip_2 _ _) (fun obj=>PySem.F.args_object_init_3 obj _ _) PySem.F.entry_zip_new (zsN l1 l2 us vs) ⟨t1,t2,?_⟩
 have s1:(zt1 s.heap l1).objs.size=s.heap.objs.size+1:=Ym ..
 have s2:(zt2 s.heap l1 l2).objs.size=s.heap.objs.size+2:=by rw [Ym,s1]
 have s3:(zt3 s.heap l1 l2).objs.size=s.heap.objs.size+3:=by rw [Ym,s2]
 have s4:(zt4 s.heap l1 l2).objs.size=s.heap.objs.size+4:=by rw [Ym,s3]
 have e5:(zt5 s.heap l1 l2).get? (zt4 s.heap l1 l2).objs.size=some _:=yJ _ rfl
 have e4:(zt5 s.heap l1 l2).get? (zt3 s.heap l1 l2).objs.size=some _:=yB _ (yJ _ rfl)
 have e3:(zt5 s.heap l1 l2).get? (zt2 s.heap l1 l2).objs.size=some _:=yB _ (yB _ (yJ _ rfl))
 have e2:(zt5 s.heap l1 l2).get? (zt1 s.heap l1).objs.size=some _:=yB _ (yB _ (yB _ (yJ _ rfl)))
 have e1:(zt5 s.heap l1 l2).get? s.heap.objs.size=some _:=yB _ (yB _ (yB _ (yB _ (yJ _ rfl))))
 show _/\_
 rw [s2,s3,s4] at e5; rw [s1,s2] at e3; rw [s3] at e4; rw [s1] at e2; rw [s4]
 exact ⟨⟨_,e5,rfl⟩,q _ e5 e3 e4 ⟨_,e1,rfl,rfl⟩ ⟨_,e2,rfl,rfl⟩ fun c o v=>yB _ (yB _ (yB _ (yB _ (yB _ v))))⟩
end
end Zp
namespace L2
open PySem PySem.Spec PyProof.Rows
section
variable {h':Heap}
def Inv.turnedNew {t':Nat} {ch:List Addr} {p:Addr} {o:HO} (I:Inv X pins σ H s) (hch:∀ b ∈ ch,zd4 X pins H b) (k:∀ b u,b ∉ ch->s.heap.get? b=some u->h'.get? b=some u) (hp:s.heap.objs.size<=p) (new:zap X.prog X.w (upd H p o) h' p o) :
  Inv X pins σ (upd H p o) { s with heap:=h',toks:=t' }:=by
 have fr:H p=none:=I.hok.fresh hp
 have sm:∀ b u,H b=some u->upd H p o b=some u:=fun b u e=>by rw [zq (zA e fr)]; exact e
 have nch:∀ b u,H b=some u->b ∉ ch:=fun b u e z=>by rw [(hch b z).1] at e; cases e
 refine I.step (g':=s.gens) (d':=s.drawn) (ch:=ch) (fun b hb=>?_) (fun b u _ _ hc e _=>k b u hc e) (fun b u _ _ hc e _=>⟨u.slots,k b u hc e⟩) (fun b u hc e n=>?_) (fun b u hc e=>⟨u,k b u hc e⟩) (fun b xs e=>sm _ _ e) (fun b ob u e=>sm _ _ e) (fun b ps e=>⟨#[],by rw [sm _ _ e]; simp⟩) (fun m hm=>?_) (fun b u e=>?_) I.bare
 ·obtain ⟨_,y1,_,y3,y4,y5⟩:=hch b hb
  exact ⟨y3,y1,y4,y5⟩
 ·rw [zq (yU (yT (yI e) hp))]
  exact n
 ·obtain ⟨ob,es,ep,ho,r⟩:=hm
  exact ⟨ob,es,ep,k _ ob (fun z=>(hch _ z).2.1 rfl) ho,r⟩
 ·by_cases z:b=p
  ·subst z
   rw [zp] at e; cases e; exact new
  ·rw [zq z] at e
   refine (I.hok b u e).stay (fun c v hc q=>k c v ?_ q) (fun c q=>sm _ _ q) fun c xs q=>sm _ _ q
   rcases hc with rfl | hc
   ·exact nch _ u e
   ·exact nch c _ hc
def Inv.turnedL {t':Nat} {ch:List Addr} (I:Inv X pins σ H s) (hch:∀ b ∈ ch,zd4 X pins H b) (k:∀ b u,b ∉ ch->s.heap.get? b=some u->h'.get? b=some u):Inv X pins σ H { s with heap:=h',toks:=t' }:=by
 have nch:∀ b u,H b=some u->b ∉ ch:=fun b u e z=>by rw [(hch b z).1] at e; cases e
 refine I.step (g':=s.gens) (d':=s.drawn) (ch:=ch) (fun b hb=>?_) (fun b u _ _ hc e _=>k b u hc e) (fun b u _ _ hc e _=>⟨u.slots,k b u hc e⟩) (fun b u hc e n=>n) (fun b u hc e=>⟨u,k b u hc e⟩) (fun b xs e=>e) (fun b ob u e=>e) (fun b ps e=>⟨#[],by rw [e]; simp⟩) (fun m hm=>?_) (fun b u e=>?_) I.bare
 ·obtain ⟨_,y1,_,y3,y4,y5⟩:=hch b hb
  exact ⟨y3,y1,y4,y5⟩
 ·obtain ⟨ob,es,ep,ho,r⟩:=hm
  exact ⟨ob,es,ep,k _ ob (fun z=>(hch _ z).2.1 rfl) ho,r⟩
 ·refine (I.hok b u e).stay (fun c v hc q=>k c v ?_ q) (fun c q=>q) fun c xs q=>q
  rcases hc with rfl | hc
  ·exact nch _ u e
  ·exact nch c _ hc
end
end L2
namespace L2
open PySem PySem.Spec PyProof.Rows Zp
def SqB (lb:Bool) (K:W.Frag) (H:Hp) (a:Addr) (xs:List V):Prop:=match lb with | true=>SqL K H a xs | false=>SqT K H a xs
def ItB (lb:Bool) (h:Heap) (it l:Addr) (i:Nat):Prop:=match lb with | true=>h.IsListIter it l i | false=>h.IsTupleIter it l i
def LsB (lb:Bool) (h:Heap) (l:Addr) (its:List Value):Prop:=match lb with | true=>h.IsList l its.toArray | false=>h.IsTuple l its.toArray
def ztC {prog:Program} {w:World} {it l:Addr} {its:List Value} (lb:Bool) (ne:l≠it):Src prog w it its [it,l] (fun i h=>ItB lb h it l i/\LsB lb h l its):=by
 cases lb with
 | true=>exact zmT ne
 | false=>exact zkK ne
def ItB.at {lb:Bool} {h h':Heap} {it l:Addr} {i:Nat} (x:ItB lb h it l i) (k:∀ o,h.get? it=some o->h'.get? it=some o):ItB lb h' it l i:=by
 cases lb with
 | true=>exact Heap.IsListIter.at x k
 | false=>exact Heap.IsTupleIter.at x k
def ItB.obj {lb:Bool} {h:Heap} {it l:Addr} {i:Nat} (x:ItB lb h it l i):∃ o,h.get? it=some o/\∀ v,o.data≠.cell v:=by
 cases lb with
 | true=>obtain ⟨o,e,_,d⟩:=x; exact ⟨o,e,fun v z=>by rw [d] at z; cases z⟩
 | false=>obtain ⟨o,e,_,d⟩:=x; exact ⟨o,e,fun v z=>by rw [d] at z; cases z⟩
section
variable {a b:Addr} {xs ys:List V} {lb:Bool}
def zkS {u:HO} (h:Rd H a u):∃ o,H a=some o:=by
 rcases h with h | ⟨o,h⟩
 ·exact ⟨_,h⟩
 ·exact ⟨_,h⟩
def zmn (I:Inv X pins σ H s) {o:Obj} (e:X.K.lookup a=some o) (f:zd4 X pins H b):a≠b:=by
 have g:=I.ok.mod.kin _ _ e; obtain ⟨_,_,_,f3,_⟩:=f
 rintro rfl
 rcases f3 with z | z
 ·exact I.ok.noex _ _ g z
 ·exact yN (yT (yI g) (yq I.ok.bsz z)) (YX _)
def zmU (I:Inv X pins σ H s) (h:SqB lb X.K H a xs) (f:zd4 X pins H b):a≠b:=by
 have tr:∀ o,H a=some o->a≠b:=fun o e z=>by rw [z,f.1] at e; cases e
 cases lb with
 | true =>
  rcases h with h | ⟨o,its,n,hk,_⟩
  ·obtain ⟨o,e⟩:=zkS h; exact tr o e
  ·exact zmn I hk f
 | false =>
  rcases h with h | ⟨o,its,n,hk,_⟩
  ·obtain ⟨o,e⟩:=zkS h; exact tr o e
  ·exact zmn I hk f
def zjz (I:Inv X pins σ H s) (h:SqB lb X.K H a xs):∃ its:List Value,zah xs its/\LsB lb s.heap a its:=by
 cases lb with
 | true =>
  obtain ⟨its,r,p,_⟩:=I.list h; exact ⟨its,r,p.isList⟩
 | false =>
  obtain ⟨its,r,p,_⟩:=I.tuple h; exact ⟨its,r,p⟩
def zot (I:Inv X pins σ H s) (h:SqB lb X.K H a xs) (h':SqB lb X.K H a ys):ys=xs:=by
 cases lb with
 | true=>exact I.list_inj h' h
 | false=>exact I.tuple_inj h' h
end
def Itz (lb:Bool) (K:W.Frag) (a b:Addr):It :=
  ⟨fun i H=>∃ xs ys x y,SqB lb K H a xs/\SqB lb K H b ys/\xs[i]?=some x/\ys[i]?=some y,
   fun i H v H'=>∃ p x y,H p=none/\v=.ref p/\H'=upd H p (.tup [x,y])/\(∀ xs,SqB lb K H a xs->xs[i]?=some x)/\∀ ys,SqB lb K H b ys->ys[i]?=some y,
   fun i H=>∃ xs ys,SqB lb K H a xs/\SqB lb K H b ys/\(xs.length<=i\/ys.length<=i)⟩
structure Ap5 (z TI TO i1 i2:Addr):Prop where
 iz:TI≠z
 oz:TO≠z
 io:TI≠TO
 ii1:TI≠i1
 ii2:TI≠i2
 z1:z≠i1
 z2:z≠i2
 o1:TO≠i1
 o2:TO≠i2
 i12:i1≠i2
def zmM {P:Program} {w:World} {K:W.Frag} {elts:List Expr} {c:Nat} {pos:Pos} (lb:Bool) (a b z TI TO i1 i2:Addr) (D:Ap5 z TI TO i1 i2):Turn P w K (.Tuple elts c pos) (Itz lb K a b) [z,TI,TO,i1,i2] z
  (fun i h=>IsZip h z TI TO .none/\IsPair h TI (.ref i1) (.ref i2)/\(∃ u v,IsPair h TO u v)/\ItB lb h i1 a i/\ItB lb h i2 b i) where
 mem:=by simp
 obj:=by
  rintro i h ⟨wz,wI,⟨u,v,wO⟩,g1,g2⟩ d hd
  simp only [yP,yx,or_false] at hd
  rcases hd with rfl | rfl | rfl | rfl | rfl
  ·exact ⟨_,wz,fun v z=>by cases z⟩
  ·exact ⟨_,wI,fun v z=>by cases z⟩
  ·exact ⟨_,wO,fun v z=>by cases z⟩
  ·exact g1.obj
  ·exact g2.obj
 keep:=by
  rintro i h h' ⟨wz,wI,⟨u,v,wO⟩,g1,g2⟩ k
  exact ⟨k z (by simp) _ wz,k TI (by simp) _ wI,⟨u,v,k TO (by simp) _ wO⟩,g1.at fun o e=>k i1 (by simp) o e,g2.at fun o e=>k i2 (by simp) o e⟩
 item:=by
  intro X hP hw hK hc i pins s σ H E I hf st hg
  subst hP hw hK
  obtain ⟨wz,wI,⟨u,v,wO⟩,g1,g2⟩:=st
  obtain ⟨xs,ys,x,y,sx,sy,hx,hy⟩:=hg; obtain ⟨us,rx,lx⟩:=zjz I sx; obtain ⟨vs,ry,ly⟩:=zjz I sy; obtain ⟨ux,hux,rux⟩:=rx.get hx; obtain ⟨vy,hvy,rvy⟩:=ry.get hy
  have ne:∀ d,d ∈ [z,TI,TO,i1,i2]->a≠d/\b≠d:=fun d hd=>⟨zmU I sx (hf d hd),zmU I sy (hf d hd)⟩
  have A0:Apart z TI TO i1 i2 [i1,a] [i2,b]:=by
   have nz:=ne z (by simp)
   have no:=ne TO (by simp)
   have n1:=ne i1 (by simp)
   have n2:=ne i2 (by simp)
   refine ⟨?_,?_,?_,?_,?_,?_,D.iz,D.oz,D.io,D.ii1,D.ii2⟩ <;> simp only [yP,yx,or_false,not_or]
   ·exact ⟨D.z1,Ne.symm nz.1⟩
   ·exact ⟨D.z2,Ne.symm nz.2⟩
   ·exact ⟨D.o1,Ne.symm no.1⟩
   ·exact ⟨D.o2,Ne.symm no.2⟩
   ·exact ⟨Ne.symm D.i12,Ne.symm n2.1⟩
   ·exact ⟨D.i12,Ne.symm n1.2⟩
  refine zll (ztC lb (ne i1 (by simp)).1) (ztC lb (ne i2 (by simp)).2) A0 wz wI wO ⟨g1,lx⟩ ⟨g2,ly⟩ hux hvy fun h' c1 c2 c3 c4 c5 c6 c7=>⟨_,rfl,?_⟩
  refine wpAny_letOwnedTupleGo_zip (s:={ s with heap:=h' }) c1 fun h2 e1 e2=>?_
  have ext:=zG e2
  have pz:s.heap.objs.size≠z:=Nat.ne_of_gt (yI wz)
  have kk:∀ d o,d ∉ [z,TO,i1,i2]->s.heap.get? d=some o->h2.get? d=some o:=fun d o hd e=>by
   simp only [yP,yx,or_false,not_or] at hd; exact ext d o hd.1 (c7 d o hd.1 hd.2.1 hd.2.2.1 hd.2.2.2 e)
  have fr:H s.heap.objs.size=none:=I.hok.fresh (yD _)
  have tp:IsPair h2 s.heap.objs.size ux vy:=ext _ _ pz c5
  have I2:Inv X pins σ (upd H s.heap.objs.size (.tup [x,y])) { s with heap:=h2 }:=I.turnedNew (t':=s.toks) (ch:=[z,TO,i1,i2]) (fun d hd=>hf d (by simp at hd ⊢; rcases hd with h | h | h | h <;> simp [h])) kk (yD _)
   ⟨by show 2<=sizeLine; exact Nat.le_of_lt (zaS (by decide)),[ux,vy],.cons rux (.cons rvy .nil),⟨_,tp,rfl,_,rfl⟩⟩
  refine ⟨.ref s.heap.objs.size,_,I2,rfl,⟨_,x,y,fr,rfl,rfl,fun xs' h=>by rw [zot I sx h]; exact hx,fun ys' h=>by rw [zot I sy h]; exact hy⟩,⟨e1,?_,⟨_,_,ext _ _ D.oz c2⟩,?_,?_⟩,fun d hd=>?_⟩
  ·exact kk _ _ (by simp [D.iz,D.io,D.ii1,D.ii2]) wI
  ·exact c3.1.at fun o e=>ext _ o (Ne.symm D.z1) e
  ·exact c4.1.at fun o e=>ext _ o (Ne.symm D.z2) e
  ·obtain ⟨od,gd,_⟩:∃ o,s.heap.get? d=some o/\True:=by
    simp only [yP,yx,or_false] at hd
    rcases hd with rfl | rfl | rfl | rfl | rfl
    ·exact ⟨_,wz,trivial⟩
    ·exact ⟨_,wI,trivial⟩
    ·exact ⟨_,wO,trivial⟩
    ·obtain ⟨o,e,_⟩:=g1.obj; exact ⟨o,e,trivial⟩
    ·obtain ⟨o,e,_⟩:=g2.obj; exact ⟨o,e,trivial⟩
   rw [zq (yU (yI gd))]; exact (hf d hd).1
 done:=by
  intro X hP hw hK hc i pins s σ H E I hf st hg
  subst hP hw hK
  obtain ⟨wz,wI,⟨u,v,wO⟩,g1,g2⟩:=st
  obtain ⟨xs,ys,sx,sy,hend⟩:=hg; obtain ⟨us,rx,lx⟩:=zjz I sx; obtain ⟨vs,ry,ly⟩:=zjz I sy
  have ne:∀ d,d ∈ [z,TI,TO,i1,i2]->a≠d/\b≠d:=fun d hd=>⟨zmU I sx (hf d hd),zmU I sy (hf d hd)⟩
  have A0:Apart z TI TO i1 i2 [i1,a] [i2,b]:=by
   have nz:=ne z (by simp)
   have no:=ne TO (by simp)
   have n1:=ne i1 (by simp)
   have n2:=ne i2 (by simp)
   refine ⟨?_,?_,?_,?_,?_,?_,D.iz,D.oz,D.io,D.ii1,D.ii2⟩ <;> simp only [yP,yx,or_false,not_or]
   ·exact ⟨D.z1,Ne.symm nz.1⟩
   ·exact ⟨D.z2,Ne.symm nz.2⟩
   ·exact ⟨D.o1,Ne.symm no.1⟩
   ·exact ⟨D.o2,Ne.symm no.2⟩
   ·exact ⟨Ne.symm D.i12,Ne.symm n2.1⟩
   ·exact ⟨D.i12,Ne.symm n1.2⟩
  have he:us[i]?=none\/vs[i]?=none:=by
   rcases hend with h | h
   ·exact .inl (List.getElem?_eq_none (by rw [<- rx.length]; exact h))
   ·exact .inr (List.getElem?_eq_none (by rw [<- ry.length]; exact h))
  refine zlk (I.ok.hd hc) (ztC lb (ne i1 (by simp)).1) (ztC lb (ne i2 (by simp)).2) A0 wz wI wO ⟨g1,lx⟩ ⟨g2,ly⟩ he fun h' k=>⟨rfl,?_⟩
  refine I.turnedL (t':=s.toks) (ch:=[z,TO,i1,i2]) (fun d hd=>hf d (by simp at hd ⊢; rcases hd with h | h | h | h <;> simp [h])) fun d o hd e=>?_
  simp only [yP,yx,or_false,not_or] at hd; exact k d o hd.1 hd.2.1 hd.2.2.1 hd.2.2.2 e
 self:=fun A i s Q E st q=>wpAny_pyIter_zip st.1 q
def zcO {a b:Nat} (h:a≠b):(a:Addr)≠(b:Addr):=h
def ap5 (n:Nat):Ap5 (n+4:Nat) (n+2:Nat) (n+3:Nat) n (n+1:Nat):=⟨zcO (by omega),zcO (by omega),zcO (by omega),zcO (by omega),zcO (by omega),zcO (by omega),zcO (by omega),zcO (by omega),zcO (by omega),zcO (by omega)⟩
def zok:bootBuiltins "zip"=some (.type "zip"):=by rfl
section
def zwt (K:W.Frag) (ta:TA):TI:=fun σ H R=>ta σ H fun vs H1=>∃ a b xs ys lb,vs=[.ref a,.ref b]/\SqB lb K H1 a xs/\SqB lb K H1 b ys/\R (Itz lb K a b) H1
def zsh {e1 e2:Expr} {elts:List Expr} {c:Nat} {ta:TA} {p pos tp:Pos} (hg:Gl X "zip") (hm:X.mg "zip"=none) (ha:PA X [e1,e2] ta) (hs:starEach [e1,e2] X.env=(false,eval e1 X.env) :: starEach [e2] X.env:=by rfl) (hpl:(backTo pos (starEach [e2] X.env)).any (·.1)=false:=by rfl) :
  PI X (.Tuple elts c tp) (.Call (.Name "zip" p) [e1,e2] [] pos) (zwt X.K ta):=by
 intro pins s σ H R I h
 refine Call_ (zdr I hg hm zok (YV (thn (ha pos pins s σ H _ I h) fun us s1 ⟨vs,H1,I1,r1,q1⟩=>?_) hs hpl))
 obtain ⟨a,b,xs,ys,lb,e,sx,sy,q⟩:=q1; subst e; obtain ⟨u,v,rfl,ru,rv⟩:=zkw r1
 obtain rfl:u=Value.ref a:=ru
 obtain rfl:v=Value.ref b:=rv
 obtain ⟨us,rx,lx⟩:=zjz I1 sx; obtain ⟨vs,ry,ly⟩:=zjz I1 sy
 have fin:∀ h',IsZip h' (s1.heap.objs.size+4) (s1.heap.objs.size+2) (s1.heap.objs.size+3) .none->IsPair h' (s1.heap.objs.size+2) (.ref s1.heap.objs.size) (.ref (s1.heap.objs.size+1))->IsPair h' (s1.heap.objs.size+3) .none .none ->
   ItB lb h' s1.heap.objs.size a 0->ItB lb h' (s1.heap.objs.size+1) b 0->(∀ c o,s1.heap.get? c=some o->h'.get? c=some o) ->
   wpAny (model X.prog X.w) X.A (pyIter (.ref (s1.heap.objs.size+4))) (PIE X pins σ (.Tuple elts c tp) R) X.xe { s1 with heap:=h' }:=by
  intro h' z1 z2 z3 z4 z5 k
  refine wpAny_pyIter_zip (s:={ s1 with heap:=h' }) z1 ?_
  refine ⟨s1.heap.objs.size+4,[s1.heap.objs.size+4,s1.heap.objs.size+2,s1.heap.objs.size+3,s1.heap.objs.size,s1.heap.objs.size+1],_,_,H1,rfl,I1.kept (t':=s1.toks) k,zmM lb a b _ _ _ _ _ (ap5 _),⟨z1,z2,⟨_,_,z3⟩,z4,z5⟩,fun d hd=>?_,q⟩
  have hd':s1.heap.objs.size<=d:=by
   simp only [yP,yx,or_false] at hd
   rcases hd with rfl | rfl | rfl | rfl | rfl <;> omega
  exact I1.fpOk hd' (I1.hok.fresh hd')
 cases lb with
 | true=>exact call_zip_2 lx ly fun h' z1 z2 z3 z4 z5 _ k=>fin h' z1 z2 z3 z4 z5 k
 | false=>exact zqZ lx ly fun h' z1 z2 z3 z4 z5 k=>fin h' z1 z2 z3 z4 z5 k
end
end L2
namespace PL
open PySem L2
def ziA {lb:Bool} {K:W.Frag} {H H':Hp} {a:Addr} {vs:List V} (s:zY H H') (h:SqB lb K H a vs):SqB lb K H' a vs:=by
 cases lb with
 | true=>exact zL s h
 | false=>exact zR s h
def zlL {K:W.Frag} {Hi:Hp} {a b:Addr} {us vs:List V} {ds es:List D} {lb:Bool} (h1:SqB lb K Hi a us) (r1:zaU K Hi us ds) (h2:SqB lb K Hi b vs) (r2:zaU K Hi vs es):ItD K Hi (Itz lb K a b) ((ds.zip es).map fun p=>.tup [p.1,p.2]):=by
 intro Hi' H' s1 s2
 have q1:SqB lb K H' a us:=ziA (s1.trans s2.sub) h1
 have q2:SqB lb K H' b vs:=ziA (s1.trans s2.sub) h2
 refine ⟨fun i d e=>?_,us,vs,q1,q2,?_⟩
 ·rw [yH] at e
  obtain ⟨⟨d1,d2⟩,hz,rfl⟩:=YY.mp e
  obtain ⟨e1,e2⟩:=List.getElem?_zip_eq_some.mp hz; obtain ⟨u,hu,ru⟩:=zX r1 e1; obtain ⟨v,hv,rv⟩:=zX r2 e2; refine ⟨⟨us,vs,u,v,q1,q2,hu,hv⟩,?_⟩
  rintro x H'' ⟨p,x1,y1,hp,rfl,rfl,k1,k2⟩
  have ex:x1=u:=by have:=k1 us q1; rw [hu] at this; exact (Option.some.inj this).symm
  have ey:y1=v:=by have:=k2 vs q2; rw [hv] at this; exact (Option.some.inj this).symm
  subst ex ey
  have ex:=Ext.new s2 hp (.tup [x1,y1]); exact ⟨_,ex,Den.mkT zp (.cons (ru.mono (s1.trans ex.hi)) (.cons (rv.mono (s1.trans ex.hi)) .nil))⟩
 ·rw [yE,List.length_zip,zj r1,zj r2]
  omega
section
def zoa (t:TA'):TI':=fun Γ Q=>t Γ fun ds Γ1=>∃ xs ys,(ds=[.tup xs,.tup ys]\/ds=[.lst xs,.lst ys])/\Q ((xs.zip ys).map fun p=>.tup [p.1,p.2]) Γ1
def zpX {e1 e2:Expr} {elts:List Expr} {c:Nat} {t:TA'} {p pos tp:Pos} (hm:X.mg "zip"=none) (ha:PA' X [e1,e2] t) (hg:Gl X "zip":=by rfl):PI' X (.Tuple elts c tp) (.Call (.Name "zip" p) [e1,e2] [] pos) (zoa t):=by
 refine ⟨PI.weak (zsh hg hm ha.pa (zS (zx ha.pl).1) (zae (zx ha.pl).2)) ?_⟩
 rintro σ H R ⟨W,Hi,Γ,Q,g,h,fin⟩
 refine ⟨W,Hi,Γ,_,g,h,?_⟩
 rintro vs H1 Hi1 Γ1 ds s1 g1 dl ⟨xs,ys,hd,q⟩
 rcases hd with rfl | rfl
 ·obtain ⟨v,w,rfl,d1,d2⟩:=zhd dl
  obtain ⟨a,us,rfl,h1,r1⟩:=d1.tupI; obtain ⟨b,ws,rfl,h2,r2⟩:=d2.tupI; exact ⟨a,b,us,ws,false,rfl,zR g1.sub h1,zR g1.sub h2,fin _ H1 Hi1 Γ1 _ s1 g1 (zlL (lb:=false) h1 r1 h2 r2) q⟩
 ·obtain ⟨v,w,rfl,d1,d2⟩:=zhd dl
  obtain ⟨a,us,rfl,h1,r1⟩:=d1.lstI; obtain ⟨b,ws,rfl,h2,r2⟩:=d2.lstI; exact ⟨a,b,us,ws,true,rfl,zL g1.sub h1,zL g1.sub h2,fin _ H1 Hi1 Γ1 _ s1 g1 (zlL (lb:=true) h1 r1 h2 r2) q⟩
end
end PL
namespace Lb
def Dig (c:Nat):Prop:=48<=c/\c<=57
def Sml (c:Nat):Prop:=97<=c/\c<=122
def zrf:List Nat:=[97,98,99,100,101,102,103,104,105,106,107,108,109,110,111,112,113,114,115,116,117,118,119,120,121,122]
def ztc:List Nat:=[48,49,50,51,52,53,54,55,56,57]
def znH (c:Nat):c ∈ zrf↔Sml c:=by
 show c ∈ List.range' 97 26↔_
 rw [List.mem_range'_1]; unfold Sml; omega
def zed (c:Nat):c ∈ ztc↔Dig c:=by
 show c ∈ List.range' 48 10↔_
 rw [List.mem_range'_1]; unfold Dig; omega
theorem zcL {p:Nat->Bool}:∀ (ls ds:List Nat),(∀ c ∈ ls,p c=true)->(∀ c ∈ ds,p c=false)->(ls ++ ds).takeWhile p=ls
 | [],[],_,_=>rfl
 | [],d :: ds,_,h=>by rw [YM,List.takeWhile_cons,h d (yR ..)]; rfl
 | l :: ls,ds,h1,h2=>by
  rw [List.cons_append,List.takeWhile_cons,h1 l (yR ..),yM rfl,zcL ls ds (fun c hc=>h1 c (yL _ hc)) h2]
def zjy {p:Nat->Bool} {ds ls:List Nat} (h1:∀ c ∈ ls,p c=true) (h2:∀ c ∈ ds,p c=false):(((ds ++ ls).reverse).takeWhile p).length=ls.length:=by
 rw [List.reverse_append,zcL _ _ (fun c hc=>h1 c (List.mem_reverse.mp hc)) (fun c hc=>h2 c (List.mem_reverse.mp hc)),List.length_reverse]
def dig (c:Nat):Bool:=decide (c ∈ ztc)
def sml (c:Nat):Bool:=decide (c ∈ zrf)
def wsg:List Nat:=zrf ++ ztc
def cut (l:List Nat):List Nat:=(l.reverse.dropWhile sml).reverse
def zdd (l:List Nat):List Nat:=(l.reverse.takeWhile sml).reverse
def zgf (l:List Nat):cut l ++ zdd l=l:=by
 unfold cut zdd; rw [<- List.reverse_append,List.takeWhile_append_dropWhile,List.reverse_reverse]
theorem zcM {p:Nat->Bool}:∀ l:List Nat,∀ c ∈ l.takeWhile p,p c=true
 | [],c,h=>by simp at h
 | a :: r,c,h=>by
  rw [List.takeWhile_cons] at h; split at h
  ·rename_i ha
   rcases yP.mp h with e | e
   ·rw [e]; exact ha
   ·exact zcM r c e
  ·simp at h
def zmR (l:List Nat):∀ c ∈ zdd l,sml c=true:=fun c hc=>zcM _ c (List.mem_reverse.mp hc)
def ze2 {c:Nat} (h:dig c=true):sml c=false:=by
 have a:=(zed c).mp (of_decide_eq_true h)
 refine yg fun z=>?_
 have b:=(znH c).mp z; unfold Dig at a; unfold Sml at b; omega
def ztj {ds ls:List Nat} (h1:∀ c ∈ ls,sml c=true) (h2:∀ c ∈ ds,sml c=false):cut (ds ++ ls)=ds:=by
 have e:=zjy h1 h2; have a:=zgf (ds ++ ls)
 have hl:(zdd (ds ++ ls)).length=ls.length:=by
  unfold zdd; rw [List.length_reverse]; exact e
 have hl2:(cut (ds ++ ls)).length=ds.length:=by
  have:=yi List.length a
  rw [yV,yV] at this; omega
 exact (List.append_inj a hl2).1
def zu (l:List Nat):Bool:=decide (1<=(cut l).length/\(cut l).length<=9) && decide ((cut l)[0]?≠some 48) && (cut l).all dig && decide (l.length-(cut l).length<=3)
end Lb
namespace M11
open PySem L2 Lb PL
theorem zg9:∀ (m:Nat),1<=m->∃ c r,Nat.toDigits 10 m=c :: r/\c.toNat≠48
 | m,h=>by
  by_cases hm:m<10
  ·refine ⟨_,[],Nat.toDigits_of_lt_base hm,?_⟩
   have:∀ k:Fin 10,k.1≠0->(Nat.digitChar k.1).toNat≠48:=by decide
   exact this ⟨m,hm⟩ (Nat.pos_iff_ne_zero.mp h)
  ·obtain ⟨c,r,e,hc⟩:=zg9 (m / 10) (by omega)
   exact ⟨c,r ++ [(m % 10).digitChar],by rw [Nat.toDigits_of_base_le (by decide) (by omega),e]; rfl,hc⟩
termination_by m=>m
decreasing_by omega
def num_lab {n:Int} (h0:1<=n) (h1:n<10 ^ 9):(∀ c ∈ zmv n,dig c=true)/\1<=(zmv n).length/\(zmv n).length<=9/\(zmv n)[0]?≠some 48:=by
 have hl:=PyProof.Rows.toString_length_le (v:=n) (by omega) (k:=9) (by decide) h1
 obtain ⟨m,rfl⟩:=Yv (show 0<=n by omega)
 have hs:=W.KIN.signs_num m
 obtain ⟨c,r,e,hc⟩:=zg9 m (by omega)
 unfold zmv
 refine ⟨fun c hc=>?_,?_,?_,?_⟩
 ·rw [hs] at hc
  obtain ⟨d,hd,rfl⟩:=yS.mp hc
  have hdig:=Nat.isDigit_of_mem_toDigits (by decide) (by decide) hd
  simp only [Char.isDigit,yr,YE] at hdig; exact Yl ((zed _).mpr ⟨hdig.1,hdig.2⟩)
 ·rw [hs,e]
  simp
 ·rw [show (Str.ofString (toString (m:Int))).cps.toList.length=(Str.ofString (toString (m:Int))).length by simp [Str.length]]
  exact hl
 ·rw [hs,e]
  simpa using hc
def lab_of {ds ls:List Nat} (h1:∀ c ∈ ds,dig c=true) (h2:1<=ds.length) (h3:ds.length<=9) (h4:ds[0]?≠some 48) (h5:∀ c ∈ ls,sml c=true) (h6:ls.length<=3):zu (ds ++ ls)=true:=by
 have e:cut (ds ++ ls)=ds:=ztj h5 fun c hc=>ze2 (h1 c hc)
 unfold zu; rw [e]
 have ha:ds.all dig=true:=Yk.mpr h1
 rw [ha,Yl (⟨h2,h3⟩:1<=ds.length/\ds.length<=9),Yl h4,Yl (show (ds ++ ls).length-ds.length<=3 by rw [yV]; omega)]
 rfl
end M11
namespace MT
open PySem L2 PL
abbrev Pl:=List (List Nat)
inductive Tr where
 | node (l:List Nat) (ws:Pl) (ks:List Tr)
def Tr.lab:Tr->List Nat
 | .node l _ _=>l
def Tr.wds:Tr->Pl
 | .node _ ws _=>ws
def Tr.kds:Tr->List Tr
 | .node _ _ ks=>ks
mutual
def trD:Tr->D
 | .node l ws ks=>.tup [.str l,plc ws,.tup (zrw ks)]
def zrw:List Tr->List D
 | []=>[]
 | t :: r=>trD t :: zrw r
end
theorem zir:∀ ks:List Tr,zrw ks=ks.map trD
 | []=>by simp [zrw]
 | t :: r=>by simp [zrw,zir r]
def zai (t:Tr):trD t=.tup [.str t.lab,plc t.wds,.tup (t.kds.map trD)]:=by
 cases t with
 | node l ws ks=>simp [trD,zir,Tr.lab,Tr.wds,Tr.kds]
def zn (l:List Nat) (ks:List Tr):Option Tr:=ks.find? fun k=>decide (k.lab=l)
def ziU:Option Tr->D
 | none=>.non
 | some t=>trD t
def zr:Tr->Pl->Option Tr
 | t,[]=>some t
 | t,l :: p=>match zn l t.kds with
  | none=>none
  | some k=>zr k p
def zrr (above zcc:Tr):Tr:=.node above.lab above.wds (above.kds.map fun k=>if k.lab=zcc.lab then zcc else k)
def za6:Tr->Pl->Tr->Tr
 | _,[],n=>n
 | t,l :: p,n=>match zn l t.kds with
  | none=>n
  | some k=>zrr t (za6 k p n)
def zcw (t:Tr):trD t≠.non:=by rw [zai]; simp
inductive Pln:Nat->D->Prop where
 | str (n:Nat) (l:List Nat):Pln n (.str l)
 | tup {n:Nat} {ds:List D} (h:∀ d ∈ ds,Pln n d):Pln (n+1) (.tup ds)
 | lst {n:Nat} {ds:List D} (h:∀ d ∈ ds,Pln n d):Pln (n+1) (.lst ds)
def Pln.plc (n:Nat) (p:Pl):Pln (n+1) (plc p):=.tup fun d hd=>by
 obtain ⟨l,_,rfl⟩:=yS.mp hd; exact .str n l
def Pln.up {n:Nat} {d:D} (h:Pln n d):∀ {m:Nat},n<=m->Pln m d:=by
 induction h with
 | str n l=>exact fun _=>.str _ l
 | tup h ih =>
  intro m hm
  obtain ⟨k,rfl⟩:∃ k,m=k+1:=⟨m-1,by omega⟩
  exact .tup fun d hd=>ih d hd (by omega)
 | lst h ih =>
  intro m hm
  obtain ⟨k,rfl⟩:∃ k,m=k+1:=⟨m-1,by omega⟩
  exact .lst fun d hd=>ih d hd (by omega)
inductive Dp:Nat->Tr->Prop where
 | mk {n:Nat} {l:List Nat} {ws:Pl} {ks:List Tr} (h:∀ k ∈ ks,Dp n k):Dp (n+1) (.node l ws ks)
def Dp.pln {n:Nat} {t:Tr} (h:Dp n t):Pln (2 * n+1) (trD t):=by
 induction h with
 | @mk n l ws ks h ih =>
  rw [zai]
  refine .tup fun d hd=>?_
  simp only [yP,yx,or_false] at hd
  rcases hd with rfl | rfl | rfl
  ·exact .str _ _
  ·exact .plc _ _
  ·exact .tup fun d hd=>by
    obtain ⟨k,hk,rfl⟩:=yS.mp hd; exact ih k hk
def zkL (ws old:Pl):List Nat:=(List.range (ws.length+1-old.length)).filter fun b=>decide ((ws.drop b).take old.length=old)
theorem zc5:∀ (p:Pl) (t:Tr) (l:List Nat),zr t (p ++ [l])=match zr t p with
  | none=>none
  | some k=>zn l k.kds
 | [],t,l=>by
  simp only [YM,zr]
  cases zn l t.kds <;> rfl
 | m :: p,t,l=>by
  simp only [List.cons_append,zr]
  cases zn m t.kds with
  | none=>rfl
  | some k=>exact zc5 p k l
def zh3 {t:Tr} {p:Pl} (h:(zr t p).isSome=true):∀ i,(zr t (p.take i)).isSome=true:=by
 intro i
 have e:p=p.take i ++ p.drop i:=(List.take_append_drop i p).symm
 generalize p.drop i=r at e; generalize hq:p.take i=a at e
 clear hq
 subst e
 induction r generalizing a with
 | nil=>simpa using h
 | cons l r ih =>
  have h':(zr t ((a ++ [l]) ++ r)).isSome=true:=by simpa using h
  have:=ih (a ++ [l]) h'
  rw [zc5] at this
  cases hn:zr t a with
  | none=>rw [hn] at this; exact this
  | some k=>rfl
end MT
namespace L2
open PySem PySem.Spec PyProof.Rows
def PU (X:Cx) (e:Expr) (t:TE):Prop:=∀ (pins:yyL) (s:Shared) (σ:St) (H:Hp) (Q:VK) (i:Nat) (x:Str) (pos pos':Pos) (D:Ends),Inv X pins σ H s->t σ H Q->X.N.Nodup->X.N[i]?=some x->X.env.scope.names.lookup x=some .local ->
 swapsWith e (some (.Name x pos')) pos.line X.env=pure true->(∀ v H',Q v H'->D.nx (σ.set i (some v)) H')->wpAny (model X.prog X.w) X.A (exec (.Assign [.Name x pos'] e pos) X.env) (SP X pins D) X.xe s
def PU.weak {X:Cx} {e:Expr} {t t2:TE} (h:PU X e t) (w:∀ σ H Q,t2 σ H Q->t σ H Q):PU X e t2:=fun pins s σ H Q i x pos pos' D I q=>h pins s σ H Q i x pos pos' D I (w _ _ _ q)
def zpI {X:Cx} {elt tg iter:Expr} {ifs:List Expr} {sc fsc:Scope} {pos:Pos} {wi:TI} {g:TG} {tc:TT} {te:TE} {N N':List Str} {src:List (Option Nat)} (B:Blk N N' src fsc sc) (hi:PI X tg iter wi)
  (hg:∀ cl C s H fp pn,PG (blk X N' sc cl C s H fp pn) tg g) (ht:∀ cl C s H fp pn,PTs (blk X N' sc cl C s H fp pn) ifs tc) (he:∀ cl C s H fp pn,PE (blk X N' sc cl C s H fp pn) elt te)
  (hx:X.xe=(fun _ _=>False):=by rfl) (hc:X.calm=true:=by rfl) (hN:X.N=N:=by rfl) (hs:X.env.scope=fsc:=by rfl)
  (hf:∀ x,foldedSetIterable iter X.env x=pure x:=by intro _; rfl):PU X (.ListComp elt [⟨tg,iter,ifs,0⟩] sc pos) (zrG wi src g tc te):=by
 intro pins s σ H Q i0 x0 p0 p1 D0 I h hNd hi0 hx0 hsw fin; rw [exec_Assign_Name_used _ _ _ _ hsw]; refine yA (wpAny_standAt (yA ?_))
 show wpAny _ _ (do let _ <- comprehension (.ListComp elt [⟨tg,iter,ifs,0⟩] sc pos) sc X.env _ (newList []) false (eval iter X.env) (some (assign (.Name x0 p1) X.env))) _ _ _
 have hfr:∀ y ∈ sc.names,y.2=.free->∃ c,X.env.cells.lookup y.1=some c:=fun y hy e=>I.ok.has y.1 (.inl (by have:=B.free y hy e; rw [<- hs] at this; exact this))
 refine yA (yp (wpAny_comprehension_free (use:=some (assign (.Name x0 p1) X.env)) (Q:=fun _ s'=>SP X pins D0 .next s') (cl:=zcR X.env.cells sc.names []) rfl hf (zfA hfr) B.kind B.names ?_) (fun _ s' hq=>yF (yF hq)) fun _ _ e=>e)
 refine thn (hi pins s σ H _ I h) fun v s1 h1=>thn h1 fun itv s2 h2=>?_
 obtain ⟨it,fp,tn,J,H2,e,I2,T,st2,f2,q⟩:=h2; subst e
 obtain ⟨W,⟨m0,w0⟩,turn⟩:=q s2.heap.objs.size (I2.hok.fresh (yD _))
 refine YD (wpAny_newFunctionEnv B.cell (by intro y hy; simp at hy) (fun h1 hns hsb=>?_) B.kind)
 dsimp only at hns hsb ⊢
 have I3:Inv X pins σ (upd H2 s2.heap.objs.size (.lst [])) { s2 with heap:=s2.heap.push { cls:=.type "list",dict:=none,data:=.seq ([]:List Value).toArray } } :=
  I2.laid (t':=s2.toks) (fun b o e=>yB _ e) (yD _) ⟨YB _,[],0,.nil,yJ _ rfl⟩
 have fb:∀ b ∈ fp,b<s2.heap.objs.size:=fun b hb=>by
  obtain ⟨o,e,_⟩:=T.obj 0 _ st2 b hb; exact yI e
 have f3:∀ b ∈ fp,zd4 X pins (upd H2 s2.heap.objs.size (.lst [])) b:=fun b hb=>by
  refine ⟨?_,(f2 b hb).2⟩; rw [zq (yU (fb b hb))]; exact (f2 b hb).1
 generalize hh3:s2.heap.push { cls:=.type "list",dict:=none,data:=.seq ([]:List Value).toArray }=h3 at hns hsb I3 ⊢
 have z3:s2.heap.objs.size<h3.objs.size:=by rw [<- hh3,Ym]; exact Nat.lt_succ_self _
 have k3:∀ b o,h3.get? b=some o->h1.get? b=some o:=fun b o e=>hsb.extBut b o (yU (yI e)) (yB _ e)
 have I4:=zo7 (tk:=s2.toks+([]:List (Str × Value)).length) I3 B hN hs f3 (fun b hb=>JB (fb b hb) z3) hns k3
 have st4:tn 0 h1:=T.keep 0 _ _ st2 fun b hb o e=>k3 b o (by rw [<- hh3]; exact yB _ e)
 have fok:∀ {H':Hp},(∀ b ∈ fp,H' b=none)->∀ b ∈ fp,zd4 (blk X N' sc (zcR X.env.cells sc.names []) h3.objs.size { s2 with heap:=h3 } (upd H2 s2.heap.objs.size (.lst [])) fp (X.pn ++ pins)) [] H' b:=fun hn b hb=>by
  obtain ⟨_,g1,g2,g3,g4,g5⟩:=f3 b hb
  refine ⟨hn b hb,yU (JB (fb b hb) z3),fun z=>?_,.inl hb,fun x c e=>g4 x c (zdz sc.names [] hfr (fun _ _ z=>by simp at z) e),fun p hp=>g5 p (by rw [yb] at hp; exact hp)⟩
  rcases yP.mp (I3.stkSub b z) with e | e
  ·exact g1 e
  ·exact g2 e
 have loop:∀ s4:Shared,s4={ s2 with heap:=h1,toks:=s2.toks+([]:List (Str × Value)).length } ->
   codeAny (model X.prog X.w) X.A (.compLoop (.ListComp elt [⟨tg,iter,ifs,0⟩] sc pos) 0 (.ref it) (.ref s2.heap.objs.size) (compEnvC sc (zcR X.env.cells sc.names []) h3.objs.size X.env))
    (compPost (model X.prog X.w) X.A X.xe (some (assign (.Name x0 p1) X.env)) (fun _ s'=>SP X pins D0 .next s') (.ref s2.heap.objs.size) h3.objs.size) s4:=by
  rintro s4 rfl
  refine zhi (fun k s'=>∃ i σ5 H5,Inv (blk X N' sc (zcR X.env.cells sc.names []) h3.objs.size { s2 with heap:=h3 } (upd H2 s2.heap.objs.size (.lst [])) fp (X.pn ++ pins)) [] σ5 H5 s'/\tn i s'.heap/\(∀ b ∈ fp,H5 b=none)/\W i k σ5 H5) ?_ m0
   ⟨0,_,_,I4,st4,fun b hb=>(f3 b hb).1,w0⟩
  rintro k s5 ⟨i,σ5,H5,I5,st5,fr5,w5⟩
  rcases turn i k σ5 H5 w5 with ⟨stop,qd⟩ | ⟨go,M,hM,step⟩
  ·refine thn (T.done (blk X N' sc (zcR X.env.cells sc.names []) h3.objs.size { s2 with heap:=h3 } (upd H2 s2.heap.objs.size (.lst [])) fp (X.pn ++ pins)) rfl rfl rfl hc i [] s5 σ5 H5 _ I5 (fok fr5) st5 stop) fun r s6 ⟨hr,I6⟩=>?_
   subst hr; obtain ⟨m6,hn6,_⟩:=id I6.loc
   have I7:Inv X pins σ H5 s6:=I3.call' (s':=s6) (ch:=fp) I6.os (Un.same I6.base (Heap.SameBut.refl ..) (yD _)) (HOk.same I6.hok (Heap.SameBut.refl ..) I6.free) I6.bare fun b hb=>⟨(f3 b hb).2.2.2.1,(f3 b hb).2.1,(f3 b hb).2.2.2.2.1,(f3 b hb).2.2.2.2.2⟩
   obtain ⟨c0,c1,c2,c3,c4,c5⟩:=I3.fpOk (H':=H5) (b:=h3.objs.size) (yD _) I6.free
   show wpAny _ _ (assign (.Name x0 p1) X.env (.ref s2.heap.objs.size)) _ _ _
   refine wpAny_assign_Name (zgv (v:=.ref s2.heap.objs.size) I7 hNd hi0 (.inl hx0) rfl (fun s8 I8 sb=>?_) (.inr hx0))
   obtain ⟨a8,sb8,ha8⟩:=sb
   have ne8:h3.objs.size≠a8:=by
    rcases ha8 with e | e
    ·rw [e]; exact c1
    ·exact fun z=>c4 _ _ e z.symm
   exact ⟨m6,hn6.sameBut sb8 ne8,fun h' hsb'=>⟨_,H5,I8.turned (t':=s8.toks) (fun b o hb e=>(hsb'.2 b hb).trans e) c0 c1 c3 c4 c5,fin _ _ qd⟩⟩
  ·refine thn (T.item (blk X N' sc (zcR X.env.cells sc.names []) h3.objs.size { s2 with heap:=h3 } (upd H2 s2.heap.objs.size (.lst [])) fp (X.pn ++ pins)) rfl rfl rfl hc i [] s5 σ5 H5 _ I5 (fok fr5) st5 go) fun r s6 ⟨u,hr,h6⟩=>?_
   subst hr
   refine thn h6 fun _ s7 ⟨x,H7,I7,r7,y7,st7,fr7⟩=>?_
   have I7':=I7.pinned (fok fr7) (T.obj _ _ st7)
   have back:∀ {σ8:St} {H8:Hp} {s8:Shared},Inv (blk X N' sc (zcR X.env.cells sc.names []) h3.objs.size { s2 with heap:=h3 } (upd H2 s2.heap.objs.size (.lst [])) fp (X.pn ++ pins)) ([] ++ zfq fp s7.heap) σ8 H8 s8->tn (i+1) s8.heap/\∀ b ∈ fp,H8 b=none:=fun {σ8 H8 s8} I8=>by
    have pn8:∀ b ∈ fp,∀ o,s7.heap.get? b=some o->s8.heap.get? b=some o/\H8 b=none:=fun b hb o e=>by
     have q:=I8.pin (b,o) (yc _ (yc _ (zcE hb e))); exact ⟨q.1,q.2.1⟩
    refine ⟨T.keep _ _ _ st7 fun b hb o e=>(pn8 b hb o e).1,fun b hb=>?_⟩
    obtain ⟨o,e,_⟩:=T.obj _ _ st7 b hb; exact (pn8 b hb o e).2
   have xf:∀ {α:Type} {t:Sem α} {Q1 Q2:α->Shared->Prop} {z:Shared},wpAny (model X.prog X.w) X.A t Q1 X.xe z->(∀ a z',Q1 a z'->Q2 a z')->wpAny (model X.prog X.w) X.A t Q2 (fun _ _=>False) z:=fun g1 g2=>by
    rw [hx] at g1; exact thn g1 g2
   refine xf (hg _ _ _ _ _ _ _ s7 σ5 H7 x u _ I7' r7 (step x H7 y7)) fun _ s8 ⟨σ8,H8,I8,q8⟩=>?_
   refine xf (ht _ _ _ _ _ _ _ s8 σ8 H8 _ I8 q8) fun b s9 ⟨H9,I9,q9⟩=>?_
   cases b with
   | false =>
    obtain ⟨m',hm,w'⟩:=hM σ8 H9 (by simpa using q9)
    obtain ⟨g1,g2⟩:=back I9; exact ⟨m',hm,i+1,σ8,H9,I9.unpinned,g1,g2,w'⟩
   | true =>
    rw [yM rfl] at q9 ⊢
    refine xf (he _ _ _ _ _ _ _ s9 σ8 H9 _ I9 q9) fun y s10 ⟨yv,H10,I10,r10,ys,hy,hz,w⟩=>?_
    obtain ⟨m',hm,w'⟩:=hM _ _ w
    refine xf (zeG (X:=(blk X N' sc (zcR X.env.cells sc.names []) h3.objs.size { s2 with heap:=h3 } (upd H2 s2.heap.objs.size (.lst [])) fp (X.pn ++ pins))) _ s10 σ8 H10 (.ref s2.heap.objs.size) [yv] _ [y] (fun _ H11=>H11=upd H10 s2.heap.objs.size (.lst (ys ++ [yv]))) I10 rfl (.cons r10 .nil) ⟨_,ys,yv,rfl,rfl,hy,hz,rfl⟩) fun _ s11 ⟨_,H11,I11,_,e11⟩=>?_
    subst e11; obtain ⟨g1,g2⟩:=back I11; exact ⟨m',hm,i+1,σ8,_,I11.unpinned,g1,g2,w'⟩
 exact codeAny_compStart_list (loop _ rfl) (T.self _ 0 _ _ _ st4 (loop _ rfl))
end L2
namespace PL
open PySem L2
structure PU' (X:Cx) (e:Expr) (t:TO'):Prop where
 h:PU X e (oOf X.K X.N.length t)
section
variable {pos:Pos}
def zm8 {elt tg iter:Expr} {ifs:List Expr} {sc fsc:Scope} {ti:TI'} {g:TG'} {tc:TT'} {te:TE'} {N N':List Str} {src:List (Option Nat)} (B:Blk N N' src fsc sc) (hi:PI' X tg iter ti)
  (hg:∀ cl C s H fp pn,PG' (blk X N' sc cl C s H fp pn) tg g) (ht:∀ cl C s H fp pn,PTs' (blk X N' sc cl C s H fp pn) ifs tc) (he:∀ cl C s H fp pn,PE' (blk X N' sc cl C s H fp pn) elt te)
  (hx:X.xe=(fun _ _=>False):=by rfl) (hc:X.calm=true:=by rfl) (hN:X.N=N:=by rfl) (hs:X.env.scope=fsc:=by rfl)
  (hf:∀ x,foldedSetIterable iter X.env x=pure x:=by intro _; rfl):PU' X (.ListComp elt [⟨tg,iter,ifs,0⟩] sc pos) (zaW ti src g tc te):=by
 refine ⟨PU.weak (zpI (g:=gOf X.K N'.length g) (tc:=zq6 X.K N'.length tc) (te:=tOf X.K N'.length te) B hi.h (fun a b c d e f=>(hg a b c d e f).h) (fun a b c d e f=>(ht a b c d e f).h) (fun a b c d e f=>(he a b c d e f).h) hx hc hN hs hf) ?_⟩
 rintro σ H Q2 ⟨W,Hi,Γ,Q,gd,h,fin⟩
 refine ⟨W,Hi,Γ,_,gd,h,?_⟩
 rintro J H1 Hi1 Γ1 ds s1 g1 itd ⟨hlen,q⟩
 intro A hA
 -- the state between two turns
 have hn':src.length=N'.length:=B.len
 refine zhh (n:=ds.length) (fun i σ' H'=>∃ Hi' acc vs Γ',zY Hi1 Hi'/\Fz Hi' H'/\(∀ b o,H1 b=some o->H' b=some o)/\(∀ b o,H1 b=some o->Hi' b=Hi1 b)/\Hi' A=none/\H' A=some (.lst vs)/\zaU X.K Hi' vs acc/\vs.length<=i/\σ'.length=N'.length /\
   (∀ (j:Nat) s,Γ'[j]?=some s->s=.emp\/∃ d,s=.val d/\∃ v,σ'[j]?=some (some v)/\Den X.K Hi' v d)/\zcK g tc te (fun acc=>Q (.lst acc) Γ1) (ds.drop i) acc Γ') ?_ ?_ ?_
 ·refine ⟨Hi1,[],[],zmC src Γ1,zY.refl _,(Ext.newO g1.fz hA _ (fun _ z=>by cases z)).fz,fun b o e=>zM hA _ b o e,fun b o e=>rfl,g1.sub.free hA,zp,.nil,YB _,?_,fun j s e=>?_,by simpa using q⟩
  ·unfold zmY; rw [yE,hn']
  ·unfold zmC at e
   rw [yH] at e
   cases hj:src[j]? with
   | none=>rw [hj] at e; cases e
   | some o =>
    rw [hj] at e
    cases o with
    | none=>cases e; exact .inl rfl
    | some i =>
     have e':(match Γ1[i]? with | some (.val d)=>Slot.val d | _=>.emp)=s:=Option.some.inj e
     cases hΓ:Γ1[i]? with
     | none=>rw [hΓ] at e'; exact .inl e'.symm
     | some sl =>
      rw [hΓ] at e'
      cases sl with
      | val d =>
       refine .inr ⟨d,e'.symm,?_⟩; obtain ⟨v,h1,h2⟩:=g1.val i d hΓ; refine ⟨v,?_,h2⟩; unfold zmY; rw [yH,hj]
       show some ((some i).bind fun i=>(σ[i]?).join)=some (some v)
       show some ((σ[i]?).join)=some (some v)
       rw [h1]; rfl
      | emp=>exact .inl e'.symm
      | own o=>exact .inl e'.symm
      | bk _ _ _=>exact .inl e'.symm
 ·rintro i σ' H' hlt ⟨Hi',acc,vs,Γ',s2,s3,k1,k2,hA1,hA2,dl,hv,hl,hsl,q⟩
  have hd:ds.drop i=ds[i] :: ds.drop (i+1):=YN hlt
  rw [hd] at q; obtain ⟨go,yl⟩:=(itd Hi' H' s2 s3).1 i ds[i] (yC hlt)
  refine ⟨go,fun x H'' y=>?_⟩
  obtain ⟨Hi'',ex,den⟩:=yl x H'' y
  have gb:Good X.K N'.length ⟨H'',Hi'',[]⟩ Hi'' Γ' σ' H'':=by
   refine ⟨hl,ex.fz,fun b o e _=>e,fun b o e=>⟨o,e⟩,fun b o e=>rfl,fun j d e=>?_,fun j o e=>?_,fun j k o o' b e=>?_,fun j d b xs e=>?_⟩
   ·rcases hsl j _ e with z | ⟨d',z,v,h1,h2⟩
    ·cases z
    ·cases z; exact ⟨v,h1,h2.mono ex.hi⟩
   ·rcases hsl j _ e with z | ⟨d',z,_⟩ <;> cases z
   ·rcases hsl j _ e with z | ⟨d',z,_⟩ <;> cases z
   ·rcases hsl j _ e with z | ⟨d',z,_⟩ <;> cases z
  refine ⟨⟨H'',Hi'',[]⟩,Hi'',Γ',ds[i],_,gb,den,q,?_⟩; intro σ3 H3 Hi3 Γ3 s4 g3 q3; refine ⟨⟨H'',Hi'',[]⟩,Hi3,Γ3,_,g3,q3,?_⟩; intro b H4 Hi4 Γ4 s5 g4 q4
  -- what the state is behind a turn
  have back:∀ {Γ5:Sts} {Hi5 H5:Hp},zY Hi4 Hi5->Good X.K N'.length ⟨H'',Hi'',[]⟩ Hi5 Γ5 σ3 H5 ->
    zY Hi1 Hi5/\Fz Hi5 H5/\(∀ b o,H1 b=some o->H5 b=some o)/\(∀ b o,H1 b=some o->Hi5 b=Hi1 b)/\Hi5 A=none/\H5 A=some (.lst vs)/\zY Hi' Hi5:=fun {Γ5 Hi5 H5} s6 g5=>by
   have sx:zY Hi' Hi5:=ex.hi.trans (s4.trans (s5.trans s6))
   have hA3:H'' A=some (.lst vs):=ex.h _ _ hA2
   refine ⟨s2.trans sx,g5.fz,fun b o e=>g5.keep b o (ex.h _ _ (k1 b o e)) (by simp),fun b o e=>?_,?_,g5.keep A _ hA3 (by simp),sx⟩
   ·rw [g5.fro b o (ex.h _ _ (k1 b o e))]
    show Hi'' b=Hi1 b
    rw [ex.fro b o (k1 b o e),k2 b o e]
   ·rw [g5.fro A _ hA3]
    show Hi'' A=none
    rw [ex.fro A _ hA2,hA1]
  have sl:∀ {Γ5:Sts} {Hi5 H5:Hp},Good X.K N'.length ⟨H'',Hi'',[]⟩ Hi5 Γ5 σ3 H5->∀ (j:Nat) s,(vo Γ5)[j]?=some s->s=.emp\/∃ d,s=.val d/\∃ v,σ3[j]?=some (some v)/\Den X.K Hi5 v d:=fun {Γ5 Hi5 H5} g5 j s e=>by
   unfold vo at e; rw [yH] at e
   cases hj:Γ5[j]? with
   | none=>rw [hj] at e; cases e
   | some sl =>
    rw [hj] at e
    cases sl with
    | val d =>
     cases e; exact .inr ⟨d,rfl,g5.val j d hj⟩
    | emp=>cases e; exact .inl rfl
    | own o=>cases e; exact .inl rfl
    | bk _ _ _=>cases e; exact .inl rfl
  cases b with
  | false =>
   simp only [YL,if_false] at q4 ⊢; obtain ⟨b1,b2,b3,b4,b5,b6,b7⟩:=back (zY.refl _) g4
   exact ⟨Hi4,acc,vs,vo Γ4,b1,b2,b3,b4,b5,b6,dl.mono b7,by omega,g4.len,sl g4,q4⟩
  | true =>
   simp only [if_true] at q4 ⊢; refine ⟨⟨H'',Hi'',[]⟩,Hi4,Γ4,_,g4,q4,?_⟩
   rintro y' H5 ⟨Hi5,dy,Γ5,s6,g5,den5,q5⟩
   obtain ⟨b1,b2,b3,b4,b5,b6,b7⟩:=back s6 g5
   refine ⟨vs,b6,by omega,Hi5,acc ++ [dy],vs ++ [y'],vo Γ5,b1,?_,?_,b4,b5,zp,zat (dl.mono b7) (.cons den5 .nil),by rw [yV]; simp; omega,g5.len,sl g5,q5⟩
   ·refine ⟨fun b o e=>?_,fun b xs e=>?_⟩
    ·rw [zq (fun z=>by rw [z,b5] at e; cases e)]
     exact b2.sub b o e
    ·by_cases hb:b=A
     ·subst hb; rw [zp] at e; cases e
     ·rw [zq hb] at e; exact b2.tups b xs e
   ·intro b o e
    rw [zq (zA e hA)]; exact b3 b o e
 ·rintro σ' H' ⟨Hi',acc,vs,Γ',s2,s3,k1,k2,hA1,hA2,dl,hv,hl,hsl,q⟩
  refine ⟨(itd Hi' H' s2 s3).2,?_⟩; rw [YZ (yD _)] at q
  have ex:Ext Hi1 H1 Hi' H':=⟨s2,k1,s3,k2⟩
  refine fin A H' Hi' Γ1 (.lst acc) (s1.trans s2) (g1.ext ex) ⟨hA1,?_,⟨fun j o' e z=>?_,fun j d xs e=>?_⟩,vs,hA2,dl⟩ q
  ·cases hq:W.H₀ A with
   | none=>rfl
   | some w =>
    obtain ⟨w',hw⟩:=g1.there A w hq
    rw [hA] at hw; cases hw
  ·obtain ⟨a,h1,_,_,h4⟩:=g1.own j o' e
   rw [z] at h1; cases h1; obtain ⟨w,hw⟩:=h4.there
   rw [hA] at hw; cases hw
  ·obtain ⟨w,hw⟩:=(g1.bk j d A xs e).at_.there
   rw [hA] at hw; cases hw
def zna (i:Nat) {x:Str} {e:Expr} {te:TO'} {pos':Pos} (hN:X.N.Nodup) (he:PU' X e te) (hi:X.N[i]?=some x:=by rfl) (hx:X.env.scope.names.lookup x=some .local:=by rfl) (hs:swapsWith e (some (.Name x pos')) pos.line X.env=pure true:=by rfl):PS' X (.Assign [.Name x pos'] e pos) (zal (zbr te) (zt i)):=by
 refine ⟨fun pins s σ H N2 I q=>?_⟩
 obtain ⟨W,Hi,Γ,N,g,h,l⟩:=q
 refine he.h pins s σ H (fun v H'=>N2.nx (σ.set i (some v)) H') i x pos pos' N2 I ⟨W,Hi,Γ,_,g,h,?_⟩ hN hi hx hs fun _ _ z=>z
 intro a H1 Hi1 Γ1 o s1 g1 nw q; obtain ⟨u,hu⟩:=nw.own.there; exact l.nx _ H1 (upd Hi1 a u) _ (s1.trans (zM nw.hi u)) ((g1.freezeA nw.hi nw.h0 nw.ne hu).set (yG.mp hi).1 (nw.own.den nw.hi hu)) q
end
def zwF:OD->Prop
 | .lst ds=>∀ d,d ∈ ds->Imm d
 | _=>False
def zE (n:Nat) (t:TO'):TO':=fun Γ Q=>t (zbQ n Γ) fun o _=>zwF o/\Q o Γ
structure ExtB (b:Addr) (Hi H Hi' H':Hp):Prop where
 hi:zY Hi Hi'
 h:∀ a o,a≠b->H a=some o->H' a=some o
 fz:Fz Hi' H'
 fro:∀ a o,H a=some o->Hi' a=Hi a
def zW {Γ:Sts} {i:Nat} {t:Slot} {j:Nat} {s:Slot} (e:(Γ.set i t)[j]?=some s):(j=i/\s=t)\/(j≠i/\Γ[j]?=some s):=by
 by_cases hj:j=i
 ·subst hj
  refine .inl ⟨rfl,?_⟩; rw [List.getElem?_set] at e; simp only [if_true] at e; split at e
  ·exact (Option.some.inj e).symm
  ·cases e
 ·rw [yZ (fun z=>hj z.symm)] at e
  exact .inr ⟨hj,e⟩
def Good.extB {K:W.Frag} {n:Nat} {W:Wd} {Hi Hi' H H':Hp} {Γ:Sts} {σ:St} {i:Nat} {d:D->D} {b:Addr} {xs xs':OD} (g:Good K n W Hi Γ σ H) (e0:Γ[i]?=some (.bk d b xs)) (e:ExtB b Hi H Hi' H') (at_:za5 K Hi' H' b xs'):Good K n W Hi' (Γ.set i (.bk d b xs')) σ H':=by
 have B:=g.bk i d b _ e0
 have hbi:Hi' b=none:=by
  obtain ⟨u,hu⟩:=B.at_.there; exact (e.fro b u hu).trans B.hi
 have mv:∀ {a:Addr} {o:OD},a≠b->za5 K Hi H a o->za5 K Hi' H' a o:=fun ne h=>h.mono e.hi fun u q=>e.h _ u ne q
 refine ⟨g.len,e.fz,fun a o q nf=>?_,fun a o q=>?_,fun a o q=>?_,fun j d' q=>?_,fun j o q=>?_,fun j k o o' a q1 q2 h1 h2=>?_,fun j d' b' ys q=>?_⟩
 ·refine e.h a o (fun z=>?_) (g.keep a o q nf)
  rw [z] at q nf; rw [B.h0 nf] at q; cases q
 ·by_cases z:a=b
  ·rw [z]
   exact at_.there
  ·obtain ⟨o',h⟩:=g.there a o q
   exact ⟨o',e.h a o' z h⟩
 ·obtain ⟨o',h⟩:=g.there a o q
  exact (e.fro a o' h).trans (g.fro a o q)
 ·rcases zW q with ⟨_,z⟩ | ⟨_,z⟩
  ·cases z
  ·obtain ⟨v,h1,h2⟩:=g.val j d' z
   exact ⟨v,h1,h2.mono e.hi⟩
 ·rcases zW q with ⟨_,z⟩ | ⟨_,z⟩
  ·cases z
  ·obtain ⟨a,h1,h2,h3,h4⟩:=g.own j o z
   have ne:a≠b:=fun w=>B.ne j o z (by rw [<- w]; exact h1)
   obtain ⟨u,hu⟩:=h4.there; exact ⟨a,h1,(e.fro a u hu).trans h2,h3,mv ne h4⟩
 ·rcases zW q1 with ⟨_,z⟩ | ⟨_,z⟩
  ·cases z
  ·rcases zW q2 with ⟨_,y⟩ | ⟨_,y⟩
   ·cases y
   ·exact g.apart j k o o' a z y h1 h2
 ·rcases zW q with ⟨rfl,z⟩ | ⟨hj,z⟩
  ·cases z
   obtain ⟨⟨v,v1,v2⟩,p1,p2,p3,p4,p5,p6⟩:=B
   refine ⟨⟨v,v1,v2.mono e.hi⟩,p1,hbi,p3,at_,fun k d2 ys q=>?_,fun k o' q=>?_⟩
   ·rcases zW q with ⟨rfl,y⟩ | ⟨_,y⟩
    ·rfl
    ·exact p5 k _ _ y
   ·rcases zW q with ⟨_,y⟩ | ⟨_,y⟩
    ·cases y
    ·exact p6 k o' y
  ·obtain ⟨⟨v,v1,v2⟩,p1,p2,p3,p4,p5,p6⟩:=g.bk j d' b' _ z
   have ne:b'≠b:=fun w=>hj (B.one j d' ys (by rw [<- w]; exact z))
   obtain ⟨u,hu⟩:=p4.there
   refine ⟨⟨v,v1,v2.mono e.hi⟩,p1,(e.fro b' u hu).trans p2,p3,mv ne p4,fun k d2 ys q=>?_,fun k o' q=>?_⟩
   ·rcases zW q with ⟨rfl,y⟩ | ⟨_,y⟩
    ·cases y
     exact yN rfl ne
    ·exact p5 k _ _ y
   ·rcases zW q with ⟨_,y⟩ | ⟨_,y⟩
    ·cases y
    ·exact p6 k o' y
section
end
abbrev SpB:=(D->D)->List D->List D->(D->List D->Prop)->Prop
section
variable {k:Nat} {C:Addr} {m x y:Str} {ps:List Str} {sp:SpB} {apos pos p q:Pos} {e:Expr} {es:List Expr} {t:TA'}
def zF (i:Nat) (sp:SpB) (t:TA'):TE':=fun Γ Q=>(∃ d b xs,Γ[i]?=some (.bk d b (.lst xs)))/\t Γ fun ds Γ1=>∃ d b xs,Γ1[i]?=some (.bk d b (.lst xs))/\sp d xs ds fun r ys=>Q r (Γ1.set i (.bk d b (.lst ys)))
end
section
end
end PL
namespace L2
open PySem PySem.Spec PyProof.Rows
def znh {h:Heap} {a:Addr} {its:Array Value} (p:PlainL h a its):h.IsList a its:=by
 obtain ⟨o,n,e,c,d,e2⟩:=p
 first | exact ⟨o,e,c,n,e2⟩ | exact ⟨o,e,c,n,d⟩
section
variable {tg:Expr}
end
end L2
namespace PL
open PySem L2
section
def zV (t:TE'):TE':=fun Γ Q=>t Γ fun d Γ1=>∃ i:Int,d=.int i/\Q (.int (-i)) Γ1
end
end PL
namespace L2
open PySem PySem.Spec PyProof.Rows
section
end
end L2
namespace PL
open PySem L2
section
end
instance {sp:Sp'} {t:TA'} [MSp sp] [MA t]:MO (zce sp t):=⟨fun Γ _ _ h q=>MA.mono (t:=t) _ _ _ (fun _ _ z=>MSp.mono (sp:=sp) _ _ _ (fun _ ⟨o,e,w⟩=>⟨o,e,h _ _ w⟩) z) q⟩
end PL
namespace So
open PySem PySem.W PyProof.Rows
def run (lt:Nat->Nat->Bool) {α:Type}:KasT α->α
 | .ret a=>a
 | .ask i j k=>run lt (k (lt i j))
theorem zcB (lt:Nat->Nat->Bool) {α β:Type} (f:α->KasT β):∀ t:KasT α,run lt (t.bind f)=run lt (f (run lt t))
 | .ret _=>rfl
 | .ask i j k=>zcB lt f (k (lt i j))
def g (p:Array Nat) (i:Nat):Nat:=p.getD i 0
def g_eq (p:Array Nat) (i:Nat):g p i=(p[i]?).getD 0:=by
 unfold g; simp [Array.getD_eq_getD_getElem?]
def zaf {p:Array Nat} {i j:Nat} (hj:j<=p.size) (k:Nat):g (kas_rev p i j) k=if i<=k/\k<j then g p (i+j-1-k) else g p k:=by
 unfold kas_rev; rw [g_eq,getElem?_mirror_all hj]
 split <;> rw [g_eq]
def zob {p:Array Nat} {src d:Nat} (hs:src<p.size) (hd:d<=src) (k:Nat):g (bubble p src d) k=if k=src-d then g p src else if src-d<k/\k<=src then g p (k-1) else g p k:=by
 rw [g_eq,getElem?_bubble hs d hd]; split
 ·rw [g_eq]
 ·split <;> rw [g_eq]
structure Ord (lt:Nat->Nat->Bool):Prop where
 asym:∀ a b,lt a b=true->lt b a=false
 tr:∀ a b c,lt b a=false->lt c b=false->lt c a=false
def L (lt:Nat->Nat->Bool) (a b:Nat):Prop:=lt a b=true\/(lt b a=false/\a<b)
section
variable {lt:Nat->Nat->Bool}
def L.le (o:Ord lt) {a b:Nat} (h:L lt a b):lt b a=false:=by
 rcases h with h | h
 ·exact o.asym _ _ h
 ·exact h.1
def zlq (o:Ord lt) {a b c:Nat} (h:lt a b=true) (k:lt c b=false):lt a c=true:=by
 cases e:lt a c with
 | true=>rfl
 | false=>exact yN (o.tr b c a k e) (by rw [h]; exact fun z=>nomatch z)
def zqs (o:Ord lt) {a b c:Nat} (h:lt b a=false) (k:lt b c=true):lt a c=true:=by
 cases e:lt a c with
 | true=>rfl
 | false=>exact yN (o.tr c a b e h) (by rw [k]; exact fun z=>nomatch z)
def L.trans (o:Ord lt) {a b c:Nat} (h:L lt a b) (k:L lt b c):L lt a c:=by
 rcases h with h | ⟨h,h'⟩
 ·exact .inl (zlq o h (L.le o k))
 ·rcases k with k | ⟨k,k'⟩
  ·exact .inl (zqs o h k)
  ·exact .inr ⟨o.tr _ _ _ h k,JB h' k'⟩
end
def Srt (lt:Nat->Nat->Bool) (p:Array Nat) (n:Nat):Prop:=∀ i j,i<j->j<n->L lt (g p i) (g p j)
structure B (p:Array Nat) (N n:Nat):Prop where
 size:p.size=N
 low:∀ k,k<n->g p k<n
 high:∀ k,n<=k->k<N->g p k=k
def B.succ {p:Array Nat} {N n:Nat} (b:B p N n) (h:n<N):B p N (n+1) where
 size:=b.size
 low:=fun k hk=>by
  by_cases e:k=n
  ·subst e; rw [b.high k (yD _) h]; omega
  ·have:=b.low k (by omega); omega
 high:=fun k h1 h2=>b.high k (by omega) h2
def B.mirror {p:Array Nat} {N n i j:Nat} (b:B p N n) (hj:j<=n) (hn:n<=N):B (kas_rev p i j) N n where
 size:=by rw [kas_rev_size,b.size]
 low:=fun k hk=>by
  rw [zaf (by rw [b.size]; omega)]
  split
  ·exact b.low _ (by omega)
  ·exact b.low _ hk
 high:=fun k h1 h2=>by
  rw [zaf (by rw [b.size]; omega),yK (by omega)]
  exact b.high k h1 h2
section
variable {lt:Nat->Nat->Bool} (o:Ord lt)
include o
theorem Srt.succ {p:Array Nat} {N n:Nat} (b:B p N n) (h1:1<=n) (hn:n<N) (s:Srt lt p n) (q:lt (g p n) (g p (n-1))=false):Srt lt p (n+1):=fun i j hij hj=>by
 by_cases e:j=n
 ·subst e
  have l1:L lt (g p (j-1)) (g p j):=.inr ⟨q,by
   rw [b.high j (yD _) hn]
   exact b.low _ (by omega)⟩
  by_cases e2:i=j-1
  ·subst e2; exact l1
  ·exact (s i (j-1) (by omega) (by omega)).trans o l1
 ·exact s i j hij (by omega)
theorem asc {p:Array Nat} {N:Nat}:∀ (f n:Nat),n+f=N->1<=n->B p N n->Srt lt p n->n<=run lt (kas_asc p f n)/\run lt (kas_asc p f n)<=N/\B p N (run lt (kas_asc p f n))/\Srt lt p (run lt (kas_asc p f n)) /\
  (run lt (kas_asc p f n)<N->lt (g p (run lt (kas_asc p f n))) (g p (run lt (kas_asc p f n)-1))=true)
 | 0,n,h,h1,b,s=>⟨yD _,by show n<=N; omega,b,s,fun z=>yN (show n<N from z) (by omega)⟩
 | f+1,n,h,h1,b,s=>by
  have e:run lt (kas_asc p (f+1) n)=run lt (if lt (g p n) (g p (n-1))=true then KasT.ret n else kas_asc p f (n+1)):=rfl
  rw [e]
  cases q:lt (g p n) (g p (n-1)) with
  | true =>
   rw [yM rfl]
   exact ⟨yD _,by show n<=N; omega,b,s,fun _=>q⟩
  | false =>
   rw [yK (by decide)]
   obtain ⟨a1,a2,a3,a4,a5⟩:=asc (N:=N) f (n+1) (by omega) (by omega) (b.succ (by omega)) (Srt.succ o b h1 (by omega) s q)
   exact ⟨by omega,a2,a3,a4,a5⟩
structure De (lt:Nat->Nat->Bool) (p:Array Nat) (N n q:Nat):Prop where
 b:B p N n
 le:n<=N
 q1:q+1<=n
 blk:∀ i j,n-(q+1)<=i->i<j->j<n->L lt (g p i) (g p j)/\lt (g p i) (g p j)=false
 str:∀ i j,i<n-(q+1)->n-(q+1)<=j->j<n->lt (g p j) (g p i)=true
 old:∀ i j,i<j->j<n-(q+1)->L lt (g p j) (g p i)
def Fal (lt:Nat->Nat->Bool) (p:Array Nat) (n:Nat):Prop:=∀ i j,i<j->j<n->L lt (g p j) (g p i)
theorem De.turned {p:Array Nat} {N n q:Nat} (d:De lt p N n q):Fal lt (kas_rev p (n-(q+1)) n) n:=fun i j hij hj=>by
 have hs:n<=p.size:=by rw [d.b.size]; exact d.le
 have hq:=d.q1; rw [zaf hs,zaf hs]
 by_cases hi:n-(q+1)<=i
 ·rw [yM ⟨by omega,hj⟩,yM ⟨hi,by omega⟩]
  exact (d.blk _ _ (by omega) (by omega) (by omega)).1
 ·rw [yK (show ¬ (n-(q+1)<=i/\i<n) by omega)]
  by_cases hj2:n-(q+1)<=j
  ·rw [yM ⟨hj2,hj⟩]
   exact .inl (d.str _ _ (by omega) (by omega) (by omega))
  ·rw [yK (show ¬ (n-(q+1)<=j/\j<n) by omega)]
   exact d.old i j hij (by omega)
theorem De.fal0 {p:Array Nat} {N n:Nat} (d:De lt p N n 0):Fal lt p n:=fun i j hij hj=>by
 by_cases e:n-1<=j
 ·exact .inl (d.str i j (by omega) (by omega) hj)
 ·exact d.old i j hij (by omega)
theorem De.next {p:Array Nat} {N n:Nat} (b:B p N n) (hn:n<N) (h1:1<=n) (fa:Fal lt p n) (st:∀ i,i<n->lt (g p n) (g p i)=true):De lt p N (n+1) 0 where
 b:=b.succ hn
 le:=hn
 q1:=by omega
 blk:=fun i j h1 h2 h3=>by omega
 str:=fun i j h1 h2 h3=>by
  have e:j=n:=by omega
  subst e
  exact st i (by omega)
 old:=fun i j h1 h2=>fa i j h1 (by omega)
theorem De.st {p:Array Nat} {N n q:Nat} (d:De lt p N n q) (h:lt (g p n) (g p (n-1))=true):∀ i,i<n->lt (g p n) (g p i)=true:=fun i hi=>by
 have hq:=d.q1
 by_cases e:i=n-1
 ·subst e; exact h
 ·refine zlq o h ?_
  by_cases hb:n-(q+1)<=i
  ·exact (d.blk i (n-1) hb (by omega) (by omega)).2
  ·exact o.asym _ _ (d.str i (n-1) (by omega) (by omega) (by omega))
theorem ztg {N:Nat}:∀ (f:Nat) (p:Array Nat) (n q:Nat),n+f=N->De lt p N n q->∃ p' n' q',run lt (kas_desc f p n q)=(p',n',q')/\De lt p' N n' q'
 | 0,p,n,q,_,d=>⟨p,n,q,rfl,d⟩
 | f+1,p,n,q,h,d=>by
  have hn:n<N:=by omega
  have hq:=d.q1
  have e:run lt (kas_desc (f+1) p n q)=run lt (if lt (g p n) (g p (n-1))=true then (if q > 0 then kas_desc f (kas_rev p (n-(q+1)) n) (n+1) 0 else kas_desc f p (n+1) 0)
   else KasT.ask (p.getD (n-1) 0) (p.getD n 0) fun c=>if c=true then .ret (p,n,q) else kas_desc f p (n+1) (q+1)):=rfl
  rw [e]
  cases c:lt (g p n) (g p (n-1)) with
  | true =>
   rw [yM rfl]
   by_cases hq0:q > 0
   ·rw [yM hq0]
    refine ztg f _ (n+1) 0 (by omega) (De.next o (d.b.mirror (yD _) d.le) hn (by omega) (De.turned o d) fun i hi=>?_)
    have hs:n<=p.size:=by rw [d.b.size]; exact d.le
    rw [zaf hs,zaf hs,yK (show ¬ (n-(q+1)<=n/\n<n) by omega)]
    split
    ·exact De.st o d c _ (by omega)
    ·exact De.st o d c _ hi
   ·rw [yK hq0]
    have e0:q=0:=by omega
    subst e0
    exact ztg f _ (n+1) 0 (by omega) (De.next o d.b hn (by omega) (De.fal0 o d) (De.st o d c))
  | false =>
   rw [yK (by decide)]
   have e2:run lt (KasT.ask (p.getD (n-1) 0) (p.getD n 0) fun c=>if c=true then KasT.ret (p,n,q) else kas_desc f p (n+1) (q+1))=run lt (if lt (g p (n-1)) (g p n)=true then KasT.ret (p,n,q) else kas_desc f p (n+1) (q+1)):=rfl
   rw [e2]
   cases c2:lt (g p (n-1)) (g p n) with
   | true=>rw [yM rfl]; exact ⟨p,n,q,rfl,d⟩
   | false =>
    rw [yK (by decide)]
    have hb:n+1-(q+1+1)=n-(q+1):=by omega
    have gn:g p n=n:=d.b.high n (yD _) hn
    refine ztg f _ (n+1) (q+1) (by omega) ⟨d.b.succ hn,hn,by omega,fun i j h1 h2 h3=>?_,fun i j h1 h2 h3=>?_,fun i j h1 h2=>?_⟩
    ·rw [hb] at h1
     by_cases ej:j=n
     ·subst ej
      have lo:g p i<g p j:=by rw [gn]; exact d.b.low i h2
      by_cases ei:i=j-1
      ·subst ei; exact ⟨.inr ⟨c,lo⟩,c2⟩
      ·obtain ⟨u1,u2⟩:=d.blk i (j-1) h1 (by omega) (by omega)
       exact ⟨.inr ⟨o.tr _ _ _ (L.le o u1) c,lo⟩,o.tr _ _ _ c2 u2⟩
     ·exact d.blk i j h1 h2 (by omega)
    ·rw [hb] at h1 h2
     by_cases ej:j=n
     ·subst ej
      exact zqs o c2 (d.str i (j-1) h1 (by omega) (by omega))
     ·exact d.str i j h1 h2 (by omega)
    ·rw [hb] at h2
     exact d.old i j h1 h2
theorem zrx {p:Array Nat} {N n:Nat} (b:B p N n) (hn:n<=N) (h1:1<=n) (fa:Fal lt p n):∃ m p',run lt (kas_tail3 n N p)=(m,p')/\1<=m/\m<=N/\B p' N m/\Srt lt p' m:=by
 unfold kas_tail3; rw [zcB]
 have hs:n<=p.size:=by rw [b.size]; exact hn
 obtain ⟨a1,a2,a3,a4,_⟩:=asc o (p:=kas_rev p 0 n) (N:=N) (N-n) n (by omega) h1 (b.mirror (yD _) hn) (fun i j hij hj=>by
  rw [zaf hs,zaf hs,yM ⟨by omega,by omega⟩,yM ⟨by omega,hj⟩]
  exact fa _ _ (by omega) (by omega))
 exact ⟨_,_,rfl,by omega,a2,a3,a4⟩
theorem zjg {p:Array Nat} {N n:Nat} (hn:n<N) (d:De lt p N (n+1) 0):∃ m p',run lt (kas_descPart n N p)=(m,p')/\1<=m/\m<=N/\B p' N m/\Srt lt p' m:=by
 unfold kas_descPart; rw [zcB]
 obtain ⟨p',n',q',e,d'⟩:=ztg o (N:=N) (N-(n+1)) p (n+1) 0 (by omega) d
 rw [e]; have hq:=d'.q1
 by_cases h:q' > 0
 ·show ∃ m p'',run lt (if q' > 0 then kas_tail3 n' N (kas_rev p' (n'-(q'+1)) n') else kas_tail3 n' N p')=(m,p'')/\_
  rw [yM h]
  exact zrx o (d'.b.mirror (yD _) d'.le) d'.le (by omega) (De.turned o d')
 ·show ∃ m p'',run lt (if q' > 0 then kas_tail3 n' N (kas_rev p' (n'-(q'+1)) n') else kas_tail3 n' N p')=(m,p'')/\_
  rw [yK h]
  have e0:q'=0:=by omega
  subst e0
  exact zrx o d'.b d'.le (by omega) (De.fal0 o d')
theorem count {p:Array Nat} {N:Nat} (hN:1<=N) (b:B p N 1):∃ m p',run lt (kas_count N p)=(m,p')/\1<=m/\m<=N/\B p' N m/\Srt lt p' m:=by
 unfold kas_count; rw [zcB]
 obtain ⟨a1,a2,a3,a4,a5⟩:=asc o (p:=p) (N:=N) (N-1) 1 (by omega) (yD _) b (fun i j hij hj=>by omega)
 generalize run lt (kas_asc p (N-1) 1)=n at a1 a2 a3 a4 a5 ⊢
 by_cases e:n=N
 ·rw [yM (by rw [e]; exact beq_self_eq_true _)]
  exact ⟨n,p,rfl,a1,a2,a3,a4⟩
 ·have hn:n<N:=by omega
  have hs:n<=p.size:=by rw [a3.size]; exact a2
  rw [yK (by simpa using e)]
  by_cases h1:n > 1
  ·rw [yM h1]
   show ∃ m p',run lt (if lt (g p 0) (g p (n-1))=true then KasT.ret (n,p) else kas_descPart n N (kas_rev p 0 n))=(m,p')/\_
   cases c:lt (g p 0) (g p (n-1)) with
   | true=>rw [yM rfl]; exact ⟨n,p,rfl,a1,a2,a3,a4⟩
   | false =>
    rw [yK (by decide)]
    refine zjg o hn (De.next o (a3.mirror (yD _) a2) hn a1 (fun i j hij hj=>?_) fun i hi=>?_)
    ·rw [zaf hs,zaf hs,yM ⟨by omega,hj⟩,yM ⟨by omega,by omega⟩]
     exact a4 _ _ (by omega) (by omega)
    ·rw [zaf hs,zaf hs,yK (show ¬ (0<=n/\n<n) by omega),yM ⟨by omega,hi⟩]
     refine zlq o (a5 hn) ?_; generalize hk:0+n-1-i=k
     have hkn:k<n:=by omega
     by_cases k0:k=0
     ·subst k0; exact c
     ·exact o.tr _ _ _ c (L.le o (a4 0 k (by omega) hkn))
  ·rw [yK h1]
   have e1:n=1:=by omega
   subst e1
   exact zjg o hn (De.next o a3 hn (yD _) (fun i j h1 h2=>by omega) fun i hi=>by
    have e0:i=0:=by omega
    subst e0; exact a5 hn)
theorem zni {p:Array Nat} {k:Nat} (s:Srt lt p k):∀ (f l r:Nat),r-l<=f->l<=r->r<=k->(∀ i,i<l->lt (g p k) (g p i)=false)->(∀ i,r<=i->i<k->lt (g p k) (g p i)=true) ->
  run lt (kas_place p k f l r)<=k/\(∀ i,i<run lt (kas_place p k f l r)->lt (g p k) (g p i)=false)/\∀ i,run lt (kas_place p k f l r)<=i->i<k->lt (g p k) (g p i)=true
 | 0,l,r,h,h1,h2,a,c=>⟨show l<=k by omega,a,fun i (hi:l<=i)=>c i (by omega)⟩
 | f+1,l,r,h,h1,h2,a,c=>by
  have e:run lt (kas_place p k (f+1) l r)=run lt (if l >= r then KasT.ret l else KasT.ask (p.getD k 0) (p.getD ((l+r) / 2) 0) fun c=>if c=true then kas_place p k f l ((l+r) / 2) else kas_place p k f ((l+r) / 2+1) r):=rfl
  rw [e]
  by_cases hlr:l >= r
  ·rw [yM hlr]
   exact ⟨show l<=k by omega,a,fun i (hi:l<=i)=>c i (by omega)⟩
  ·rw [yK hlr]
   show run lt (if lt (g p k) (g p ((l+r) / 2))=true then kas_place p k f l ((l+r) / 2) else kas_place p k f ((l+r) / 2+1) r)<=k/\(∀ i,i<run lt (if lt (g p k) (g p ((l+r) / 2))=true then kas_place p k f l ((l+r) / 2) else kas_place p k f ((l+r) / 2+1) r)->_)/\∀ i,run lt (if lt (g p k) (g p ((l+r) / 2))=true then kas_place p k f l ((l+r) / 2) else kas_place p k f ((l+r) / 2+1) r)<=i->_
   cases q:lt (g p k) (g p ((l+r) / 2)) with
   | true =>
    rw [yM rfl]
    refine zni s f l _ (by omega) (by omega) (by omega) a fun i hi hk=>?_
    by_cases ei:i=(l+r) / 2
    ·subst ei; exact q
    ·exact zlq o q (L.le o (s _ i (by omega) hk))
   | false =>
    rw [yK (by decide)]
    refine zni s f _ r (by omega) (by omega) h2 (fun i hi=>?_) c
    by_cases ei:i=(l+r) / 2
    ·subst ei; exact q
    ·exact o.tr _ _ _ (L.le o (s i ((l+r) / 2) (by omega) (by omega))) q
theorem ins {p:Array Nat} {N k l:Nat} (b:B p N k) (hk:k<N) (s:Srt lt p k) (hl:l<=k) (a:∀ i,i<l->lt (g p k) (g p i)=false) (c:∀ i,l<=i->i<k->lt (g p k) (g p i)=true):B (bubble p k (k-l)) N (k+1)/\Srt lt (bubble p k (k-l)) (k+1):=by
 have hs:k<p.size:=by rw [b.size]; exact hk
 have gk:g p k=k:=b.high k (yD _) hk
 have e:∀ i,g (bubble p k (k-l)) i=if i=l then g p k else if l<i/\i<=k then g p (i-1) else g p i:=fun i=>by
  rw [zob hs (by omega),show k-(k-l)=l by omega]
 refine ⟨⟨by rw [bubble_size,b.size],fun i hi=>?_,fun i h1 h2=>?_⟩,fun i j hij hj=>?_⟩
 ·rw [e]
  split
  ·omega
  ·split
   ·have:=b.low (i-1) (by omega); omega
   ·have:=b.low i (by omega); omega
 ·rw [e,yK (by omega),yK (by omega)]
  exact b.high i (by omega) h2
 ·rw [e,e]
  have lo:∀ x,x<k->g p x<g p k:=fun x hx=>by rw [gk]; exact b.low x hx
  by_cases h1:i=l
  ·subst h1
   rw [yM rfl,yK (by omega),yM ⟨hij,by omega⟩]
   exact .inl (c _ (by omega) (by omega))
  ·rw [yK h1]
   by_cases h2:j=l
   ·subst h2
    rw [yM rfl,yK (by omega)]
    exact .inr ⟨a i hij,lo i (by omega)⟩
   ·rw [yK h2]
    split <;> split <;> exact s _ _ (by omega) (by omega)
theorem bin {N:Nat}:∀ (f:Nat) (p:Array Nat) (k:Nat),k+f=N->B p N k->Srt lt p k->B (run lt (kas_bin f p k)) N N/\Srt lt (run lt (kas_bin f p k)) N
 | 0,p,k,h,b,s=>by
  have e:k=N:=by omega
  subst e; exact ⟨b,s⟩
 | f+1,p,k,h,b,s=>by
  have e:run lt (kas_bin (f+1) p k)=run lt ((kas_place p k k 0 k).bind fun l=>kas_bin f (bubble p k (k-l)) (k+1)):=rfl
  rw [e,zcB]
  obtain ⟨a1,a2,a3⟩:=zni o s k 0 k (by omega) (YB _) (yD _) (fun i hi=>yN hi (Nat.not_lt_zero _)) fun i h1 h2=>yN h1 (by omega)
  obtain ⟨b',s'⟩:=ins o b (by omega) s a1 a2 a3
  exact bin f _ (k+1) (by omega) b' s'
theorem sort {N:Nat} (hN:1<=N):B (run lt (kas_sort N)) N N/\Srt lt (run lt (kas_sort N)) N:=by
 unfold kas_sort; rw [zcB]
 have g0:∀ k,k<N->g (List.toArray (List.range N)) k=k:=fun k hk=>by
  rw [g_eq]; simp [hk]
 obtain ⟨m,p',e,h1,h2,b,s⟩:=count o hN (p:=List.toArray (List.range N)) ⟨by simp,fun k hk=>by rw [g0 k (by omega)]; exact hk,fun k h1 h2=>g0 k h2⟩
 rw [e]
 show B (run lt (if m<N then kas_bin (N-max m 1) p' (max m 1) else KasT.ret p')) N N/\Srt lt (run lt (if m<N then kas_bin (N-max m 1) p' (max m 1) else KasT.ret p')) N
 by_cases hm:m<N
 ·rw [yM hm,Nat.max_eq_left h1]
  exact bin o _ _ _ (by omega) b s
 ·rw [yK hm]
  have e:m=N:=by omega
  subst e; exact ⟨b,s⟩
end
def Ok (lt:Nat->Nat->Bool) (N:Nat) {α:Type}:KasT α->Prop
 | .ret _=>True
 | .ask i j k=>i<N/\j<N/\Ok lt N (k (lt i j))
theorem Ok.bind {lt:Nat->Nat->Bool} {N:Nat} {α β:Type} {f:α->KasT β}:∀ {t:KasT α},Ok lt N t->Ok lt N (f (run lt t))->Ok lt N (t.bind f)
 | .ret _,_,h=>h
 | .ask i j k,⟨h1,h2,h3⟩,h=>⟨h1,h2,Ok.bind (t:=k (lt i j)) h3 h⟩
def B.lt {p:Array Nat} {N n k:Nat} (b:B p N n) (hn:n<=N) (hk:k<N):g p k<N:=by
 by_cases h:k<n
 ·have:=b.low k h; omega
 ·rw [b.high k (by omega) hk]; exact hk
section
variable {lt:Nat->Nat->Bool} (o:Ord lt)
include o
theorem zlh {p:Array Nat} {N:Nat} {n0:Nat} (b:B p N n0) (h0:n0<=N):∀ (f n:Nat),n+f=N->Ok lt N (kas_asc p f n)
 | 0,_,_=>trivial
 | f+1,n,h=>⟨b.lt h0 (k:=n) (by omega),b.lt h0 (k:=n-1) (by omega),by
  show Ok lt N (if lt (g p n) (g p (n-1))=true then KasT.ret n else kas_asc p f (n+1))
  split
  ·trivial
  ·exact zlh b h0 f (n+1) (by omega)⟩
theorem zf4 {N:Nat}:∀ (f:Nat) (p:Array Nat) (n q:Nat),n+f=N->De lt p N n q->Ok lt N (kas_desc f p n q)
 | 0,_,_,_,_,_=>trivial
 | f+1,p,n,q,h,d=>⟨d.b.lt d.le (k:=n) (by omega),d.b.lt d.le (k:=n-1) (by omega),by
  show Ok lt N (if lt (g p n) (g p (n-1))=true then (if q > 0 then kas_desc f (kas_rev p (n-(q+1)) n) (n+1) 0 else kas_desc f p (n+1) 0)
   else KasT.ask (p.getD (n-1) 0) (p.getD n 0) fun c=>if c=true then .ret (p,n,q) else kas_desc f p (n+1) (q+1))
  have hn:n<N:=by omega
  have hq:=d.q1
  cases c:lt (g p n) (g p (n-1)) with
  | true =>
   rw [yM rfl]
   by_cases hq0:q > 0
   ·rw [yM hq0]
    refine zf4 f _ (n+1) 0 (by omega) (De.next o (d.b.mirror (yD _) d.le) hn (by omega) (De.turned o d) fun i hi=>?_)
    have hs:n<=p.size:=by rw [d.b.size]; exact d.le
    rw [zaf hs,zaf hs,yK (show ¬ (n-(q+1)<=n/\n<n) by omega)]
    split
    ·exact De.st o d c _ (by omega)
    ·exact De.st o d c _ hi
   ·rw [yK hq0]
    have e0:q=0:=by omega
    subst e0
    exact zf4 f _ (n+1) 0 (by omega) (De.next o d.b hn (by omega) (De.fal0 o d) (De.st o d c))
  | false =>
   rw [yK (by decide)]
   refine ⟨d.b.lt d.le (k:=n-1) (by omega),d.b.lt d.le (k:=n) (by omega),?_⟩
   show Ok lt N (if lt (g p (n-1)) (g p n)=true then KasT.ret (p,n,q) else kas_desc f p (n+1) (q+1))
   cases c2:lt (g p (n-1)) (g p n) with
   | true=>rw [yM rfl]; trivial
   | false =>
    rw [yK (by decide)]
    have hb:n+1-(q+1+1)=n-(q+1):=by omega
    have gn:g p n=n:=d.b.high n (yD _) hn
    refine zf4 f _ (n+1) (q+1) (by omega) ⟨d.b.succ hn,hn,by omega,fun i j h1 h2 h3=>?_,fun i j h1 h2 h3=>?_,fun i j h1 h2=>?_⟩
    ·rw [hb] at h1
     by_cases ej:j=n
     ·subst ej
      have lo:g p i<g p j:=by rw [gn]; exact d.b.low i h2
      by_cases ei:i=j-1
      ·subst ei; exact ⟨.inr ⟨c,lo⟩,c2⟩
      ·obtain ⟨u1,u2⟩:=d.blk i (j-1) h1 (by omega) (by omega)
       exact ⟨.inr ⟨o.tr _ _ _ (L.le o u1) c,lo⟩,o.tr _ _ _ c2 u2⟩
     ·exact d.blk i j h1 h2 (by omega)
    ·rw [hb] at h1 h2
     by_cases ej:j=n
     ·subst ej
      exact zqs o c2 (d.str i (j-1) h1 (by omega) (by omega))
     ·exact d.str i j h1 h2 (by omega)
    ·rw [hb] at h2
     exact d.old i j h1 h2⟩
theorem ziV {p:Array Nat} {N n:Nat} (b:B p N n) (hn:n<=N):Ok lt N (kas_tail3 n N p):=by
 unfold kas_tail3
 exact Ok.bind (zlh o (b.mirror (yD _) hn) hn _ n (by omega)) trivial
theorem zeE {p:Array Nat} {N n:Nat} (hn:n<N) (d:De lt p N (n+1) 0):Ok lt N (kas_descPart n N p):=by
 unfold kas_descPart
 refine Ok.bind (zf4 o _ p (n+1) 0 (by omega) d) ?_
 obtain ⟨p',n',q',e,d'⟩:=ztg o (N:=N) (N-(n+1)) p (n+1) 0 (by omega) d
 rw [e]
 show Ok lt N (if q' > 0 then kas_tail3 n' N (kas_rev p' (n'-(q'+1)) n') else kas_tail3 n' N p')
 split
 ·exact ziV o (d'.b.mirror (yD _) d'.le) d'.le
 ·exact ziV o d'.b d'.le
theorem znx {p:Array Nat} {N:Nat} (hN:1<=N) (b:B p N 1):Ok lt N (kas_count N p):=by
 unfold kas_count
 refine Ok.bind (zlh o b hN _ 1 (by omega)) ?_
 obtain ⟨a1,a2,a3,a4,a5⟩:=asc o (p:=p) (N:=N) (N-1) 1 (by omega) (yD _) b (fun i j hij hj=>by omega)
 generalize run lt (kas_asc p (N-1) 1)=n at a1 a2 a3 a4 a5 ⊢
 by_cases e:n=N
 ·rw [yM (by rw [e]; exact beq_self_eq_true _)]
  trivial
 ·have hn:n<N:=by omega
  have hs:n<=p.size:=by rw [a3.size]; exact a2
  rw [yK (by simpa using e)]
  by_cases h1:n > 1
  ·rw [yM h1]
   refine ⟨a3.lt a2 (k:=0) (by omega),a3.lt a2 (k:=n-1) (by omega),?_⟩
   show Ok lt N (if lt (g p 0) (g p (n-1))=true then KasT.ret (n,p) else kas_descPart n N (kas_rev p 0 n))
   cases c:lt (g p 0) (g p (n-1)) with
   | true=>rw [yM rfl]; trivial
   | false =>
    rw [yK (by decide)]
    refine zeE o hn (De.next o (a3.mirror (yD _) a2) hn a1 (fun i j hij hj=>?_) fun i hi=>?_)
    ·rw [zaf hs,zaf hs,yM ⟨by omega,hj⟩,yM ⟨by omega,by omega⟩]
     exact a4 _ _ (by omega) (by omega)
    ·rw [zaf hs,zaf hs,yK (show ¬ (0<=n/\n<n) by omega),yM ⟨by omega,hi⟩]
     refine zlq o (a5 hn) ?_; generalize hk:0+n-1-i=k
     have hkn:k<n:=by omega
     by_cases k0:k=0
     ·subst k0; exact c
     ·exact o.tr _ _ _ c (L.le o (a4 0 k (by omega) hkn))
  ·rw [yK h1]
   have e1:n=1:=by omega
   subst e1
   exact zeE o hn (De.next o a3 hn (yD _) (fun i j h1 h2=>by omega) fun i hi=>by
    have e0:i=0:=by omega
    subst e0; exact a5 hn)
theorem zf1 {p:Array Nat} {N k:Nat} (b:B p N k) (hk:k<N):∀ (f l r:Nat),r<=k->Ok lt N (kas_place p k f l r)
 | 0,_,_,_=>trivial
 | f+1,l,r,h=>by
  show Ok lt N (if l >= r then KasT.ret l else KasT.ask (p.getD k 0) (p.getD ((l+r) / 2) 0) fun c=>if c=true then kas_place p k f l ((l+r) / 2) else kas_place p k f ((l+r) / 2+1) r)
  by_cases hlr:l >= r
  ·rw [yM hlr]; trivial
  ·rw [yK hlr]
   refine ⟨b.lt (by omega) (k:=k) hk,b.lt (by omega) (k:=(l+r) / 2) (by omega),?_⟩
   show Ok lt N (if lt (g p k) (g p ((l+r) / 2))=true then kas_place p k f l ((l+r) / 2) else kas_place p k f ((l+r) / 2+1) r)
   split
   ·exact zf1 b hk f _ _ (by omega)
   ·exact zf1 b hk f _ _ h
theorem zoC {N:Nat}:∀ (f:Nat) (p:Array Nat) (k:Nat),k+f=N->B p N k->Srt lt p k->Ok lt N (kas_bin f p k)
 | 0,_,_,_,_,_=>trivial
 | f+1,p,k,h,b,s=>by
  refine Ok.bind (zf1 o b (by omega) k 0 k (yD _)) ?_
  obtain ⟨a1,a2,a3⟩:=zni o s k 0 k (by omega) (YB _) (yD _) (fun i hi=>yN hi (Nat.not_lt_zero _)) fun i h1 h2=>yN h1 (by omega)
  obtain ⟨b',s'⟩:=ins o b (by omega) s a1 a2 a3
  exact zoC f _ (k+1) (by omega) b' s'
theorem ok_sort {N:Nat} (hN:1<=N):Ok lt N (kas_sort N):=by
 unfold kas_sort
 have g0:∀ k,k<N->g (List.toArray (List.range N)) k=k:=fun k hk=>by
  rw [g_eq]; simp [hk]
 have b0:B (List.toArray (List.range N)) N 1:=⟨by simp,fun k hk=>by rw [g0 k (by omega)]; exact hk,fun k h1 h2=>g0 k h2⟩
 refine Ok.bind (znx o hN b0) ?_; obtain ⟨m,p',e,h1,h2,b,s⟩:=count o hN b0; rw [e]
 show Ok lt N (if m<N then kas_bin (N-max m 1) p' (max m 1) else KasT.ret p')
 split
 ·rw [Nat.max_eq_left h1]
  exact zoC o _ _ _ (by omega) b s
 ·trivial
end
theorem wp_of {lt:Nat->Nat->Bool} {N:Nat} {J:Shared->Prop} {cmp:Nat->Nat->(Bool->Shared->Prop)->Shared->Prop} (hc:∀ i j C s,i<N->j<N->J s->(∀ s',J s'->C (lt i j) s')->cmp i j C s) {α:Type} {Q:α->Shared->Prop} :
  ∀ (t:KasT α) (s:Shared),Ok lt N t->J s->(∀ s',J s'->Q (run lt t) s')->t.kasWp cmp Q s
 | .ret _,s,_,hj,h=>h s hj
 | .ask i j k,s,⟨h1,h2,h3⟩,hj,h=>hc i j _ s h1 h2 hj fun s' hj'=>wp_of hc (k (lt i j)) s' h3 hj' h
section
variable {a kS:Addr} {vs ks:List Value} {κ:SortKind}
def Fin3 (a kS:Addr) (ks:List Value) (e e1:Nat) (out:List Value) (C:Shared->Prop) (s:Shared):Prop :=
 s.heap.get? kS=some (seqObj "list" ks.toArray e)/\s.heap.get? a=some (seqObj "list" #[] e1) /\
  ∀ h' c c2,(∀ b o,b≠kS->b≠a->s.heap.get? b=some o->h'.get? b=some o)->h'.objs.size=s.heap.objs.size->h'.get? kS=some (seqObj "list" #[] c)->h'.get? a=some (seqObj "list" out.toArray c2)->C { s with heap:=h' }
def Fin3.mono {e e1:Nat} {out:List Value} {C C':Shared->Prop} (h:Fin3 a kS ks e e1 out C s) (hc:∀ s,C s->C' s):Fin3 a kS ks e e1 out C' s :=
 ⟨h.1,h.2.1,fun h' c c2 k z x y=>hc _ (h.2.2 h' c c2 k z x y)⟩
def zix {st:SortSt} {e e1:Nat} {out:List Value} {P:PySem.Fin->Shared->Prop} (ne:kS≠a) (hout:(arrOf st).map (·.2)=List.toArray out) (hz:out.length<64) (hkz:ks.length<64) (hf:failedOf st=none)
  (h:Fin3 a kS ks e e1 out (fun s'=>P (.done (.ret .none)) s') s):wpAny (model prog w) A (ksk_tail a false e1 (.ref kS) st) P E s:=by
 obtain ⟨hk,ha,k⟩:=h
 have s1:=Heap.SameBut.update s.heap kS (Obj.mapSeq fun _=>(#[]:Array Value))
 obtain ⟨ck,hck⟩:∃ ck,(s.heap.update kS (Obj.mapSeq fun _=>(#[]:Array Value))).get? kS=some (seqObj "list" #[] ck):=⟨_,get?_update_seq hk fun _=>#[]⟩
 have ha1:(s.heap.update kS (Obj.mapSeq fun _=>(#[]:Array Value))).get? a=some (seqObj "list" #[] e1):=(s1.2 a (Ne.symm ne)).trans ha
 have s2:=Heap.SameBut.update (s.heap.update kS (Obj.mapSeq fun _=>(#[]:Array Value))) a (Obj.mapSeq fun _=>List.toArray out)
 obtain ⟨c2,hc2⟩:∃ c2,((s.heap.update kS (Obj.mapSeq fun _=>(#[]:Array Value))).update a (Obj.mapSeq fun _=>List.toArray out)).get? a=some (seqObj "list" (List.toArray out) c2):=⟨_,get?_update_seq ha1 fun _=>List.toArray out⟩
 unfold ksk_tail
 try dsimp only
 rw [hout]
 refine yA (listUpdate_at hk rfl ?_ (by rw [yQ,sizeLine_eq]; omega) (YB _))
 refine yA (wpAny_letGo ?_); refine yA (seqEpoch_at ha1 rfl ?_)
 refine yA (listUpdate_at ha1 rfl ?_ (YB _) (by simp only [YL,if_false]; rw [yQ,sizeLine_eq]; omega))
 rw [hf]; simp only [bne_self_eq_false,YL,if_false]
 refine yF (k _ ck c2 (fun b o h1 h2 q=>(s2.2 b h2).trans ((s1.2 b h1).trans q)) (by rw [Heap.size_update,Heap.size_update]) ((s2.2 kS ne).trans hck) hc2)
def srt_end {e e1:Nat} {P:PySem.Fin->Shared->Prop} (ne:kS≠a) (hl:ks.length=vs.length) (h2:2<=vs.length) (h64:vs.length<64)
  (h:wpAny (model prog w) A (keyKind' (List.toArray ks)) (fun κ s'=>(kas_sort vs.length).kasWp (kas_ask prog w A κ ks) (fun p s''=>Fin3 a kS ks e e1 (p.toList.map fun i=>vs.getD i Value.none) (fun s3=>P (.done (.ret .none)) s3) s'') s') (fun _ _=>False) s) :
  wpAny (model prog w) A (ksk_end a false vs.toArray e1 (.ref kS) (List.toArray ks)) P E s:=by
 have hn2:¬ vs.toArray.size<2:=by rw [yQ]; omega
 unfold ksk_end
 try dsimp only
 simp only [YL,if_false]; rw [yK hn2,yK hn2]
 refine yA (yp h (fun κ s0 hk=>?_) fun _ _ x=>x.elim)
 refine yA (yp (kat_run (Q:=fun st' s'=>∃ p:Array Nat,p.size=vs.length/\arrOf st'=p.map (kas_item ((List.toArray ks).zip (List.toArray vs)))/\failedOf st'=none /\
   Fin3 a kS ks e e1 (p.toList.map fun i=>vs.getD i Value.none) (fun s3=>P (.done (.ret .none)) s3) s')
  hl h2 h64 (fun p' st' s' a1 a2 a3 a4=>⟨p',a1,a2,a3,a4⟩) hk) ?_ fun _ _ x=>x)
 rintro ⟨⟨⟩,st'⟩ s' ⟨p,hp,har,hf,fin⟩
 try dsimp only
 exact zix ne (kat_snds hl har) (by rw [yE,YC,hp]; exact h64) (by omega) hf fin
def srt_end1 {e e1:Nat} {P:PySem.Fin->Shared->Prop} (ne:kS≠a) (hl:ks.length=vs.length) (h2:vs.length<2)
  (h:Fin3 a kS ks e e1 vs (fun s3=>P (.done (.ret .none)) s3) s):wpAny (model prog w) A (ksk_end a false vs.toArray e1 (.ref kS) (List.toArray ks)) P E s:=by
 have hn2:vs.toArray.size<2:=by rw [yQ]; omega
 unfold ksk_end
 try dsimp only
 simp only [YL,if_false]; rw [yM hn2,yM hn2]; refine yA (yF ?_); refine yA (m:=StateT.run (pure ()) _) (yF ?_)
 try dsimp only
 refine zix ne ?_ (by omega) (by omega) rfl h
 apply Array.toList_inj.mp
 show (((List.toArray ks).zip (List.toArray vs)).map (·.2)).toList=_
 rw [Array.toList_map,ksk_zip]
 clear h hn2
 cases vs with
 | nil =>
  cases ks with
  | nil=>rfl
  | cons k r=>simp at hl
 | cons v r =>
  cases r with
  | cons v2 r=>exact yN h2 (by simp)
  | nil =>
   cases ks with
   | nil=>simp at hl
   | cons k r =>
    cases r with
    | nil=>rfl
    | cons k2 r=>simp at hl
theorem ziz {f:Value} {n:Nat} {body:Value->PUnit->Sem (ForInStep PUnit)} (J:List Value->Nat->Shared->Prop) (hn:n<64) (all:List Value) (hall:all.length=n)
  (hb:∀ x ks e (s:Shared) (C:Value->Nat->Shared->Prop),List.length ks<64->wpAny (model prog w) A (call f [x]) (fun k s'=>s'.heap.get? kS=some (seqObj "list" ks.toArray e)/\∀ c,(s'.heap.update kS (Obj.mapSeq (·.push k))).get? kS=some (seqObj "list" (List.toArray (ks ++ [k])) c)->C k c { s' with heap:=s'.heap.update kS (Obj.mapSeq (·.push k)) }) (fun _ _=>False) s ->
   wpAny (model prog w) A (body x ⟨⟩) (fun r s'=>r=.yield ⟨⟩/\∃ k c,C k c s') E s)
  (step:∀ ks e s x,all[ks.length]?=some x->J ks e s->wpAny (model prog w) A (call f [x]) (fun k s'=>s'.heap.get? kS=some (seqObj "list" ks.toArray e)/\∀ c,(s'.heap.update kS (Obj.mapSeq (·.push k))).get? kS=some (seqObj "list" (List.toArray (ks ++ [k])) c)->J (ks ++ [k]) c { s' with heap:=s'.heap.update kS (Obj.mapSeq (·.push k)) }) (fun _ _=>False) s) :
  ∀ (r ks:List Value) (e:Nat) (s:Shared),all.drop ks.length=r->ks.length<=n->J ks e s ->
   wpAny (model prog w) A (forIn r PUnit.unit body) (fun _ s'=>∃ ks e,ks.length=n/\J ks e s') E s
 | [],ks,e,s,hl,hle,h=>by
  rw [List.forIn_nil]
  have:all.length<=ks.length:=List.drop_eq_nil_iff.mp hl
  exact yF ⟨ks,e,by omega,h⟩
 | x :: r,ks,e,s,hl,hle,h=>by
  rw [List.forIn_cons]
  have hx:all[ks.length]?=some x:=by
   have:=yi (fun l=>l[0]?) hl
   simpa using this
  have hlt:ks.length<n:=by rw [<- hall]; exact (yG.mp hx).1
  refine yA (yp (hb x ks e s (fun k c s'=>J (ks ++ [k]) c s') (by omega) (step ks e s x hx h)) (fun q s' hq=>?_) fun _ _ x=>x)
  obtain ⟨rfl,k,c,h2⟩:=hq
  show wpAny (model prog w) A (forIn r PUnit.unit body) _ E s'
  refine ziz J hn all hall hb step r (ks ++ [k]) c s' ?_ (by rw [yV,List.length_singleton]; omega) h2
  rw [yV,List.length_singleton,<- List.drop_drop,hl]; rfl
def srt_rest {f:Value} {e1:Nat} {P:PySem.Fin->Shared->Prop} (J:List Value->Nat->Shared->Prop) (h64:vs.length<64) (hJ:∀ ks e s,J ks e s->s.heap.get? kS=some (seqObj "list" ks.toArray e))
  (step:∀ ks e s x,vs[ks.length]?=some x->J ks e s->wpAny (model prog w) A (call f [x]) (fun k s'=>s'.heap.get? kS=some (seqObj "list" ks.toArray e)/\∀ c,(s'.heap.update kS (Obj.mapSeq (·.push k))).get? kS=some (seqObj "list" (List.toArray (ks ++ [k])) c)->J (ks ++ [k]) c { s' with heap:=s'.heap.update kS (Obj.mapSeq (·.push k)) }) (fun _ _=>False) s)
  (fin:∀ ks e s,ks.length=vs.length->J ks e s->wpAny (model prog w) A (ksk_end a false vs.toArray e1 (.ref kS) (List.toArray ks)) P E s) (h0:J [] 0 s) :
  wpAny (model prog w) A (ksk_rest a f false vs.toArray e1 (.ref kS)) P E s:=by
 unfold ksk_rest; refine yA (wpAny_rule ?_)
 first
  | rw [List.forIn_toArray]
  | (rw [<- Array.forIn_toList]; simp only [List.toList_toArray])
  | rw [<- Array.forIn_toList]
 refine yA (yp (ziz (f:=f) (kS:=kS) J h64 vs rfl (fun x ks e s' C hz hx=>?_) step vs [] 0 s rfl (YB _) h0) (fun _ s' hd=>?_) fun _ _ x=>x)
 ·refine yA (wpAny_attempt (yp hx (fun k s'' hk=>?_) fun _ _ hF=>hF.elim))
  obtain ⟨nk,c⟩:=hk
  have ea:(List.toArray ks).push k=List.toArray (ks ++ [k]):=by simp
  obtain ⟨c2,hc2⟩:∃ c2,(s''.heap.update kS (Obj.mapSeq (·.push k))).get? kS=some (seqObj "list" (List.toArray (ks ++ [k])) c2):=⟨_,by rw [<- ea]; exact get?_update_seq nk (·.push k)⟩
  try dsimp only
  refine yA (listUpdate_at nk rfl ?_ (by rw [yQ,sizeLine_eq]; omega) (yq (Nat.le_of_eq (Array.size_push ..)) (by rw [yQ,sizeLine_eq]; omega)))
  exact yF ⟨rfl,k,c2,c c2 hc2⟩
 ·obtain ⟨ks,e,hl,fj⟩:=hd
  try dsimp only
  refine yA (listItems_at (hJ _ _ _ fj) rfl ?_); exact fin ks e s' hl fj
def srt_tree {f:Value} {n:Nat} {P:PySem.Fin->Shared->Prop} (ho:s.heap.get? a=some (seqObj "list" vs.toArray n)) (h64:vs.length<64)
  (h:∀ e1 h',(∀ b o,b≠a->s.heap.get? b=some o->h'.get? b=some o)->h'.objs.size=s.heap.objs.size+2->h'.get? (s.heap.objs.size+1)=some (seqObj "list" #[] 0)->h'.get? a=some (seqObj "list" #[] e1) ->
   wpAny (model prog w) A (ksk_rest a f false vs.toArray e1 (.ref (s.heap.objs.size+1))) P E { s with heap:=h' }) :
  wpAny (model prog w) A (ksk_tree a f false) P E s:=by
 have ha:a<s.heap.objs.size:=yI ho
 have s1:=Heap.SameBut.update s.heap a (Obj.mapSeq fun _=>(#[]:Array Value))
 obtain ⟨e1,ho1⟩:∃ e1,(s.heap.update a (Obj.mapSeq fun _=>(#[]:Array Value))).get? a=some (seqObj "list" #[] e1):=⟨_,get?_update_seq ho fun _=>#[]⟩
 have hkS:((s.heap.update a (Obj.mapSeq fun _=>(#[]:Array Value))).push (seqObj "tuple" vs.toArray 0)).objs.size=s.heap.objs.size+1:=by rw [size_push',Heap.size_update]
 unfold ksk_tree; refine yA (listItems_at ho rfl ?_)
 refine yA (listUpdate_at ho rfl ?_ (by rw [yQ,sizeLine_eq]; omega) (YB _))
 refine yA (seqEpoch_at ho1 rfl ?_)
 refine yA (wpAny_newTuple ?_ (by show vs.length<=_; rw [sizeLine_eq]; omega))
 refine yA (wpAny_newList ?_ (YB _)); refine YW ?_
 have h':=h e1 (((s.heap.update a (Obj.mapSeq fun _=>(#[]:Array Value))).push (seqObj "tuple" vs.toArray 0)).push (seqObj "list" #[] 0)) (fun b o hb q=>yB _ (yB _ ((s1.2 b hb).trans q)))
  (by rw [size_push',hkS]) (by rw [<- hkS]; exact yJ _ rfl) (yB _ (yB _ ho1))
 rw [<- hkS] at h'; exact h'
end
end So
namespace L2
open PySem PySem.Spec PyProof.Rows PySem.W
section
variable {h':Heap}
def Inv.turnedOwn {t':Nat} {ch:List Addr} {p:Addr} {o:HO} (I:Inv X pins σ H s) (hch:∀ b ∈ ch,zd4 X pins H b) (hp:p ∈ ch) (k:∀ b u,b ∉ ch->s.heap.get? b=some u->h'.get? b=some u) (new:zap X.prog X.w (upd H p o) h' p o) :
  Inv X pins σ (upd H p o) { s with heap:=h',toks:=t' }:=by
 have fr:H p=none:=(hch p hp).1
 have sm:∀ b u,H b=some u->upd H p o b=some u:=fun b u e=>by rw [zq (zA e fr)]; exact e
 have nch:∀ b u,H b=some u->b ∉ ch:=fun b u e z=>by rw [(hch b z).1] at e; cases e
 refine I.step (g':=s.gens) (d':=s.drawn) (ch:=ch) (fun b hb=>?_) (fun b u _ _ hc e _=>k b u hc e) (fun b u _ _ hc e _=>⟨u.slots,k b u hc e⟩) (fun b u hc e n=>?_) (fun b u hc e=>⟨u,k b u hc e⟩) (fun b xs e=>sm _ _ e) (fun b ob u e=>sm _ _ e) (fun b ps e=>⟨#[],by rw [sm _ _ e]; simp⟩) (fun m hm=>?_) (fun b u e=>?_) I.bare
 ·obtain ⟨_,y1,_,y3,y4,y5⟩:=hch b hb
  exact ⟨y3,y1,y4,y5⟩
 ·rw [zq (fun z=>hc (by rw [z]; exact hp))]
  exact n
 ·obtain ⟨ob,es,ep,ho,r⟩:=hm
  exact ⟨ob,es,ep,k _ ob (fun z=>(hch _ z).2.1 rfl) ho,r⟩
 ·by_cases z:b=p
  ·subst z
   rw [zp] at e; cases e; exact new
  ·rw [zq z] at e
   refine (I.hok b u e).stay (fun c v hc q=>k c v ?_ q) (fun c q=>sm _ _ q) fun c xs q=>sm _ _ q
   rcases hc with rfl | hc
   ·exact nch _ u e
   ·exact nch c _ hc
def zpz {A':Around} {k:Nat} {f:Addr} {fd:FuncData} {ps:List Str} {sp:Sp} {Q:VK} {us:List Value} {vs:List V} (F:FnOk X.prog X.w X.K X.mg X.base CX0 k f fd ps sp) (hr:Room k A') (hA:Env0 X.prog X.w X.K X.mg X.base A' X.stack s H) (hb:zb7 X.K fd ps [])
  (I:Inv X pins σ H s) (r:zah vs us) (h:sp vs H Q E0):wpAny (model X.prog X.w) A' (call (.ref f) us) (EP X pins σ Q) (fun _ _=>False) s:=by
 have hl:(us ++ []).length=ps.length:=by rw [yb,<- r.length]; exact F.len _ _ _ _ h
 have hb':=hb s us I.kIn hl; rw [yb] at hb'
 refine wpAny_call (codeAny_mono (F.run A' X.stack s H ⟨us,[]⟩ us vs Q E0 hr hA hb' r h) fun r s' hq=>?_)
 cases r with
 | error e=>exact hq.elim
 | ok fl =>
  cases fl with
  | ret u=>exact I.after hq
  | next=>exact False.elim hq
  | brk=>exact False.elim hq
  | cont=>exact False.elim hq
def zrh (sp:Sp) (Fin:List V->Hp->Prop):List V->List V->Hp->Prop
 | [],ks,H=>Fin ks H
 | v :: r,ks,H=>sp [v] H (fun k H'=>zrh sp Fin r (ks ++ [k]) H') E0
def zkf (X:Cx) (ks:List V) (H:Hp) (lt:Nat->Nat->Bool):Prop:=∀ (A':Around) (pins:yyL) (σ:St) (s:Shared) (kss:List Value),Inv X pins σ H s->zah ks kss->2<=ks.length ->
 wpAny (model X.prog X.w) A' (keyKind' kss.toArray) (fun κ s'=>Inv X pins σ H s'/\∀ (i j:Nat) (C:Bool->Shared->Prop) s'',i<ks.length->j<ks.length->Inv X pins σ H s''->(∀ s3,Inv X pins σ H s3->C (lt i j) s3)->kas_ask X.prog X.w A' κ kss i j C s'') (fun _ _=>False) s
def zd6 (lt:Nat->Nat->Bool) (xs:List V):List V:=if xs.length<2 then xs else (So.run lt (kas_sort xs.length)).toList.map fun i=>xs.getD i .non
def zg6 {xs:List V} {us:List Value} (r:zah xs us) (i:Nat) (hi:i<xs.length):zaw (xs.getD i .non) (us.getD i Value.none):=by
 have hl:=r.length; obtain ⟨u,hu,ru⟩:=r.get (yC hi); simp only [List.getD,yC hi,Option.getD_some]; rw [hu]; exact ru
theorem zio {xs:List V} {us:List Value} (r:zah xs us):∀ (l:List Nat),(∀ i,i ∈ l->i<xs.length)->zah (l.map fun i=>xs.getD i .non) (l.map fun i=>us.getD i Value.none)
 | [],_=>.nil
 | i :: l,h=>.cons (zg6 r i (h i (by simp))) (zio r l fun j hj=>h j (by simp [hj]))
def zfN {lt:Nat->Nat->Bool} (o:So.Ord lt) {n:Nat} (hn:1<=n):((So.run lt (kas_sort n)).toList.length=n)/\∀ i,i ∈ (So.run lt (kas_sort n)).toList->i<n:=by
 obtain ⟨b,_⟩:=So.sort o hn
 refine ⟨by rw [YC]; exact b.size,fun i hi=>?_⟩
 obtain ⟨k,hk,e⟩:=List.getElem_of_mem hi
 have hk':k<(So.run lt (kas_sort n)).size:=by simpa using hk
 have:=b.low k (by rw [b.size] at hk'; exact hk')
 rw [So.g_eq] at this; simp only [Array.getElem_toList] at e; rw [yu hk',e] at this; exact this
def zhk {f:Addr} {sp:Sp} {l:Addr} {xs:List V} {Q:VK} {E':Value->Shared->Prop}
  (hrun:∀ (pins':yyL) (H':Hp) (s':Shared) (x:V) (u:Value) (Q':VK),Inv X pins' σ H' s'->zaw x u->sp [x] H' Q' E0->wpAny (model X.prog X.w) X.A.in1.in1 (call (.ref f) [u]) (EP X pins' σ Q') (fun _ _=>False) s')
  (I:Inv X pins σ H s) (hl:SqL X.K H l xs) (h64:xs.length<64)
  (h:zrh sp (fun ks H'=>∃ lt,So.Ord lt/\zkf X ks H' lt/\∀ p,H' p=none->Q (.ref p) (upd H' p (.lst (zd6 lt xs)))) xs [] H) :
  wpAny (model X.prog X.w) X.A (call (.builtin "sorted") [.ref l] [(Str.ofString "key",.ref f)]) (EP X pins σ Q) E' s:=by
 obtain ⟨vs,rv,pl,hz⟩:=I.list hl; have hlen:=rv.length
 have h64':vs.length<64:=by omega
 refine call_function_entry_kw kind_sorted plain_sorted entry_sorted (ksk_s1 _ _) ?_
 unfold Builtin.«sorted»
 refine yA (m:=checkCount "sorted" 1 1 _) (yF ?_)
 refine yA (collect_list (znh pl) ?_ (by rw [sizeLine_eq]; omega))
 refine yA (wpAny_newList ?_ (by rw [sizeLine_eq]; omega))
 have hsz:((s.heap.push (seqObj "list" #[] 0)).update s.heap.objs.size (Obj.mapSeq (· ++ vs.toArray))).objs.size=s.heap.objs.size+1:=by
  rw [Heap.size_update,size_push']
 have hoL:(((s.heap.push (seqObj "list" #[] 0)).update s.heap.objs.size (Obj.mapSeq (· ++ vs.toArray))).push (seqObj "list" vs.toArray 0)).get? (s.heap.objs.size+1)=some (seqObj "list" vs.toArray 0):=by
  rw [<- hsz]; exact yJ _ rfl
 have hsz2:(((s.heap.push (seqObj "list" #[] 0)).update s.heap.objs.size (Obj.mapSeq (· ++ vs.toArray))).push (seqObj "list" vs.toArray 0)).objs.size=s.heap.objs.size+2:=by rw [size_push',hsz]
 have keep:∀ b o,s.heap.get? b=some o->(((s.heap.push (seqObj "list" #[] 0)).update s.heap.objs.size (Obj.mapSeq (· ++ vs.toArray))).push (seqObj "list" vs.toArray 0)).get? b=some o:=fun b o q=>by
  have hlt:b<s.heap.objs.size:=yI q
  rw [Heap.get?_push_ne _ _ _ (by rw [hsz]; exact yU (Nat.lt_succ_of_lt hlt)),Heap.get?_update_ne _ _ _ _ (yU hlt),Heap.get?_push_ne _ _ _ (yU hlt)]
  exact q
 show wpAny _ _ _ _ _ { s with heap:=((s.heap.push (seqObj "list" #[] 0)).update s.heap.objs.size (Obj.mapSeq (· ++ vs.toArray))).push (seqObj "list" vs.toArray 0) }
 rw [hsz]; refine yA (YW (wpAny_call_entry_kw slot_list_sort ⟨_,hoL,rfl⟩ entry_list_sort ?body (ksk_l1 _ _)))
 case body =>
  show wpAny (model X.prog X.w) X.A.in1.in1 (Builtin.«list.sort» ⟨[.ref (s.heap.objs.size+1)],[(Str.ofString "key",.ref f)]⟩) _ _ _
  rw [ksk_t1]
  refine So.srt_tree (s:={ s with heap:=((s.heap.push (seqObj "list" #[] 0)).update s.heap.objs.size (Obj.mapSeq (· ++ vs.toArray))).push (seqObj "list" vs.toArray 0) }) hoL h64' fun e1 h' keep' size' hk0 ha0=>?_
  dsimp only at keep' size' hk0
  rw [hsz2] at size' hk0
  have hDk:s.heap.objs.size+2+1≠s.heap.objs.size+1:=by omega
  have hD0:s.heap.objs.size<=s.heap.objs.size+1:=by omega
  have hK0:s.heap.objs.size<=s.heap.objs.size+2+1:=by omega
  have fD:=I.fpOk (H':=H) hD0 (I.hok.fresh hD0); have fK:=I.fpOk (H':=H) hK0 (I.hok.fresh hK0); rw [hsz2]; generalize hkS:s.heap.objs.size+2+1=kS at hk0 hDk fK; generalize hDD:s.heap.objs.size+1=D at ha0 hDk fD
  have I0:Inv X pins σ H { s with heap:=h' }:=I.kept (t':=s.toks) fun b u q=>keep' b u (fun z=>yN (yI q) (by rw [z]; exact Nat.not_lt.mpr (Nat.le_succ _))) (keep b u q)
  have pin2:∀ {H':Hp} {s':Shared} {ks:List Value} {e:Nat},Inv X pins σ H' s'->s'.heap.get? kS=some (seqObj "list" ks.toArray e)->s'.heap.get? D=some (seqObj "list" #[] e1)->H' kS=none->H' D=none->Inv X ((kS,seqObj "list" ks.toArray e) :: (D,seqObj "list" #[] e1) :: pins) σ H' s':=fun I' g1 g2 n1 n2 =>
   I'.pins_of fun p hp=>by
    rcases yP.mp hp with rfl | hp
    ·exact ⟨g1,n1,fK.2.1,fK.2.2.1,fun v z=>by cases z⟩
    ·rcases yP.mp hp with rfl | hp
     ·exact ⟨g2,n2,fD.2.1,fD.2.2.1,fun v z=>by cases z⟩
     ·exact I'.pin p (yc _ hp)
  have unpin:∀ {H':Hp} {s':Shared} {ks:List Value} {e:Nat},Inv X ((kS,seqObj "list" ks.toArray e) :: (D,seqObj "list" #[] e1) :: pins) σ H' s'->Inv X pins σ H' s'/\(s'.heap.get? kS=some (seqObj "list" ks.toArray e)/\H' kS=none)/\(s'.heap.get? D=some (seqObj "list" #[] e1)/\H' D=none):=fun I'=>by
   have p1:=I'.pin (kS,_) (yc _ (.head _)); have p2:=I'.pin (D,_) (yc _ (.tail _ (.head _)))
   exact ⟨I'.pins_of fun p hp=>I'.pin p (yc _ (.tail _ (.tail _ hp))),⟨p1.1,p1.2.1⟩,⟨p2.1,p2.2.1⟩⟩
  have fin3:∀ {H':Hp} {s':Shared} {ks:List Value} {e:Nat} {ys:List V} {out:List Value},Inv X ((kS,seqObj "list" ks.toArray e) :: (D,seqObj "list" #[] e1) :: pins) σ H' s'->zah ys out->ys.length<64->(∀ p,H' p=none->Q (.ref p) (upd H' p (.lst ys)))->So.Fin3 D kS ks e e1 out (EP X pins σ Q (.ref D)) s':=fun {H' s' ks e ys out} I' r hy hq=>by
   obtain ⟨I2,⟨g1,n1⟩,⟨g2,n2⟩⟩:=unpin I'
   refine ⟨g1,g2,fun h2 c c2 kp sz q1 q2=>⟨.ref D,upd H' D (.lst ys),?_,rfl,hq D n2⟩⟩
   refine I2.turnedOwn (t':=s'.toks) (ch:=[kS,D]) (fun b hb=>?_) (by simp) (fun b u hb e=>kp b u (fun z=>hb (by simp [z])) (fun z=>hb (by simp [z])) e) ⟨by rw [sizeLine_eq]; omega,out,c2,r,q2⟩
   simp at hb
   rcases hb with rfl | rfl
   ·exact ⟨n1,fK.2⟩
   ·exact ⟨n2,fD.2⟩
  refine So.srt_rest (J:=fun ks e s'=>∃ (kv:List V) (H':Hp),zah kv ks/\Inv X ((kS,seqObj "list" ks.toArray e) :: (D,seqObj "list" #[] e1) :: pins) σ H' s'/\zrh sp (fun ks H'=>∃ lt,So.Ord lt/\zkf X ks H' lt/\∀ p,H' p=none->Q (.ref p) (upd H' p (.lst (zd6 lt xs)))) (xs.drop ks.length) kv H') h64' ?_ ?_ ?_ ?_
  ·rintro ks e s' ⟨kv,H',_,I',_⟩
   exact (unpin I').2.1.1
  ·rintro ks e s' x hx ⟨kv,H',rk,I',hk⟩
   have hlt:ks.length<xs.length:=by rw [hlen]; exact (yG.mp hx).1
   obtain ⟨x',hx',rx⟩:=rv.get (yC hlt); rw [hx] at hx'; cases hx'; rw [YN hlt] at hk
   refine yp (hrun _ _ _ _ _ _ I' rx hk) (fun kk s3 he=>?_) fun _ _ z=>z
   obtain ⟨v,H3,I3,r3,hk3⟩:=he
   obtain ⟨I4,⟨g1,n1⟩,⟨g2,n2⟩⟩:=unpin I3
   refine ⟨g1,fun c hc=>⟨kv ++ [v],H3,rk.append (.cons r3 .nil),?_,?_⟩⟩
   ·have sb:=Heap.SameBut.update s3.heap kS (Obj.mapSeq (·.push kk))
    have I5:Inv X pins σ H3 { s3 with heap:=s3.heap.update kS (Obj.mapSeq (·.push kk)) }:=I4.turned (t':=s3.toks) (it:=kS) (fun b o hb e=>(sb.2 b hb).trans e) n1 fK.2.1 fK.2.2.2.1 fK.2.2.2.2.1 fK.2.2.2.2.2
    exact pin2 I5 hc ((sb.2 D (fun z=>hDk z.symm)).trans g2) n1 n2
   ·rw [yV,List.length_singleton]
    exact hk3
  ·rintro ks e s' hkl ⟨kv,H',rk,I',hk⟩
   have hkl2:kv.length=xs.length:=by rw [rk.length,hkl,hlen]
   rw [show xs.drop ks.length=[] from YZ (by omega)] at hk
   obtain ⟨lt,od,cmp,hq⟩:=hk
   by_cases hn:vs.length<2
   ·refine So.srt_end1 hDk hkl hn ((fin3 (ys:=zd6 lt xs) I' ?_ ?_ hq).mono fun s4 hq=>⟨_,rfl,yF ⟨_,rfl,hq⟩⟩)
    ·unfold zd6
     rw [yM (by omega)]
     exact rv
    ·unfold zd6
     rw [yM (by omega)]
     exact h64
   ·have hN:1<=vs.length:=by omega
    have hsm:=zfN od hN
    refine So.srt_end (e:=e) hDk hkl (by omega) h64' (yp (cmp X.A.in1.in1 _ σ s' ks I' rk (by omega)) (fun κ s3 hc=>?_) fun _ _ z=>z)
    obtain ⟨I3,hc⟩:=hc
    refine So.wp_of (lt:=lt) (N:=vs.length) (J:=fun s=>Inv X ((kS,seqObj "list" ks.toArray e) :: (D,seqObj "list" #[] e1) :: pins) σ H' s) (fun i j C s4 hi hj I4 hC=>hc i j C s4 (by omega) (by omega) I4 hC) (kas_sort vs.length) s3 (So.ok_sort od hN) I3 fun s4 I4=>?_
    refine (fin3 (ys:=zd6 lt xs) I4 ?_ ?_ hq).mono fun s4 hq=>⟨_,rfl,yF ⟨_,rfl,hq⟩⟩
    ·unfold zd6
     rw [yK (by omega),hlen]
     exact zio rv _ fun i hi=>by rw [hlen]; exact hsm.2 i hi
    ·unfold zd6
     rw [yK (by omega),yE,hlen,hsm.1]
     exact h64'
  ·exact ⟨[],H,.nil,pin2 I0 hk0 ha0 fK.1 fD.1,h⟩
def zhl {k:Nat} {f:Addr} {fd:FuncData} {ps:List Str} {sp:Sp} {l:Addr} {xs:List V} {Q:VK} {E':Value->Shared->Prop} (F:FnOk X.prog X.w X.K X.mg X.base CX0 k f fd ps sp) (hr:Room (k+2) X.A) (hb:zb7 X.K fd ps []) (I:Inv X pins σ H s) (hl:SqL X.K H l xs) (h64:xs.length<64)
  (h:zrh sp (fun ks H'=>∃ lt,So.Ord lt/\zkf X ks H' lt/\∀ p,H' p=none->Q (.ref p) (upd H' p (.lst (zd6 lt xs)))) xs [] H) :
  wpAny (model X.prog X.w) X.A (call (.builtin "sorted") [.ref l] [(Str.ofString "key",.ref f)]) (EP X pins σ Q) E' s :=
 zhk (fun _ _ _ _ _ _ I' rx hk=>zpz F hr.in1.in1 I'.env0.in1.in1 hb I' (.cons rx .nil) hk) I hl h64 h
end
section
def ltI (is:List Int):Nat->Nat->Bool:=fun i j=>decide (is.getD i 0<is.getD j 0)
def zuZ (is:List Int):So.Ord (ltI is):=⟨fun a b h=>by
  unfold ltI at h ⊢
  simp at h ⊢
  omega,fun a b c h1 h2=>by
  unfold ltI at h1 h2 ⊢
  simp at h1 h2 ⊢
  omega⟩
theorem zi5:∀ {is:List Int} {us:List Value},zah (is.map V.int) us->IntsAre us is
 | [],_,.nil=>.nil
 | i :: is,_,.cons r t=>by
  obtain ⟨tk,rfl⟩:=r; exact .cons i tk (zi5 t)
def zvr (is:List Int) {H:Hp}:zkf X (is.map V.int) H (ltI is):=by
 intro A' pins σ s kss I r h2; rw [yE] at h2; have hi:=zi5 r
 have hl:kss.length=is.length:=by have:=r.length; simpa using this.symm
 rw [ksk_kind (keys:=kss.toArray) (kz:=is) (by simpa using hi) (by rw [yQ]; omega)]
 refine yF ⟨I,fun i j C s'' h1 h2 I2 hC=>?_⟩
 rw [yE] at h1 h2; unfold kas_ask
 have g:∀ i,i<is.length->∃ t,kss.getD i Value.none=.int (is.getD i 0) t:=fun i h=>by
  have:=zg6 r i (by rw [yE]; exact h)
  rw [show (is.map V.int).getD i .non=V.int (is.getD i 0) by simp [List.getD,yH,yC h]] at this
  exact this
 obtain ⟨t1,e1⟩:=g i h1; obtain ⟨t2,e2⟩:=g j h2; rw [e1,e2]; exact kat_lt_int (hC _ I2)
def ltP (ps:List (Int × List Nat)):Nat->Nat->Bool:=fun i j=>decide ((ps.getD i (0,[])).1<(ps.getD j (0,[])).1\/((ps.getD i (0,[])).1=(ps.getD j (0,[])).1/\(ps.getD i (0,[])).2<(ps.getD j (0,[])).2))
def zeC (ps:List (Int × List Nat)):So.Ord (ltP ps):=⟨fun a b h=>by
  unfold ltP at h ⊢
  simp only [YE,decide_eq_false_iff_not] at h ⊢; generalize ps.getD a (0,[])=x at h ⊢; generalize ps.getD b (0,[])=y at h ⊢
  rintro (h' | ⟨h',h''⟩)
  ·rcases h with h | ⟨h,_⟩ <;> omega
  ·rcases h with h | ⟨_,h⟩
   ·omega
   ·exact List.lt_irrefl _ (List.lt_trans h h''),fun a b c h1 h2=>by
  unfold ltP at h1 h2 ⊢
  simp only [decide_eq_false_iff_not,not_or,not_and] at h1 h2 ⊢; generalize ps.getD a (0,[])=x at h1 h2 ⊢; generalize ps.getD b (0,[])=y at h1 h2 ⊢; generalize ps.getD c (0,[])=z at h1 h2 ⊢
  refine ⟨by omega,fun e=>?_⟩
  have e1:y.1=x.1:=by omega
  have e2:z.1=y.1:=by omega
  have q1:=h1.2 e1; have q2:=h2.2 e2; intro q; rw [List.not_lt] at q1 q2; exact yN q (List.not_lt.mpr (List.le_trans q1 q2))⟩
def zri (H:Hp):List Addr->List (Int × List Nat)->Prop:=Paired fun a p=>H a=some (.tup [.int p.1,.str (st p.2)])
def zh8 {s:Shared} {pins:yyL} {σ:St} {H:Hp} (I:Inv X pins σ H s) {a:Addr} {p:Int × List Nat} (h:H a=some (.tup [.int p.1,.str (st p.2)])) :
  ∃ o n t1 t2,s.heap.get? a=some o/\o.cls=.type "tuple"/\o.data=.seq (List.toArray [Value.int p.1 t1,Value.str (st p.2) t2]) n:=by
 obtain ⟨its,r,⟨o,e,c,n,d⟩,_⟩:=I.tuple (SqT.of h)
 obtain ⟨u,w',rfl,r1,r2⟩:=zkw r; obtain ⟨t1,rfl⟩:=r1; obtain ⟨t2,rfl⟩:=r2; exact ⟨o,n,t1,t2,e,c,d⟩
theorem zsV {s:Shared} {pins:yyL} {σ:St} {H:Hp} (I:Inv X pins σ H s):∀ {as:List Addr} {ps:List (Int × List Nat)},zri H as ps->∃ fs:List Value,fs.length=as.length/\KatTups s.heap (as.map Value.ref) fs/\∀ v,v ∈ fs->∃ i t,v=Value.int i t
 | [],[],_=>⟨[],rfl,trivial,fun _ z=>by simp at z⟩
 | a :: as,p :: ps,.cons h t=>by
  obtain ⟨fs,hl,kt,hf⟩:=zsV I t; obtain ⟨o,n,t1,t2,e,c,d⟩:=zh8 I h
  refine ⟨.int p.1 t1 :: fs,by simp [hl],KatTups.cons e c d rfl kt,fun v hv=>?_⟩
  rcases yP.mp hv with rfl | hv
  ·exact ⟨_,_,rfl⟩
  ·exact hf v hv
theorem ziE:∀ {as:List Addr} {us:List Value},zah (as.map V.ref) us->us=as.map Value.ref
 | [],_,.nil=>rfl
 | a :: as,_,.cons r t=>by rw [ziE t]; cases r; rfl
theorem zgb {H:Hp}:∀ {as:List Addr} {ps:List (Int × List Nat)} (i:Nat),zri H as ps->i<as.length->H (as.getD i 0)=some (.tup [.int (ps.getD i (0,[])).1,.str (st (ps.getD i (0,[])).2)])
 | _ :: _,_ :: _,0,.cons h _,_=>h
 | _ :: _,_ :: _,i+1,.cons _ t,hi=>by
  have:=zgb i t (by simpa using hi)
  simpa using this
def zvq {H:Hp} {as:List Addr} {ps:List (Int × List Nat)} (k:zri H as ps):zkf X (as.map V.ref) H (ltP ps):=by
 intro A' pins σ s kss I r h2; rw [yE] at h2; have e:=ziE r; subst e; obtain ⟨fs,hl,kt,hf⟩:=zsV I k
 refine kat_kind (T:=.type "int") kt (by omega) (fun v hv=>?_) rfl ⟨I,fun i j C s'' h1 h2 I2 hC=>?_⟩
 ·obtain ⟨i,t,rfl⟩:=hf v hv
  exact Looks.of_pure rfl
 ·rw [yE] at h1 h2
  unfold kas_ask
  have g:∀ i,i<as.length->(as.map Value.ref).getD i Value.none=.ref (as.getD i 0):=fun i h=>by simp [List.getD,yH,yC h]
  rw [g i h1,g j h2]; obtain ⟨o,n,t1,t2,e1,c1,d1⟩:=zh8 I2 (zgb i k h1); obtain ⟨o',n',t1',t2',e1',c1',d1'⟩:=zh8 I2 (zgb j k h2); unfold ltP at hC; generalize ps.getD i (0,[])=p at *; generalize ps.getD j (0,[])=q at *; refine kat_lt e1 d1 e1' d1' ?_; refine kat_cons (wpAny_eqBool_int ?_)
  refine kat_go (fun he=>kat_yes (kat_cons (wpAny_eqBool_str (kat_go (fun he2=>kat_yes (kat_nil ?_)) fun he2=>kat_no ?_)))) fun he=>kat_no ?_
  ·have e1:p.1=q.1:=by simpa using he
   have e2:st p.2=st q.2:=by simpa using he2
   have e3:p.2=q.2:=by rw [<- zad p.2,e2,zad]
   have hz:=hC _ I2
   rw [show decide (p.1<q.1\/p.1=q.1/\p.2<q.2)=false by rw [e1,e3]; simp] at hz
   exact hz
  ·have e1:p.1=q.1:=by simpa using he
   have hz:=hC _ I2; refine kat_one _ _ (lt_str ?_)
   show C (decide ((st p.2).cps.toList<(st q.2).cps.toList)) s''
   simp only [zad]
   rw [show decide (p.1<q.1\/p.1=q.1/\p.2<q.2)=decide (p.2<q.2) by rw [e1]; simp] at hz
   exact hz
  ·have e1:¬ p.1=q.1:=by simpa using he
   have hz:=hC _ I2; refine oneLt_int ?_
   rw [show decide (p.1<q.1\/p.1=q.1/\p.2<q.2)=decide (p.1<q.1) by simp [e1]] at hz
   exact hz
end
end L2
namespace PL
open PySem L2
def zuc (ks:List D) (lt:Nat->Nat->Bool):Prop:=(∃ is:List Int,ks=is.map .int/\lt=ltI is)\/∃ ps:List (Int × List Nat),ks=ps.map (fun p=>.tup [.int p.1,.str p.2])/\lt=ltP ps
def zhD (lt:Nat->Nat->Bool) (ds:List D):List D:=if ds.length<2 then ds else (So.run lt (W.kas_sort ds.length)).toList.map fun i=>ds.getD i .non
def zuc.ord {ks:List D} {lt:Nat->Nat->Bool} (h:zuc ks lt):So.Ord lt:=by
 rcases h with ⟨is,_,rfl⟩ | ⟨ps,_,rfl⟩
 ·exact zuZ is
 ·exact zeC ps
theorem zhc {K:W.Frag} {H:Hp}:∀ {vs:List V} {is:List Int},zaU K H vs (is.map .int)->vs=is.map V.int
 | [],[],_=>rfl
 | v :: vs,i :: is,.cons r t=>by rw [r.intI,zhc t]; rfl
 | [],_ :: _,h=>nomatch h
 | _ :: _,[],h=>nomatch h
theorem zhb {K:W.Frag} {H:Hp}:∀ {vs:List V} {ps:List (Int × List Nat)},zaU K H vs (ps.map fun p=>.tup [.int p.1,.str p.2])->∃ as:List Addr,vs=as.map V.ref/\zri H as ps
 | [],[],_=>⟨[],rfl,.nil⟩
 | v :: vs,p :: ps,.cons r t=>by
  obtain ⟨as,rfl,k⟩:=zhb t; obtain ⟨a,us,rfl,ha,dl⟩:=r.tupJ; obtain ⟨v1,v2,rfl,d1,d2⟩:=zhd dl; rw [d1.intI,d2.strI] at ha; exact ⟨a :: as,rfl,.cons ha k⟩
 | [],_ :: _,h=>nomatch h
 | _ :: _,[],h=>nomatch h
theorem zgZ {H H':Hp} (e:zY H H'):∀ {as:List Addr} {ps:List (Int × List Nat)},zri H as ps->zri H' as ps
 | _,_,.nil=>.nil
 | _,_,.cons h t=>.cons (e _ _ h) (zgZ e t)
def zoi {K:W.Frag} {H:Hp} {vs:List V} {ds:List D} (h:zaU K H vs ds) (i:Nat) (hi:i<vs.length):Den K H (vs.getD i .non) (ds.getD i .non):=by
 have hl:=zj h
 have:=paired_get i h (yC hi) (yC (by omega:i<ds.length))
 simpa [List.getD,yC hi,yC (by omega:i<ds.length)] using this
theorem zl3 {K:W.Frag} {H:Hp} {vs:List V} {ds:List D} (h:zaU K H vs ds):∀ (l:List Nat),(∀ i,i ∈ l->i<vs.length)->zaU K H (l.map fun i=>vs.getD i .non) (l.map fun i=>ds.getD i .non)
 | [],_=>.nil
 | i :: l,q=>.cons (zoi h i (q i (by simp))) (zl3 h l fun j hj=>q j (by simp [hj]))
def zmW {K:W.Frag} {H:Hp} {lt:Nat->Nat->Bool} (o:So.Ord lt) {vs:List V} {ds:List D} (h:zaU K H vs ds):zaU K H (zd6 lt vs) (zhD lt ds):=by
 have hl:=zj h; unfold zd6 zhD; rw [hl]; split
 ·exact h
 ·rename_i hn
  exact zl3 h _ fun i hi=>by rw [hl]; exact (zfN o (by omega)).2 i hi
section
def zcT (sp:Sp') (t:TA'):TO':=fun Γ Q=>t Γ fun as Γ1=>∃ ds ks lt,as=[.lst ds]/\ds.length<64/\ks.length=ds.length/\(∀ (i:Nat) x k,ds[i]?=some x->ks[i]?=some k->sp [x] fun r=>r=.val k)/\zuc ks lt/\Q (.lst (zhD lt ds)) Γ1
end
end PL
namespace L2
open PySem PySem.Spec PyProof.Rows
abbrev zeO (qual:Str) (params:Arguments) (body:Expr) (scope:Scope) (pm:Value) (c:Addr) (ctv:Value):Obj:=W.kla_obj "<lambda>" qual params body scope [] pm c ctv
abbrev zcn (cl:List (Str × Addr)) (qual:Str) (params:Arguments) (body:Expr) (scope:Scope) (pm:Value) (c:Addr) (ctv:Value):Obj:=W.kla_obj "<lambda>" qual params body scope cl pm c ctv
abbrev zlz (qual:Str) (params:Arguments) (body:Expr) (scope:Scope) (pm:Value) (c:Addr) (ctv:Value):FuncData:=W.kla_fn "<lambda>" qual params body scope [] pm (.ref c) ctv
def zkN (f c:Addr) (fo oc:Obj) (sp:Sp):Sp:=fun vs H Q E=>H f=some (zbn (.inr fo))/\H c=some (zbn (.inr oc))/\sp vs H Q E
section
def zsT {CX:CXT} {k:Nat} {f c:Addr} {qual:Str} {params:Arguments} {body:Expr} {scope:Scope} {pm ctv:Value} {oc:Obj} {vs0:Array Value} {t0:Tok} {N ps:List Str} {sp:Sp}
  (S:FnScope N ps scope) (hd:oc.data=.fields vs0) (hv:vs0[1]?=some (.str qual t0)) (len:∀ vs H Q E,sp vs H Q E->vs.length=ps.length)
  (hbody:∀ (A:Around) (outer:List Env) (s:Shared) (H:Hp) (vs:List V) (Q:VK) (E:XK),Room k (A.deeper (envOfC qual scope s.heap.objs.size f (.ref c)))->sp vs H Q E ->
   ∃ t,PE (zdy CX P w K mg base N qual scope f (.ref c) A outer s H E) body t/\t (start N vs) H Q) :
  FnOk P w K mg base CX (k+1) f (zlz qual params body scope pm c ctv) ps (zkN f c (zeO qual params body scope pm c ctv) oc sp):=by
 refine ⟨fun vs H Q E h=>len _ _ _ _ h.2.2,fun A outer s H args us vs Q E hr e0 hb r hsp=>?_⟩
 obtain ⟨hf,hc,hsp⟩:=hsp; have hl:=len _ _ _ _ hsp
 have of:s.heap.get? f=some (zeO qual params body scope pm c ctv):=(e0.hok f _ hf).1
 have oc':s.heap.get? c=some oc:=(e0.hok c _ hc).1
 have lim:s.heap.NoLimit:=e0.mod.nolimit.keeps fun b o e=>(e0.bs b o e).1
 have hkind:∀ y ∈ ps.zip us,scope.names.lookup y.1=some .local\/(scope.names.lookup y.1=some .cell/\((cellsFrom (s.heap.objs.size+1) scope.names []).lookup y.1).isSome=true):=fun ⟨n,v⟩ hy=>by
  rcases S.par n (List.of_mem_zip hy).1 with q | q
  ·exact .inl q
  ·exact .inr ⟨q,W.cellsFrom_some _ _ _ (.inl q)⟩
 refine W.kla_callFunE hr.depth of rfl S.co S.gen rfl ⟨c,oc,vs0,t0,rfl,oc',hd,hv⟩ (hb _ _ _ _ ?_)
 refine wpAny_newFunctionEnv_cells S.kind hkind fun env he s1 x=>?_
 subst he; refine ⟨lim.keeps x.toInCall.keep,W.kla_codeExpr ?_⟩; obtain ⟨t,ht,hq⟩:=hbody A outer s H vs Q E (hr.deeper _) hsp
 have I:Inv (zdy CX P w K mg base N qual scope f (.ref c) A outer s H E) [] (start N vs) H s1:=zeV S hr.hd e0 hl r x
 refine yp (ht [] s1 (start N vs) H _ I hq) (fun u s' hs=>?_) fun e s' hs=>hs
 obtain ⟨v,H',J,rv,q⟩:=hs; exact ⟨v,H',J.os,J.bare,J.base,J.hok,rv,q⟩
end
def zj9 {pos:Pos} {c cv:Value} {a b:Int} (l:List Value) (h:TriplesOk l) (e:codeAmong pos (l ++ [rawInt a,rawInt b,c])=some cv):codeAmong pos l=some cv\/cv=c:=by
 fun_induction TriplesOk l with
 | case1 =>
  simp only [YM,codeAmong,rawInt] at e; split at e
  ·exact .inr (Option.some.inj e).symm
  ·cases e
 | case2 a' t b' u x zbq ih =>
  simp only [List.cons_append,codeAmong] at e ⊢; split at e
  ·rename_i hc
   rw [yM hc]; exact .inl e
  ·rename_i hc
   rw [yK hc]; exact ih h e
 | case3 l h1 h2=>exact h.elim
def zgh {P:Program} {w:World} {H:Hp} {h:Heap} {a:Addr} {o:Obj} (e:h.get? a=some o):zap P w H h a (zbn (.inr o)):=⟨e,trivial,⟨o,e⟩,fun _ _ _ _=>trivial⟩
def NewLam (H H2:Hp) (f c:Addr) (fo oc:Obj):Prop:=∃ H1,(H1=H\/(H c=none/\H1=upd H c (zbn (.inr oc))))/\H1 c=some (zbn (.inr oc))/\H1 f=none/\H2=upd H1 f (zbn (.inr fo))
section
def zgY {cl:List (Str × Addr)} {params:Arguments} {body:Expr} {scope:Scope} {lpos:Pos} {c Pt:Addr} {Q:VK} {E':Value->Shared->Prop} (I:Inv X pins σ H s) (hc:X.env.code=.ref c) (hC:W.codeHdIn X.K c Pt=true)
  (hT:X.base.objs[Pt]?=some (zd5 (X.env.qual ++ "<lambda>"))) (hdef:defaultsOf params X.env=([],[])) (hcl:closureFor scope X.env=pure cl)
  (q:∀ (f c':Addr) (oc:Obj) (vs:Array Value) (t:Tok) (pm ctv:Value) (H2:Hp),oc.data=.fields vs->vs[1]?=some (.str (X.env.qual ++ "<lambda>") t)->NewLam H H2 f c' (zcn cl (X.env.qual ++ "<lambda>") params body scope pm c' ctv) oc->Q (.ref f) H2) :
  wpAny (model X.prog X.w) X.A (eval (.Lambda params body scope lpos) X.env) (EP X pins σ Q) E' s:=by
 obtain ⟨ps,hP,hq⟩:=I.env0.tab Pt _ hT; obtain ⟨ts,ht1,ht2,ht3⟩:=I.hok Pt _ hP
 have hg:s.heap.Ns mainGlobals X.mg:=I.mod.glob.keeps I.bk
 have C:=W.codeHd_of_K I.kIn hC; obtain ⟨bm,ob,b1,b2,b3,b4,b5,b6⟩:=I.mod.bm; have hbm:=I.bk _ _ b3
 have hgP:mainGlobals≠Pt:=fun z=>by
  obtain ⟨o,es,ep,e,_⟩:=I.mod.glob; have y:=(I.bs _ _ e).2; rw [z,hP] at y; cases y
 have hbP:bm≠Pt:=fun z=>by
  have y:=(I.bs _ _ b3).2; rw [z,hP] at y; cases y
 have hbG:bm≠mainGlobals:=fun z=>by
  obtain ⟨o,es,ep,e,hd,_⟩:=I.mod.glob; rw [<- z,b3] at e; cases e; rw [b6] at hd; cases hd
 refine W.kla_eval hdef ?_
 cases hf:codeAmong lpos ts.toList with
 | none =>
  refine W.kla_makeFunction (mg:=X.mg) hcl I.ok.glob hg hc C ht1 ht2 hf hgP ⟨bm,ob,b1,b2,hbG,hbP,hbm,b4,b5,b6⟩ fun c' ctv h' tk hx hge hlt hrec htb=>?_
  obtain ⟨c2,oc,vs,t,e2,hoc,hd,hv⟩:=hrec; cases e2
  have fr:H c'=none:=I.hok.fresh hge
  have nP:∀ b,H b=none->b≠Pt:=fun b n z=>by rw [z,hP] at n; cases n
  have sm:∀ b u,H b=some u->upd H c' (zbn (.inr oc)) b=some u:=fun b u e=>by rw [zq (zA e fr)]; exact e
  have cP:c'≠Pt:=fun z=>by rw [z,hP] at fr; cases fr
  have un:Un X.fs [] H (upd H c' (zbn (.inr oc))) s.heap h':=by
   refine ⟨fun b o e n _ _=>hx b o (nP b n) e,fun b o e n _ _=>⟨o.slots,hx b o (nP b n) e⟩,fun b o e n _=>?_,fun b o e _=>?_,fun b xs e=>sm _ _ e,fun b o u e=>sm _ _ e,fun b ps e=>⟨#[],by rw [sm _ _ e]; simp⟩⟩
   ·rw [zq (yU (yT (yI e) hge))]
    exact n
   ·by_cases z:b=Pt
    ·rw [z]; exact ⟨_,htb⟩
    ·exact ⟨o,hx b o z e⟩
  have hok:HOk X.prog X.w (upd H c' (zbn (.inr oc))) h':=fun b u e=>by
   by_cases z:b=c'
   ·subst z
    rw [zp] at e; cases e; exact zgh hoc
   ·rw [zq z] at e
    by_cases y:b=Pt
    ·subst y
     rw [hP] at e; cases e
     refine ⟨_,htb,?_,fun pos cv ee=>?_⟩
     ·rw [Array.toList_append]
      exact TriplesOk_snoc _ _ _ _ ht2
     ·rw [Array.toList_append] at ee
      rcases zj9 _ ht2 ee with y | y
      ·obtain ⟨c3,oc3,vs3,t3,q3,t4,z1,z2,z3⟩:=ht3 pos cv y
       exact ⟨c3,oc3,vs3,t3,q3,t4,z1,sm _ _ z2,z3⟩
      ·exact ⟨c',oc,vs,t,_,_,y,zp,hd,hv,hq⟩
    ·refine (I.hok b u e).stay (fun d v hd r=>hx d v ?_ r) (fun d r=>sm _ _ r) fun d xs r=>sm _ _ r
     rcases hd with rfl | hd
     ·exact y
     ·intro zz
      rw [zz,hP] at hd; cases hd
  have I1:=I.un (t':=tk) un hok
  refine ⟨.ref h'.objs.size,_,I1.laid (a:=h'.objs.size) (o:=zbn (.inr (zcn cl (X.env.qual ++ "<lambda>") params body scope ((X.mg "__name__").getD .none) c' ctv))) (t':=tk) (fun b u e=>yB _ e) (yD _) (zgh (yJ _ rfl)),rfl,?_⟩
  exact q _ c' oc vs t _ ctv _ hd hv ⟨_,.inr ⟨fr,rfl⟩,zp,hok.fresh (yD _),rfl⟩
 | some cv =>
  obtain ⟨c',oc,vs,t,q',t0,rfl,hc',hd,hv,hq'⟩:=ht3 lpos cv hf; rw [hq] at hq'; cases hq'
  refine W.kla_makeFunctionHit (mg:=X.mg) hcl I.ok.glob hg hc C ht1 ht2 hf ⟨bm,ob,b1,b2,hbG,hbP,hbm,b4,b5,b6⟩ fun ctv h' tk hk hsz=>?_
  have I1:=I.kept (t':=tk) hk
  refine ⟨.ref h'.objs.size,_,I1.laid (a:=h'.objs.size) (o:=zbn (.inr (zcn cl (X.env.qual ++ "<lambda>") params body scope ((X.mg "__name__").getD .none) c' ctv))) (t':=tk) (fun b u e=>yB _ e) (yD _) (zgh (yJ _ rfl)),rfl,?_⟩
  exact q _ c' oc vs t _ ctv _ hd hv ⟨_,.inl rfl,hc',I1.hok.fresh (yD _),rfl⟩
def znL {params:Arguments} {body:Expr} {scope:Scope} {lpos:Pos} {c Pt:Addr} {Q:VK} {E':Value->Shared->Prop} (I:Inv X pins σ H s) (hc:X.env.code=.ref c) (hC:W.codeHdIn X.K c Pt=true)
  (hT:X.base.objs[Pt]?=some (zd5 (X.env.qual ++ "<lambda>"))) (hdef:defaultsOf params X.env=([],[])) (hcl:closureFor scope X.env=pure [])
  (q:∀ (f c':Addr) (oc:Obj) (vs:Array Value) (t:Tok) (pm ctv:Value) (H2:Hp),oc.data=.fields vs->vs[1]?=some (.str (X.env.qual ++ "<lambda>") t)->NewLam H H2 f c' (zeO (X.env.qual ++ "<lambda>") params body scope pm c' ctv) oc->Q (.ref f) H2) :
  wpAny (model X.prog X.w) X.A (eval (.Lambda params body scope lpos) X.env) (EP X pins σ Q) E' s :=
 zgY I hc hC hT hdef hcl q
end
section
def zwd (qual:Str) (params:Arguments) (body:Expr) (scope:Scope):TE:=fun _ H Q=>∀ (f c:Addr) (oc:Obj) (vs:Array Value) (t:Tok) (pm ctv:Value) (H2:Hp),oc.data=.fields vs->vs[1]?=some (.str qual t)->NewLam H H2 f c (zeO qual params body scope pm c ctv) oc->Q (.ref f) H2
structure LamAt (X:Cx) (qual:Str):Prop where
 ex:∃ c Pt,X.env.code=.ref c/\W.codeHdIn X.K c Pt=true/\X.base.objs[Pt]?=some (zd5 qual)
 qu:X.env.qual ++ "<lambda>"=qual
def zsp {qual:Str} {params:Arguments} {body:Expr} {scope:Scope} {lpos:Pos} (L:LamAt X qual) (hdef:defaultsOf params X.env=([],[]):=by rfl) (hcl:closureFor scope X.env=pure []:=by rfl):PE X (.Lambda params body scope lpos) (zwd qual params body scope):=by
 obtain ⟨⟨c,Pt,hc,hC,hT⟩,rfl⟩:=L
 intro pins s σ H Q I h; exact znL I hc hC hT hdef hcl h
def NewLam.same {H H2:Hp} {f c:Addr} {fo oc:Obj} (n:NewLam H H2 f c fo oc):zY H H2:=by
 obtain ⟨H1,h1,_,h3,rfl⟩:=n; intro b u e
 rcases h1 with rfl | ⟨h1,rfl⟩
 ·rw [zq (zA e h3)]; exact e
 ·have e1:upd H c (zbn (.inr oc)) b=some u:=by rw [zq (zA e h1)]; exact e
  rw [zq (zA e1 h3)]; exact e1
def NewLam.has {H H2:Hp} {f c:Addr} {fo oc:Obj} (n:NewLam H H2 f c fo oc):H2 f=some (zbn (.inr fo))/\H2 c=some (zbn (.inr oc)):=by
 obtain ⟨H1,h1,h2,h3,rfl⟩:=n
 exact ⟨zp,by rw [zq (zA h2 h3)]; exact h2⟩
def zrD (K:W.Frag) (X:Cx) (sp:Sp) (t:TA):TE:=fun σ H Q=>t σ H fun vs H1=>∃ l xs,vs=[.ref l]/\SqL K H1 l xs/\xs.length<64/\∀ f c fo oc H2,NewLam H1 H2 f c fo oc ->
 zrh (zkN f c fo oc sp) (fun ks H'=>∃ lt,So.Ord lt/\zkf X ks H' lt/\∀ p,H' p=none->Q (.ref p) (upd H' p (.lst (zd6 lt xs)))) xs [] H2
def zmV {K:W.Frag} {H H':Hp} {a:Addr} {vs:List V} (e:zY H H') (h:SqL K H a vs):SqL K H' a vs:=by
 rcases h with h | h
 ·rcases h with h | ⟨o,h⟩
  ·exact .inl (.inl (e _ _ h))
  ·exact .inl (.inr ⟨o,e _ _ h⟩)
 ·exact .inr h
def znm {k:Nat} {qual:Str} {params:Arguments} {body:Expr} {scope:Scope} {ps:List Str} {sp:Sp} {e:Expr} {t:TA} {p kpos lpos pos:Pos} (L:LamAt X qual)
  (hF:∀ (f c:Addr) (oc:Obj) (vs:Array Value) (t:Tok) (pm ctv:Value),oc.data=.fields vs->vs[1]?=some (.str qual t)->FnOk X.prog X.w X.K X.mg X.base CX0 k f (zlz qual params body scope pm c ctv) ps (zkN f c (zeO qual params body scope pm c ctv) oc sp))
  (hb:∀ (pm:Value) (c:Addr) (ctv:Value) (us:List Value),us.length=ps.length->bindArgs (zlz qual params body scope pm c ctv) ⟨us,[]⟩=pure (ps.zip us))
  (hr:Room (k+2) X.A) (hm:X.mg "sorted"=none) (ha:PA X [e] t) (hgs:Gl X "sorted":=by rfl)
  (hdef:defaultsOf params X.env=([],[]):=by rfl) (hcl:closureFor scope X.env=pure []:=by rfl)
  (he:backTo pos (starEach [e] X.env)=(false,eval e X.env) :: backTo pos (starEach [] X.env):=by rfl)
  (hplain:(backTo pos (starEach [e] X.env)).any (·.1)=false:=by rfl) :
  PE X (.Call (.Name "sorted" p) [e] [⟨some "key",.Lambda params body scope lpos,kpos⟩] pos) (zrD X.K X sp t):=by
 intro pins s σ H Q I h; refine YT (zdr I hgs hm boot_sorted ?_)
 refine callWith_kw (thn (ha pos pins s σ H _ I h) fun us s1 ⟨vs,H1,I1,r,q⟩=>?_) he hplain rfl rfl
 obtain ⟨l,xs,rfl,hl,h64,hk⟩:=q; obtain ⟨u,rfl,ru⟩:=zcH r; cases ru
 refine thn (zpW (nm:=some "key") (kpos:=kpos) (zsp (lpos:=lpos) L hdef hcl) zsg pos pins s1 σ H1 (fun zs H2=>∃ (f c:Addr) (oc:Obj) (vs:Array Value) (t:Tok) (pm ctv:Value),zs=[.ref f]/\oc.data=.fields vs/\vs[1]?=some (.str qual t)/\NewLam H1 H2 f c (zeO qual params body scope pm c ctv) oc) I1 ?_) fun ws s2 ⟨zs,H2,I2,rz,f,c,oc,vs,t0,pm,ctv,e1,hd,hv,nl⟩=>?_
 ·intro f c oc vs t0 pm ctv H2 hd hv nl
  exact ⟨f,c,oc,vs,t0,pm,ctv,rfl,hd,hv,nl⟩
 ·subst e1
  obtain ⟨w',rfl,rw'⟩:=zcH rz; cases rw'; exact zhl (hF f c oc vs t0 pm ctv hd hv) hr (.all (hb pm c ctv)) I2 (zmV nl.same hl) h64 (hk _ _ _ _ _ nl)
end
end L2
namespace PL
open PySem L2
section
def zqt {k:Nat} {f c:Addr} {qual:Str} {params:Arguments} {body:Expr} {scope:Scope} {pm ctv:Value} {oc:Obj} {vs0:Array Value} {t0:Tok} {N ps:List Str} {sp:Sp'}
  (S:FnScope N ps scope) (hd:oc.data=.fields vs0) (hv:vs0[1]?=some (.str qual t0)) (len:∀ ds Q,sp ds Q->ds.length=ps.length)
  (hbody:∀ (A:Around) (outer:List Env) (s:Shared) (H:Hp) (E:XK),Room k (A.deeper (PyProof.Rows.envOfC qual scope s.heap.objs.size f (.ref c)))->∀ ds Q,sp ds Q ->
   ∃ t,PE' (zdy CX0 P w K mg base N qual scope f (.ref c) A outer s H E).nox body t/\t (zaN N ds) fun d _=>Q (.val d)) :
  FnOk P w K mg base CX0 (k+1) f (zlz qual params body scope pm c ctv) ps (zkN f c (zeO qual params body scope pm c ctv) oc (ziB K sp)):=by
 refine zsT S hd hv (fun vs H Q E h=>?_) fun A outer s H vs Q E hr h=>?_
 ·obtain ⟨Hi,ds,Q',_,dl,h,_⟩:=h
  rw [zj dl]; exact len ds Q' h
 ·obtain ⟨Hi,ds,Q',sb,dl,h,fin⟩:=h
  obtain ⟨t,h1,h2⟩:=hbody A outer s H E hr ds Q' h
  have hpl:ps.length<=N.length:=by have:=yi List.length S.pre; rw [YJ] at this; omega
  refine ⟨_,h1.h.nox,⟨H,Hi,[]⟩,Hi,zaN N ds,_,zbT (len ds Q' h) hpl sb dl,h2,?_⟩
  rintro v H' ⟨Hi',d,Γ',s1,g1,dv,q⟩
  exact fin Hi' H' v (.val d) ⟨s1,fun b o e=>g1.keep b o e (by simp),g1.fz,fun b o e=>g1.fro b o e⟩ dv q
end
theorem zg1 {K:W.Frag} {sp:Sp'} {Fin:List V->Hp->Prop} {Hi1 H1:Hp} {f c:Addr} {fo oc:Obj} (hf:H1 f=some (zbn (.inr fo))) (hc:H1 c=some (zbn (.inr oc))):∀ (r:List V) (rd kd:List D) (acc:List V) (accD:List D) (Hi H:Hp),Ext Hi1 H1 Hi H->zaU K Hi r rd->kd.length=rd.length->(∀ (i:Nat) x k,rd[i]?=some x->kd[i]?=some k->sp [x] fun r=>r=.val k)->zaU K Hi acc accD ->
  (∀ acc Hi H,Ext Hi1 H1 Hi H->zaU K Hi acc (accD ++ kd)->Fin acc H)->zrh (zkN f c fo oc (ziB K sp)) Fin r acc H
 | [],[],kd,acc,accD,Hi,H,ex,_,hl,_,da,fin=>by
  have:kd=[]:=List.length_eq_zero_iff.mp (by simpa using hl)
  subst this
  exact fin acc Hi H ex (by rw [yb]; exact da)
 | v :: r,d :: rd,k :: kd,acc,accD,Hi,H,ex,.cons d1 t,hl,hsp,da,fin=>by
  refine ⟨ex.h _ _ hf,ex.h _ _ hc,Hi,[d],fun r=>r=.val k,ex.fz,.cons d1 .nil,hsp 0 d k rfl rfl,fun Hi' H' v' r' e2 ro hq=>?_⟩
  subst hq
  refine zg1 hf hc r rd kd (acc ++ [v']) (accD ++ [k]) Hi' H' (ex.trans e2) (zaU.mono t e2.hi) (by simpa using hl) (fun i x k h1 h2=>hsp (i+1) x k (by simpa using h1) (by simpa using h2)) (zat (da.mono e2.hi) (.cons ro .nil)) fun acc Hi H e3 da=>?_
  exact fin acc Hi H e3 (by simpa using da)
 | [],_ :: _,_,_,_,_,_,_,h,_,_,_,_=>nomatch h
 | _ :: _,[],_,_,_,_,_,_,h,_,_,_,_=>nomatch h
 | _ :: _,_ :: _,[],_,_,_,_,_,_,hl,_,_,_=>by simp at hl
def NewLam.ext {Hi H H2:Hp} {f c:Addr} {fo oc:Obj} (n:NewLam H H2 f c fo oc) (fz:Fz Hi H):Ext Hi H Hi H2:=by
 obtain ⟨H1,h1,h2,h3,rfl⟩:=n
 have e1:Ext Hi H Hi H1:=by
  rcases h1 with rfl | ⟨h1,rfl⟩
  ·exact Ext.refl fz
  ·exact Ext.newO fz h1 _ fun _ z=>nomatch z
 exact e1.trans (Ext.newO e1.fz h3 _ fun _ z=>nomatch z)
section
def ziQ {k:Nat} {qual:Str} {params:Arguments} {body:Expr} {scope:Scope} {N ps:List Str} {sp:Sp'} {e:Expr} {t:TA'} {p kpos lpos pos:Pos} (L:LamAt X qual) (S:FnScope N ps scope) (len:∀ ds Q,sp ds Q->ds.length=ps.length)
  (hbody:∀ (f c:Addr) (A:Around) (outer:List Env) (s:Shared) (H:Hp) (E:XK),Room k (A.deeper (PyProof.Rows.envOfC qual scope s.heap.objs.size f (.ref c)))->∀ ds Q,sp ds Q ->
   ∃ t,PE' (zdy CX0 X.prog X.w X.K X.mg X.base N qual scope f (.ref c) A outer s H E).nox body t/\t (zaN N ds) fun d _=>Q (.val d))
  (hb:∀ (pm:Value) (c:Addr) (ctv:Value) (us:List Value),us.length=ps.length->bindArgs (zlz qual params body scope pm c ctv) ⟨us,[]⟩=pure (ps.zip us))
  (hr:Room (k+3) X.A) (hm:X.mg "sorted"=none) (ha:PA' X [e] t) (hgs:Gl X "sorted":=by rfl)
  (hdef:defaultsOf params X.env=([],[]):=by rfl) (hcl:closureFor scope X.env=pure []:=by rfl)
  (he:backTo pos (starEach [e] X.env)=(false,eval e X.env) :: backTo pos (starEach [] X.env):=by rfl)
  (hplain:(backTo pos (starEach [e] X.env)).any (·.1)=false:=by rfl) :
  PO' X (.Call (.Name "sorted" p) [e] [⟨some "key",.Lambda params body scope lpos,kpos⟩] pos) (zcT sp t):=by
 refine ⟨PE.weak (znm (k:=k+1) (sp:=ziB X.K sp) L (fun f c oc vs t pm ctv hd hv=>zqt S hd hv len (hbody f c)) hb hr hm ha.pa hgs hdef hcl he hplain) ?_⟩
 rintro σ H Q ⟨W,Hi,Γ,Q',g,h,fin⟩
 refine ⟨W,Hi,Γ,_,g,h,?_⟩
 rintro vs H1 Hi1 Γ1 as s1 g1 dl ⟨ds,ks,lt,rfl,h64,hkl,hsp,hkd,q⟩
 obtain ⟨v,rfl,den⟩:=zdx dl; obtain ⟨l,xs,rfl,hl,dx⟩:=den.lstI
 refine ⟨l,xs,rfl,zL g1.sub hl,by rw [zj dx]; exact h64,fun f c fo oc H2 nl=>?_⟩
 have ex0:=PL.NewLam.ext nl g1.fz
 refine zg1 nl.has.1 nl.has.2 xs ds ks [] [] Hi1 H2 (Ext.refl ex0.fz) dx hkl hsp .nil fun acc Hi2 H3 ex da=>?_
 rw [YM] at da
 refine ⟨lt,hkd.ord,?_,fun p hp=>?_⟩
 ·rcases hkd with ⟨is,rfl,rfl⟩ | ⟨ps,rfl,rfl⟩
  ·rw [zhc da]
   exact zvr is
  ·obtain ⟨as,rfl,kt⟩:=zhb da
   exact zvq (zgZ ex.fz.sub kt)
 ·have g2:=(g1.ext ex0).ext ex
  exact fin p _ Hi2 Γ1 (.lst (zhD lt ds)) (s1.trans ex.hi) (g2.ext (Ext.newO g2.fz hp _ (fun _ z=>by cases z))) (New.mk' g2 hp ⟨_,zp,zmW hkd.ord (dx.mono ex.hi)⟩) q
end
end PL
namespace L2
open PySem PySem.Spec PyProof.Rows
def zvB (T:List (Addr × Str)) (a:Addr) (H:Hp):Prop:=∀ b u,H b=some u->(b=a/\∃ o xs,u=.frz o (.lst xs))\/∃ q,T.lookup b=some q/\u=.tbl #[.str q 0]
def zlx {P:Program} {w:World} {K:W.Frag} {mg mb:Str->Option Value} {CX:CXT} {k:Nat} {fa a:Addr} {fd:FuncData} {x:Str} {sp:Sp} {s₁:Shared} {vs:List Value} {ns:List Int} (T:List (Addr × Str))
  (KX:K.In s₁.heap) (hns:s₁.heap.Ns mainGlobals mg) (hb:s₁.heap.Ns builtinsNs mb) (hbb:∀ x:Str,x≠"__name__"->mb x=bootBuiltins x) (hlim:s₁.heap.NoLimit)
  (hbm:∃ bm ob,mg "__builtins__"=some (.ref bm)/\bm≠builtinsNs/\s₁.heap.get? bm=some ob/\ob.cls=.type "module"/\ob.dict=some builtinsNs/\ob.data=.plain) (hg:s₁.gens=#[])
  (ha:s₁.heap.get? a=some { cls:=.type "list",data:=.seq vs.toArray }) (hi:IntsAre vs ns) (hl:ns.length<=sizeLine) (hr:Room k callerA)
  (hT:∀ b q,T.lookup b=some q->s₁.heap.get? b=some (W.tabObj #[])/\(∃ c,W.codeHdIn K c b=true)/\K.lookup b=none)
  (F:∀ base:Heap,K.In base->base.Ns mainGlobals mg->(∀ b q,T.lookup b=some q->base.objs[b]?=some (zd5 q))->FnOk P w K mg base CX k fa fd [x] sp) (hbind:∀ (s:Shared) (u:Value),BindsTo s fd ⟨[u],[]⟩ [(x,u)])
  (hsp:∀ H:Hp,SqL K H a (ns.map V.int)->sp [.ref a] H (fun v _=>v=.bl true) fun _ _ _=>False)
  (hCX:∀ H e s',CX [] H s₁ (fun _ _ _=>False) e s'->False) :
  codeAny (model P w) callerA (.call (.ref fa) ⟨[.ref a],[]⟩) (fun r s'=>r=.ok (.ret (.bool true))/\OldK s₁.heap s'.heap/\s'.os=s₁.os/\AllBare s'.gens) s₁:=by
 have rv:=zgq hi; have lenV:=hi.length
 have naT:T.lookup a=none:=by
  cases q:T.lookup a with
  | none=>rfl
  | some z =>
   have e:=(hT a z q).1; rw [ha] at e; cases e
 have core:∀ H:Hp,zvB T a H->(∀ b q,T.lookup b=some q->H b=some (.tbl #[.str q 0]))->SqL K H a (ns.map V.int)->HOk P w H s₁.heap->(H a≠none->K.lookup a=none) ->
   codeAny (model P w) callerA (.call (.ref fa) ⟨[.ref a],[]⟩) (fun r s'=>r=.ok (.ret (.bool true))/\OldK s₁.heap s'.heap/\s'.os=s₁.os/\AllBare s'.gens) s₁:=by
  intro H hO hO2 hS hok hK
  have base_of:∀ {b:Addr} {o:Obj},s₁.heap.get? b=some o->H b=none->(nrm s₁.heap H).get? b=some o:=fun e n=>zql e n
  have isL:∀ {b:Addr} {u:HO} {o:Obj},H b=some u->s₁.heap.get? b=some o->(∃ its n,o.data=.seq its n)\/o.data=.fields #[]:=fun {b u o} q e=>by
   rcases hO b u q with ⟨rfl,_⟩ | ⟨z,y,_⟩
   ·rw [ha] at e; cases e
    exact .inl ⟨_,_,rfl⟩
   ·rw [(hT b z y).1] at e; cases e
    exact .inr rfl
  have noA:∀ {b:Addr} {o:Obj},s₁.heap.get? b=some o->(∀ its n,o.data≠.seq its n)->o.data≠.fields #[]->H b=none:=fun {b o} e d1 d2=>by
   cases q:H b with
   | none=>rfl
   | some u =>
    rcases isL q e with ⟨its,n,z⟩ | z
    ·exact yN z (d1 _ _)
    ·exact yN z d2
  have nsK:∀ {b:Addr} {m:Str->Option Value},s₁.heap.Ns b m->(nrm s₁.heap H).Ns b m:=fun {b m} ⟨o,es,ep,e,d,r⟩=>⟨o,es,ep,base_of e (noA e (fun _ _ z=>by rw [d] at z; cases z) (fun z=>by rw [d] at z; cases z)),d,r⟩
  have hKb:K.In (nrm s₁.heap H):=fun b o e=>base_of (KX b o e) (by
   cases q:H b with
   | none=>rfl
   | some u =>
    rcases hO b u q with ⟨rfl,_⟩ | ⟨z,y,_⟩
    ·rw [hK (by rw [q]; simp)] at e; cases e
    ·rw [(hT b z y).2.2] at e; cases e)
  have hM:Mod K mg (nrm s₁.heap H):=⟨hKb,nsK hns,⟨mb,nsK hb,hbb⟩,(let ⟨mc,h1,h2⟩:=hlim; ⟨mc,nsK h1,h2⟩),(let ⟨bm,ob,b1,b2,b3,b4,b5,b6⟩:=hbm; ⟨bm,ob,b1,b2,base_of b3 (noA b3 (fun _ _ z=>by rw [b6] at z; cases z) (fun z=>by rw [b6] at z; cases z)),b4,b5,b6⟩)⟩
  have hmk:∀ b q,T.lookup b=some q->(nrm s₁.heap H).objs[b]?=some (zd5 q):=fun b q e=>by
   rw [ziX,(zc4 (hT b q e).1).1,hO2 b q e]; rfl
  have e0:Env0 P w K mg (nrm s₁.heap H) callerA [] s₁ H:=⟨rfl,hM,fun b o e=>zsG e,Nat.le_of_eq (znE _ _),trivial,fun b hb=>yN (show b ∈ ([]:List Addr) from hb) (by simp),hok,.of_eq hg,znD _ _⟩
  refine codeAny_mono ((F _ hKb (nsK hns) hmk).run callerA [] s₁ H ⟨[.ref a],[]⟩ [.ref a] [.ref a] _ _ hr e0 (hbind s₁ (.ref a)) (.cons rfl .nil) (hsp H hS)) fun r s' h=>?_
  cases r with
  | error e=>exact (hCX H e s' h).elim
  | ok fl =>
   cases fl with
   | next=>exact False.elim h
   | brk=>exact False.elim h
   | cont=>exact False.elim h
   | ret u =>
    obtain ⟨v,H',os,bare,un,hok',r',q⟩:=h
    have q':v=.bl true:=q
    subst q'
    obtain rfl:u=Value.bool true:=r'
    have old:∀ b o,s₁.heap.get? b=some o->asItWas s₁.heap s'.heap b o/\∃ o',s'.heap.get? b=some o':=fun b o e=>by
     cases q:H b with
     | none =>
      have z:=un.keep b o e q (by intro z; exact yN (show b ∈ ([]:List Addr) from z) (by simp)) (by simp)
      exact ⟨.inl z,o,z⟩
     | some u =>
      rcases hO b u q with ⟨_,ob,xs,rfl⟩ | ⟨z,y,rfl⟩
      ·have z2:=un.frzs b ob _ q
       obtain ⟨e1,_⟩:=hok b _ q; obtain ⟨e2,_⟩:=hok' b _ z2
       rw [e] at e1; cases e1
       exact ⟨.inl e2,o,e2⟩
      ·obtain ⟨h1,⟨c,h2⟩,_⟩:=hT b z y
       rw [e] at h1; cases h1; obtain ⟨more,z2⟩:=un.tbls b _ q; obtain ⟨ts,e2,_⟩:=hok' b _ z2; refine ⟨.inr (.inl ⟨((W.codeHd_of_K KX h2).tab e).isCodeTable,rfl,#[],ts,rfl,?_⟩),_,e2⟩; rw [e2]; simp
    exact ⟨rfl,⟨fun b o e=>(old b o e).1,fun b o e=>(old b o e).2⟩,os,bare⟩
 have tb_ok:∀ (H:Hp) (b:Addr) (q:Str),T.lookup b=some q->zap P w H s₁.heap b (.tbl #[.str q 0]):=fun H b q e=>⟨#[],(hT b q e).1,trivial,fun pos cv z=>by cases z⟩
 cases hk:K.lookup a with
 | some o =>
  have e:=KX a o hk; rw [ha] at e; cases e
  refine core (fun b=>(T.lookup b).map fun q=>.tbl #[.str q 0]) (fun b u z=>?_) (fun b q z=>by show (T.lookup b).map _=_; rw [z]; rfl) (.inr ⟨_,vs.toArray,_,hk,rfl,rfl,rfl,by rw [yQ,lenV]; exact hl,by simpa using rv⟩) (fun b u z=>?_) fun z=>yN (by show (T.lookup a).map _=none; rw [naT]; rfl) z
  ·have z':(T.lookup b).map (fun q=>HO.tbl #[.str q 0])=some u:=z
   cases y:T.lookup b with
   | none=>rw [y] at z'; cases z'
   | some q=>rw [y] at z'; cases z'; exact .inr ⟨q,rfl,rfl⟩
  ·have z':(T.lookup b).map (fun q=>HO.tbl #[.str q 0])=some u:=z
   cases y:T.lookup b with
   | none=>rw [y] at z'; cases z'
   | some q=>rw [y] at z'; cases z'; exact tb_ok _ b q y
 | none =>
  refine core (fun b=>if b=a then some (.frz { cls:=.type "list",data:=.seq vs.toArray } (.lst (ns.map V.int))) else (T.lookup b).map fun q=>.tbl #[.str q 0]) (fun b u z=>?_) (fun b q z=>?_) (.inl (.inr ⟨{ cls:=.type "list",data:=.seq vs.toArray },yM rfl⟩)) (fun b u z=>?_) fun _=>hk
  ·by_cases hb:b=a
   ·have z':=(yM hb).symm.trans z
    cases z'; exact .inl ⟨hb,_,_,rfl⟩
   ·have z':=(yK hb).symm.trans z
    cases y:T.lookup b with
    | none=>rw [y] at z'; cases z'
    | some q=>rw [y] at z'; cases z'; exact .inr ⟨q,rfl,rfl⟩
  ·have hb:b≠a:=fun y=>by rw [y,naT] at z; cases z
   show (if b=a then _ else _)=_
   rw [yK hb,z]; rfl
  ·by_cases hb:b=a
   ·have z':=(yM hb).symm.trans z
    cases z'; subst hb
    exact ⟨ha,by rw [yE]; exact hl,vs,_,rv,ha⟩
   ·have z':=(yK hb).symm.trans z
    cases y:T.lookup b with
    | none=>rw [y] at z'; cases z'
    | some q=>rw [y] at z'; cases z'; exact tb_ok _ b q y
end L2
namespace PL
open PySem L2
structure LamOf (K:W.Frag) (mg:Str->Option Value) (base:Heap) (x qual:Str):Prop where
 ex:∃ c Pt,(∀ f fd oc od sl,mg x=some (.ref f)->K.lookup f=some ⟨oc,od,.func fd,sl⟩->fd.code=.ref c)/\W.codeHdIn K c Pt=true/\base.objs[Pt]?=some (zd5 qual)
 qu:x ++ ".<locals>." ++ "<lambda>"=qual
section
variable {k:Nat} {x qual:Str} {ps:List Str} {sp:Sp'}
def Df.okL {st:Stmt} {N:List Str} (d:Df K mg x st ps) (lo:LamOf K mg base x qual) (S:FnScope N ps (zl st)) (len:∀ ds Q,sp ds Q->ds.length=ps.length)
  (hbody:∀ (f:Addr) (cdv:Value) (A:Around) (outer:List Env) (s:Shared) (H:Hp) (E:XK),LamAt (zdy CX0 P w K mg base N x (zl st) f cdv A outer s H E).nox qual->Room k (A.deeper (PyProof.Rows.envOfC x (zl st) s.heap.objs.size f cdv))->∀ ds Q,sp ds Q ->
   ∃ t,PSs' (zdy CX0 P w K mg base N x (zl st) f cdv A outer s H E).nox (zak st) t/\t { nx:=fun _=>Q (.val .non),rt:=fun r _=>Q r } (zaN N ds)):Fn P w K mg base (k+1) x ps sp:=by
 obtain ⟨f,fd,F,b,m⟩:=d.ex; obtain ⟨oc,od,kV,doc,pm,an,cdv,ct,osl,e,lk,hcd⟩:=id F.ex
 obtain ⟨⟨c,Pt,hc,hC,hT⟩,qu⟩:=lo
 have hcd':=hc f fd oc od osl m lk; subst e; refine ⟨f,_,?_,b,F.kp,m,oc,od,osl,lk⟩
 refine zqL lk hcd S (fun vs H Q E h=>?_) fun A outer s H vs Q E hr h=>?_
 ·obtain ⟨Hi,ds,Q',_,dl,h,_⟩:=h
  rw [zj dl]; exact len ds Q' h
 ·obtain ⟨Hi,ds,Q',sb,dl,h,fin⟩:=h
  obtain ⟨t,h1,h2⟩:=hbody f cdv A outer s H E ⟨⟨c,Pt,hcd',hC,hT⟩,qu⟩ hr ds Q' h
  have hpl:ps.length<=N.length:=by have:=yi List.length S.pre; rw [YJ] at this; omega
  refine ⟨_,h1.h.nox,⟨H,Hi,[]⟩,Hi,zaN N ds,_,zbT (len ds Q' h) hpl sb dl,h2,?_⟩
  refine ⟨fun σ' H' Hi' Γ' s1 g1 q=>?_,fun _ _ _ _ _ _ q=>q.elim,fun _ _ _ _ _ _ q=>q.elim,fun v σ' H' Hi' Γ' r s1 g1 ro q=>?_⟩
  ·exact fin Hi' H' .non (.val .non) ⟨s1,fun b o e=>g1.keep b o e (by simp),g1.fz,fun b o e=>g1.fro b o e⟩ .non q
  ·exact fin Hi' H' v r ⟨s1,fun b o e=>g1.keep b o e (by simp),g1.fz,fun b o e=>g1.fro b o e⟩ ro q
end
def zkM (K:W.Frag) (H:Hp) (a:Addr) (ns:List Int) (hl:ns.length<=63) (hS:SqL K H a (ns.map V.int)):ziB K zjB [.ref a] H (fun v _=>v=.bl true) (fun _ _ _=>False):=by
 refine ⟨H,[.lst (ns.map .int)],fun r=>r=.val (.bl true),⟨zY.refl _,fun b xs q=>q⟩,.cons (Den.mkL hS (zji ns)) .nil,⟨ns,rfl,hl,rfl⟩,?_⟩
 rintro Hi' H' v r ex ro rfl
 exact Den.blI ro
def walk_lawT {l:W.OpenLaw} {k:Nat} {q:Program} {loose:List Str} {XP:(Str->Option Value)->Heap->Prop} {YP:World->Heap->Prop} {d:DefRec} {K:Params->W.Frag} {x:Str} (T:List (Addr × Str)) (hn:l.most=some 63) (hdf:d.params.defaults=[]) (hr:Room k callerA)
  (hY:∀ (w:World) (h:Heap),YP w h->(K w.params).In h)
  (hYT:∀ (w:World) (h:Heap),YP w h->∀ b q,T.lookup b=some q->h.get? b=some (W.tabObj #[]))
  (F:∀ (w:World) (mg:Str->Option Value) (fa:Addr) (h:Heap),(K w.params).In h->h.Ns mainGlobals mg->mg d.name=some (.ref fa) ->
   (∀ b q,T.lookup b=some q->(∃ c,W.codeHdIn (K w.params) c b=true)/\(K w.params).lookup b=none) /\
   ∃ fd:FuncData,(∀ (s:Shared) (u:Value),BindsTo s fd ⟨[u],[]⟩ [(x,u)])/\∀ base:Heap,(K w.params).In base->base.Ns mainGlobals mg->(∀ b q,T.lookup b=some q->base.objs[b]?=some (zd5 q))->FnOk l.prog w (K w.params) mg base CX0 k fa fd [x] (ziB (K w.params) zjB)) :
  W.WalkO q loose XP YP l.row.toRowW d [] (fun f vs=>PySem.call f vs):=by
 refine Att.attach_call hn hdf fun w s₀ s₁ mg mb fa o pm cd doc a vs ns G Y ho hd hcd hmg hobj hints hlen hg=>?_
 have KX:=hY w _ Y; obtain ⟨hT,fd,hb,hF⟩:=F w mg fa _ KX G.T.g hmg
 exact zlx T KX G.T.g G.T.b G.T.builtins G.T.nolimit G.T.bmain hg hobj hints (yq hlen (by decide)) hr (fun b q e=>⟨hYT w _ Y b q e,hT b q e⟩) hF hb (fun H hS=>zkM _ H a ns hlen hS) fun _ _ _ z=>z
def zjA (R:D->D->Prop):Sp':=fun ds Q=>∃ d k,ds=[d]/\R d k/\Q (.val k)
def zgx (R:D->D->Prop) {x:Str}:∀ ds Q,zjA R ds Q->ds.length=[x].length:=fun _ _ ⟨_,_,e,_⟩=>by rw [e]; rfl
def zfM {R:D->D->Prop} {x k:D} (h:R x k):zjA R [x] fun r=>r=.val k:=⟨x,k,rfl,h,rfl⟩
section
variable {pos:Pos}
end
end PL
namespace MS
open PySem L2 PL
theorem zlv:∀ (N:Nat) (l:List Nat),l.Nodup->(∀ x,x ∈ l->x<N)->l.length<=N
 | 0,l,_,h=>by
  cases l with
  | nil=>simp
  | cons a r=>exact yN (h a (by simp)) (by omega)
 | N+1,l,hd,h=>by
  by_cases e:N ∈ l
  ·have:=zlv N (l.erase N) (hd.erase N) fun x hx=>by
    have h1:=h x (List.mem_of_mem_erase hx)
    have h2:x≠N:=fun z=>by rw [z] at hx; exact (hd.not_mem_erase) hx
    omega
   rw [List.length_erase_of_mem e] at this; omega
  ·have:=zlv N l hd fun x hx=>by
    have h1:=h x hx
    have h2:x≠N:=fun z=>e (z ▸ hx)
    omega
   omega
theorem ztl:∀ (N:Nat) (l:List Nat),l.Nodup->(∀ x,x ∈ l->x<N)->l.length=N->∀ i,i<N->i ∈ l
 | 0,_,_,_,_,i,hi=>yN hi (by omega)
 | N+1,l,hd,h,hl,i,hi=>by
  by_cases e:N ∈ l
  ·by_cases z:i=N
   ·rw [z]; exact e
   ·refine List.mem_of_mem_erase (ztl N (l.erase N) (hd.erase N) (fun x hx=>?_) (by rw [List.length_erase_of_mem e]; omega) i (by omega))
    have h1:=h x (List.mem_of_mem_erase hx)
    have h2:x≠N:=fun z=>by rw [z] at hx; exact (hd.not_mem_erase) hx
    omega
  ·have:=zlv N l hd fun x hx=>by
    have h1:=h x hx
    have h2:x≠N:=fun z=>e (z ▸ hx)
    omega
   omega
def irr {lt:Nat->Nat->Bool} (o:So.Ord lt) {a:Nat} (h:So.L lt a a):False:=by
 rcases h with h | ⟨_,h⟩
 ·have:=o.asym a a h
  rw [h] at this; cases this
 ·omega
def zcq {lt:Nat->Nat->Bool} (o:So.Ord lt) {N:Nat} (hN:1<=N):(So.run lt (W.kas_sort N)).toList.Nodup/\(So.run lt (W.kas_sort N)).toList.length=N/\(∀ i,i ∈ (So.run lt (W.kas_sort N)).toList↔i<N):=by
 obtain ⟨b,s⟩:=So.sort o hN
 have hl:(So.run lt (W.kas_sort N)).toList.length=N:=by rw [YC]; exact b.size
 have lo:=(zfN o hN).2
 have gg:∀ i (hi:i<(So.run lt (W.kas_sort N)).toList.length),So.g (So.run lt (W.kas_sort N)) i=(So.run lt (W.kas_sort N)).toList[i]:=fun i hi=>by
  rw [So.g_eq]
  have hi':i<(So.run lt (W.kas_sort N)).size:=by simpa using hi
  rw [yu hi']; simp
 have nd:(So.run lt (W.kas_sort N)).toList.Nodup:=by
  rw [List.nodup_iff_pairwise_ne,List.pairwise_iff_getElem]; intro i j hi hj hij e
  have z:=s i j hij (by omega)
  rw [gg i hi,gg j hj,e] at z; exact irr o z
 exact ⟨nd,hl,fun i=>⟨lo i,ztl N _ nd lo hl i⟩⟩
section
variable {α:Type} {lt:Nat->Nat->Bool}
def srt (lt:Nat->Nat->Bool) (d:α) (ps:List α):List α:=if ps.length<2 then ps else (So.run lt (W.kas_sort ps.length)).toList.map fun i=>ps.getD i d
def zhB (o:So.Ord lt) (d:α) (ps:List α) (q:α):q ∈ srt lt d ps↔q ∈ ps:=by
 unfold srt; split
 ·rfl
 ·rename_i h
  obtain ⟨_,_,m⟩:=zcq o (N:=ps.length) (by omega)
  rw [yS]; constructor
  ·rintro ⟨i,hi,rfl⟩
   have hi':=(m i).mp hi; simp only [List.getD,yC hi',Option.getD_some]; exact Yu hi'
  ·intro hq
   obtain ⟨i,hi,e⟩:=List.getElem_of_mem hq
   exact ⟨i,(m i).mpr hi,by simp only [List.getD,yC hi,Option.getD_some]; exact e⟩
def zhC (o:So.Ord lt) (d:α) (ps:List α):(srt lt d ps).length=ps.length:=by
 unfold srt; split
 ·rfl
 ·rename_i h
  obtain ⟨_,hl,_⟩:=zcq o (N:=ps.length) (by omega)
  rw [yE,hl]
def zkI (o:So.Ord lt) (d:α) {ps:List α} (hd:ps.Nodup):(srt lt d ps).Nodup:=by
 unfold srt; split
 ·exact hd
 ·rename_i h
  obtain ⟨nd,_,m⟩:=zcq o (N:=ps.length) (by omega)
  rw [List.nodup_iff_pairwise_ne,List.pairwise_map]; refine List.Pairwise.imp_of_mem ?_ (List.nodup_iff_pairwise_ne.mp nd); intro i j hi hj hij e; have hi':=(m i).mp hi; have hj':=(m j).mp hj; simp only [List.getD,yC hi',yC hj',Option.getD_some] at e; exact hij ((List.getElem_inj hd).mp e)
def zkJ (f:α->D) (d:α) (ps:List α) (o:So.Ord lt):zhD lt (ps.map f)=(srt lt d ps).map f:=by
 unfold zhD srt; rw [yE]; split
 ·rfl
 ·rename_i h
  obtain ⟨_,_,m⟩:=zcq o (N:=ps.length) (by omega)
  rw [ym]
  refine YI fun i hi=>?_
  have hi':=(m i).mp hi; simp [List.getD,yC hi']
end
end MS
namespace M04
open PySem L2 Lb PL MT MS
abbrev Nd:=List (Pl × Pl)
def keys (ns:Nd):List Pl:=ns.map (·.1)
def zaL (ns:Nd) (p:Pl):List Pl:=(keys ns).filter fun q=>decide (q.length=p.length+1) && decide (q.dropLast=p)
structure NOk (ns:Nd):Prop where
 nil:[] ∈ keys ns
 nd:(keys ns).Nodup
 len:∀ q,q ∈ keys ns->q.length<=8
 up:∀ q,q ∈ keys ns->q.dropLast ∈ keys ns
 lab:∀ q,q ∈ keys ns->∀ l,l ∈ q->zu l=true
 many:ns.length<=400
 few:∀ p,(zaL ns p).length<=63
def zay (q:Pl):List Nat:=q.getLast?.getD []
def zbm (l:List Nat):Int × List Nat:=((PySem.intText? (st (cut l))).getD 0,zdd l)
def zt6 (q:Pl):Int × List Nat:=zbm (zay q)
def zaV (ns:Nd) (p:Pl):List Pl:=srt (ltP ((zaL ns p).map zt6)) [] (zaL ns p)
def zdB (ns:Nd) (p:Pl):Pl:=(ns.lookup p).getD []
def zbR (p:Pl) (l:List Nat):zay (p ++ [l])=l:=by simp [zay]
def zpv {p q:Pl} (h1:q.length=p.length+1) (h2:q.dropLast=p):q=p ++ [zay q]:=by
 have hne:q≠[]:=fun z=>by rw [z] at h1; simp at h1
 rw [<- h2]; unfold zay; rw [Yx hne]; exact (YS hne).symm
def zbP {ns:Nd} {p q:Pl}:q ∈ zaL ns p↔q ∈ keys ns/\q=p ++ [zay q]:=by
 unfold zaL; rw [Yg]; simp only [yr,YE]; constructor
 ·rintro ⟨h,h1,h2⟩
  exact ⟨h,zpv h1 h2⟩
 ·rintro ⟨h,e⟩
  refine ⟨h,?_,?_⟩
  ·rw [e]; simp
  ·rw [e]; simp
def zaI {ns:Nd} {p q:Pl}:q ∈ zaV ns p↔q ∈ keys ns/\q=p ++ [zay q]:=by
 unfold zaV; rw [zhB (zeC _),zbP]
def zj0 {ns:Nd} (o:NOk ns) (p:Pl):(zaV ns p).Nodup:=zkI (zeC _) _ (o.nd.sublist YO)
def zy:Nat->Nd->Pl->Tr
 | 0,ns,p=>.node (zay p) (zdB ns p) []
 | n+1,ns,p=>.node (zay p) (zdB ns p) ((zaV ns p).map (zy n ns))
def zbi (n:Nat) (ns:Nd) (p:Pl):(zy n ns p).lab=zay p:=by cases n <;> rfl
def zdV:Nat->Nd->Pl->List Pl
 | 0,_,p=>[p]
 | n+1,ns,p=>p :: (zaV ns p).flatMap (zdV n ns)
mutual
def zne:Tr->Pl->List Pl
 | .node _ _ ks,p=>p :: zfY ks p
def zfY:List Tr->Pl->List Pl
 | [],_=>[]
 | k :: ks,p=>zne k (p ++ [k.lab]) ++ zfY ks p
end
theorem ziO (p:Pl):∀ ks:List Tr,zfY ks p=ks.flatMap fun k=>zne k (p ++ [k.lab])
 | []=>by simp [zfY]
 | k :: ks=>by simp [zfY,ziO p ks]
def zpQ (t:Tr) (p:Pl):zne t p=p :: t.kds.flatMap fun k=>zne k (p ++ [k.lab]):=by
 cases t with
 | node l ws ks=>simp [zne,ziO,Tr.kds]
def zfd {α β:Type} {l:List α} {f g:α->List β} (h:∀ a,a ∈ l->f a=g a):l.flatMap f=l.flatMap g:=by
 induction l with
 | nil=>rfl
 | cons a l ih =>
  rw [List.flatMap_cons,List.flatMap_cons,h a (by simp),ih fun b hb=>h b (by simp [hb])]
theorem ziM (ns:Nd):∀ (n:Nat) (p:Pl),zne (zy n ns p) p=zdV n ns p
 | 0,p=>by simp [zy,zne,zfY,zdV]
 | n+1,p=>by
  rw [zpQ]
  show p :: ((zaV ns p).map (zy n ns)).flatMap _=p :: _
  rw [List.flatMap_map]
  congr 1
  refine zfd fun q hq=>?_
  have e:=(zaI.mp hq).2; rw [zbi,<- e]; exact ziM ns n q
def zg0 {ns:Nd} (o:NOk ns) {p:Pl} (h:8<=p.length):zaV ns p=[]:=by
 rw [List.eq_nil_iff_forall_not_mem]; intro q hq; obtain ⟨h1,h2⟩:=zaI.mp hq
 have:=o.len q h1
 rw [h2] at this
 simp at this
 omega
theorem zk3 {ns:Nd} (o:NOk ns) (p:Pl):∀ r:Pl,p ++ r.reverse ∈ keys ns->p ∈ keys ns
 | [],h=>by simpa using h
 | l :: r,h=>by
  have:=o.up _ h
  rw [List.reverse_cons,<- Ya,Yq] at this; exact zk3 o p r this
def zk4 {ns:Nd} (o:NOk ns) (r p:Pl) (h:p ++ r ∈ keys ns):p ∈ keys ns:=zk3 o p r.reverse (by rw [List.reverse_reverse]; exact h)
def zn2 {ns:Nd} (n:Nat) (p:Pl) (l:List Nat):zn l ((zaV ns p).map (zy n ns))=if p ++ [l] ∈ keys ns then some (zy n ns (p ++ [l])) else none:=by
 have key:∀ qs:List Pl,(∀ q,q ∈ qs->q=p ++ [zay q])->zn l (qs.map (zy n ns))=if p ++ [l] ∈ qs then some (zy n ns (p ++ [l])) else none:=by
  intro qs
  induction qs with
  | nil=>intro _; simp [zn]
  | cons q qs ih =>
   intro h
   have ih':=ih fun x hx=>h x (by simp [hx])
   have e:=h q (by simp)
   unfold zn at ih' ⊢
   rw [yW,YR]
   by_cases z:zay q=l
   ·have eq:q=p ++ [l]:=by rw [<- z]; exact e
    rw [zbi,z]; simp [eq]
   ·have ne:p ++ [l]≠q:=fun y=>z (by rw [<- y,zbR])
    rw [zbi]; simp only [yg z]; rw [ih']; simp [ne]
 rw [key _ fun q hq=>(zaI.mp hq).2]
 have:p ++ [l] ∈ zaV ns p↔p ++ [l] ∈ keys ns:=by
  rw [zaI,zbR]; simp
 by_cases z:p ++ [l] ∈ keys ns
 ·rw [yM z,yM (this.mpr z)]
 ·rw [yK z,yK fun y=>z (this.mp y)]
theorem zeF {ns:Nd} (o:NOk ns):∀ (r p:Pl) (n:Nat),8<=p.length+n->p ∈ keys ns->zr (zy n ns p) r=if p ++ r ∈ keys ns then some (zy (n-r.length) ns (p ++ r)) else none
 | [],p,n,_,hp=>by simp [zr,hp]
 | l :: r,p,0,h,hp=>by
  have h1:p ++ l :: r ∉ keys ns:=fun z=>by
   have:=o.len _ z
   simp at this
   omega
  simp [zy,zr,Tr.kds,zn,h1]
 | l :: r,p,n+1,h,hp=>by
  have e:p ++ l :: r=(p ++ [l]) ++ r:=by simp
  unfold zr
  show (match zn l ((zaV ns p).map (zy n ns)) with | none=>none | some k=>zr k r)=_
  rw [zn2]
  by_cases z:p ++ [l] ∈ keys ns
  ·rw [yM z]
   simp only []
   rw [zeF o r (p ++ [l]) n (by simp; omega) z,<- e]
   simp
  ·rw [yK z,yK]
   intro y; rw [e] at y; exact z (zk4 o r (p ++ [l]) y)
theorem zdo {α:Type} [DecidableEq α]:∀ (l ks:List α),l.Nodup->(∀ x,x ∈ l->x ∈ ks)->l.length<=ks.length
 | [],_,_,_=>by simp
 | a :: l,ks,hd,h=>by
  have ha:=h a (by simp)
  have hd':=yt.mp hd
  have:=zdo l (ks.erase a) hd'.2 fun x hx=>(List.mem_erase_of_ne (show x≠a from fun z=>hd'.1 (by rw [<- z]; exact hx))).mpr (h x (by simp [hx]))
  rw [List.length_erase_of_mem ha] at this
  have:0<ks.length:=List.length_pos_of_mem ha
  simp only [yo]; omega
theorem zdO {α β:Type} {f:α->List β}:∀ {l:List α},l.Nodup->(∀ a,a ∈ l->(f a).Nodup)->(∀ a b x,a ∈ l->b ∈ l->x ∈ f a->x ∈ f b->a=b)->(l.flatMap f).Nodup
 | [],_,_,_=>by simp
 | a :: l,hd,h1,h2=>by
  have hd':=yt.mp hd; rw [List.flatMap_cons,Yo]
  refine ⟨h1 a (by simp),zdO hd'.2 (fun b hb=>h1 b (by simp [hb])) (fun b c x hb hc=>h2 b c x (by simp [hb]) (by simp [hc])),fun x hx y hy e=>?_⟩
  subst e; obtain ⟨b,hb,hy⟩:=List.mem_flatMap.mp hy
  have:=h2 a b x (by simp) (by simp [hb]) hx hy
  exact hd'.1 (this ▸ hb)
theorem zdp {ns:Nd}:∀ (n:Nat) (p q:Pl),p ∈ keys ns->q ∈ zdV n ns p->q ∈ keys ns/\p <+: q
 | 0,p,q,hp,h=>by
  have:q=p:=by simpa [zdV] using h
  rw [this]; exact ⟨hp,List.prefix_refl _⟩
 | n+1,p,q,hp,h=>by
  rcases yP.mp h with rfl | h
  ·exact ⟨hp,List.prefix_refl _⟩
  ·obtain ⟨c,hc,h⟩:=List.mem_flatMap.mp h
   obtain ⟨h1,h2⟩:=zaI.mp hc; obtain ⟨h3,h4⟩:=zdp n c q h1 h
   have h5:p <+: c:=by rw [h2]; exact List.prefix_append _ _
   exact ⟨h3,h5.trans h4⟩
def ziN {c d q:Pl} (h1:c <+: q) (h2:d <+: q) (h:c.length=d.length):c=d:=by
 rw [List.prefix_iff_eq_take.mp h1,List.prefix_iff_eq_take.mp h2,h]
def zeQ {ns:Nd} {p q:Pl} (h:q ∈ zaV ns p):q.length=p.length+1:=by
 have:=(zaI.mp h).2
 rw [this]; simp
theorem zfh {ns:Nd} (o:NOk ns):∀ (n:Nat) (p:Pl),(zdV n ns p).Nodup
 | 0,p=>by simp [zdV]
 | n+1,p=>by
  show (p :: _).Nodup
  rw [yt]
  refine ⟨fun h=>?_,zdO (zj0 o p) (fun c _=>zfh o n c) fun c d q hc hd h1 h2=>?_⟩
  ·obtain ⟨c,hc,h⟩:=List.mem_flatMap.mp h
   have h4:=(zdp n c p (zaI.mp hc).1 h).2.length_le
   have:=zeQ hc
   omega
  ·exact ziN (zdp n c q (zaI.mp hc).1 h1).2 (zdp n d q (zaI.mp hd).1 h2).2 (by rw [zeQ hc,zeQ hd])
end M04
namespace PySem
section
variable {dd:Addr} {ob:Obj} {ens:Array DictEntry} {tick:Nat}
open PyProof.Rows in
end
end PySem
namespace L2
open PySem PySem.Spec PyProof.Rows PySem.W
section
variable {a:Addr}
end
section
variable {o e f:Expr} {apos cpos:Pos} {td ty tx:TE}
end
section
variable {h':Heap}
end
end L2
namespace PL
open PySem L2
section
end
end PL
namespace M70
open PySem L2 Lb PL MT MS M04
open PySem.NumText (digitsVal)
def zig (l:List Nat) (c:Nat):digitsVal (l ++ [c])=digitsVal l * 10+(c-48):=by simp [digitsVal,List.foldl_append]
theorem zje:∀ (n:Nat) {l:List Nat},l.length<=n->(∀ c ∈ l,Dig c)->l≠[]->l[0]?≠some 48->1<=digitsVal l
 | 0,l,hl,_,hn,_=>yN (List.length_eq_zero_iff.mp (by omega)) hn
 | n+1,l,hl,hd,hn,h0=>by
  rcases List.eq_nil_or_concat l with e | ⟨l',c,e⟩
  ·exact yN e hn
  ·rw [List.concat_eq_append] at e
   subst e; rw [zig]
   by_cases z:l'=[]
   ·subst z
    have:=hd c (by simp)
    have:c≠48:=fun e=>h0 (by simp [e])
    unfold Dig at *
    simp [digitsVal]; omega
   ·have:=zje n (l:=l') (by simp at hl; omega) (fun c hc=>hd c (by simp [hc])) z (by
     rw [yn (by cases l' with | nil=>exact yN rfl z | cons _ _=>simp)] at h0
     exact h0)
    omega
def ztf:∀ (n:Nat) {l m:List Nat},l.length<=n->(∀ c ∈ l,Dig c)->(∀ c ∈ m,Dig c)->l[0]?≠some 48->m[0]?≠some 48->digitsVal l=digitsVal m->l=m:=by
 intro n
 induction n with
 | zero =>
  intro l m hl h1 h2 h3 h4 e
  have:l=[]:=List.length_eq_zero_iff.mp (by omega)
  subst this
  by_cases z:m=[]
  ·rw [z]
  ·have:=zje _ (yD _) h2 z h4
   rw [<- e] at this; simp [digitsVal] at this
 | succ n ih =>
  intro l m hl h1 h2 h3 h4 e
  rcases List.eq_nil_or_concat l with z | ⟨l',c,z⟩
  ·subst z
   by_cases z:m=[]
   ·rw [z]
   ·have:=zje _ (yD _) h2 z h4
    rw [<- e] at this; simp [digitsVal] at this
  ·rcases List.eq_nil_or_concat m with y | ⟨m',d,y⟩
   ·subst y
    have:=zje _ (yD _) h1 (by rw [z]; simp) h3
    rw [e] at this; simp [digitsVal] at this
   ·rw [List.concat_eq_append] at z y
    subst z y
    rw [zig,zig] at e
    have hc:=h1 c (by simp)
    have hd:=h2 d (by simp)
    unfold Dig at hc hd
    have e1:digitsVal l'=digitsVal m':=by omega
    have e2:c=d:=by omega
    have hd:∀ (a:List Nat) (x:Nat),(a ++ [x])[0]?≠some 48->a[0]?≠some 48:=fun a x h=>by
     cases a with
     | nil=>simp
     | cons y r=>simpa using h
    rw [ih (by simp at hl; omega) (fun x hx=>h1 x (by simp [hx])) (fun x hx=>h2 x (by simp [hx])) (hd _ _ h3) (hd _ _ h4) e1,e2]
def zhf {l:List Nat} (h:zu l=true):(∀ c ∈ cut l,Dig c)/\(cut l)[0]?≠some 48/\PySem.intText? (st (cut l))=some ((digitsVal (cut l):Nat):Int):=by
 unfold zu at h; simp only [yr,YE,Yk] at h
 obtain ⟨⟨⟨⟨a1,a2⟩,b⟩,c⟩,d⟩:=h
 have hd:∀ x ∈ cut l,Dig x:=fun x hx=>(zed x).mp (by simpa [dig] using c x hx)
 refine ⟨hd,b,?_⟩
 have q:=PySem.intText_digits (x:=st (cut l)) (by rw [zad]; exact hd) (by rw [zad]; exact fun z=>by rw [z] at a1; simp at a1) (by rw [zbC]; omega)
 rw [zad] at q; exact q
def zi3 {l m:List Nat} (hl:zu l=true) (hm:zu m=true) (e:zbm l=zbm m):l=m:=by
 obtain ⟨a1,a2,a3⟩:=zhf hl; obtain ⟨b1,b2,b3⟩:=zhf hm; unfold zbm at e; rw [a3,b3] at e
 injection e with e1 e2
 have e3:digitsVal (cut l)=digitsVal (cut m):=by
  simp only [Option.getD_some] at e1; omega
 rw [<- zgf l,<- zgf m,e2,ztf _ (yD _) a1 b1 a2 b2 e3]
def klt (p q:Int × List Nat):Prop:=p.1<q.1\/(p.1=q.1/\p.2<q.2)
def zh9 (p:Int × List Nat):¬ klt p p:=by
 rintro (h | ⟨_,h⟩)
 ·omega
 ·exact List.lt_irrefl _ h
def znM {p q:Int × List Nat} (h:klt p q):¬ klt q p:=by
 rintro (h' | ⟨h1,h2⟩)
 ·rcases h with h | ⟨h,_⟩ <;> omega
 ·rcases h with h | ⟨_,h⟩
  ·omega
  ·exact List.lt_irrefl _ (List.lt_trans h h2)
def zlD (p q:Int × List Nat):klt p q\/klt q p\/p=q:=by
 unfold klt
 rcases Int.lt_trichotomy p.1 q.1 with h | h | h
 ·exact .inl (.inl h)
 ·by_cases h1:p.2<q.2
  ·exact .inl (.inr ⟨h,h1⟩)
  ·by_cases h2:q.2<p.2
   ·exact .inr (.inl (.inr ⟨h.symm,h2⟩))
   ·refine .inr (.inr (Prod.ext h ?_))
    exact List.le_antisymm (List.not_lt.mp h2) (List.not_lt.mp h1)
 ·exact .inr (.inl (.inl h))
def Ris (L:List (List Nat)):Prop:=L.Pairwise fun a b=>klt (zbm a) (zbm b)
def Ris.nodup {L:List (List Nat)} (h:Ris L):L.Nodup:=by
 rw [List.nodup_iff_pairwise_ne]; refine List.Pairwise.imp ?_ h; intro a b hk e; rw [e] at hk; exact zh9 _ hk
theorem zfQ:∀ {L M:List (List Nat)},Ris L->Ris M->(∀ x,x ∈ L↔x ∈ M)->L=M
 | [],[],_,_,_=>rfl
 | [],b :: M,_,_,h=>yN ((h b).mpr yR) (by simp)
 | a :: L,[],_,_,h=>yN ((h a).mp yR) (by simp)
 | a :: L,b :: M,h1,h2,h=>by
  unfold Ris at h1 h2; rw [List.pairwise_cons] at h1 h2
  have e:a=b:=by
   rcases yP.mp ((h a).mp yR) with z | z
   ·exact z
   ·rcases yP.mp ((h b).mpr yR) with y | y
    ·exact y.symm
    ·exact yN (h2.1 a z) (znM (h1.1 b y))
  subst e
  have:L=M:=zfQ h1.2 h2.2 fun x=>by
   constructor
   ·intro hx
    rcases yP.mp ((h x).mp (yL _ hx)) with z | z
    ·exact yN (h1.1 x hx) (by rw [z]; exact zh9 _)
    ·exact z
   ·intro hx
    rcases yP.mp ((h x).mpr (yL _ hx)) with z | z
    ·exact yN (h2.1 x hx) (by rw [z]; exact zh9 _)
    ·exact z
  rw [this]
def zep {ls:List (List Nat)} (nd:ls.Nodup) (hp:∀ l ∈ ls,zu l=true):Ris (srt (ltP (ls.map zbm)) [] ls):=by
 unfold srt; split
 ·rename_i h
  match ls,h with
  | [],_=>exact .nil
  | [a],_=>exact List.pairwise_singleton _ _
 ·rename_i h
  have o:=zeC (ls.map zbm)
  obtain ⟨nd2,hl,m⟩:=zcq o (N:=ls.length) (by omega)
  obtain ⟨b,s⟩:=So.sort o (N:=ls.length) (by omega)
  have hsz:(So.run (ltP (ls.map zbm)) (W.kas_sort ls.length)).size=ls.length:=b.size
  unfold Ris; rw [List.pairwise_map,List.pairwise_iff_getElem]; intro i j hi hj hij
  have z:=s i j hij (by omega)
  have gg:∀ i (hi:i<(So.run (ltP (ls.map zbm)) (W.kas_sort ls.length)).toList.length),So.g (So.run (ltP (ls.map zbm)) (W.kas_sort ls.length)) i=(So.run (ltP (ls.map zbm)) (W.kas_sort ls.length)).toList[i]:=fun i hi=>by
   rw [So.g_eq]
   have hi':i<(So.run (ltP (ls.map zbm)) (W.kas_sort ls.length)).size:=by simpa using hi
   rw [yu hi']; simp
  rw [gg i hi,gg j hj] at z; have ha:=(m _).mp (Yu hi); have hb:=(m _).mp (Yu hj)
  have hne:(So.run (ltP (ls.map zbm)) (W.kas_sort ls.length)).toList[i]≠(So.run (ltP (ls.map zbm)) (W.kas_sort ls.length)).toList[j]:=fun e=>by
   have:=(List.getElem_inj nd2).mp e
   omega
  generalize (So.run (ltP (ls.map zbm)) (W.kas_sort ls.length)).toList[i]=a at *; generalize (So.run (ltP (ls.map zbm)) (W.kas_sort ls.length)).toList[j]=c at *; simp only [List.getD,yC ha,yC hb,Option.getD_some]
  have k1:∀ x (hx:x<ls.length),(ls.map zbm).getD x (0,[])=zbm ls[x]:=fun x hx=>by simp [List.getD,yH,yC hx]
  have lt_iff:∀ x y (hx:x<ls.length) (hy:y<ls.length),ltP (ls.map zbm) x y=true↔klt (zbm ls[x]) (zbm ls[y]):=fun x y hx hy=>by
   unfold ltP klt; rw [k1 x hx,k1 y hy]; simp only [YE]
  rcases z with z | ⟨z,_⟩
  ·exact (lt_iff a c ha hb).mp z
  ·rcases zlD (zbm ls[a]) (zbm ls[c]) with y | y | y
   ·exact y
   ·rw [(lt_iff c a hb ha).mpr y] at z
    cases z
   ·exact yN ((List.getElem_inj nd).mp (zi3 (hp _ (Yu ha)) (hp _ (Yu hb)) y)) hne
def zjC (ls:List (List Nat)):List (List Nat):=srt (ltP (ls.map zbm)) [] ls
def zeq (ls:List (List Nat)) (l:List Nat):l ∈ zjC ls↔l ∈ ls:=zhB (zeC _) _ _ _
end M70
namespace M71
open PySem L2 Lb PL MT MS M04 M70
def zn4 (l:List Nat) (ws:Pl) (ks:List Tr):(Tr.node l ws ks).kds=ks:=rfl
def labs (ks:List Tr):List (List Nat):=ks.map Tr.lab
def zbS {l:List Nat} {ks:List Tr} {k:Tr} (h:zn l ks=some k):k ∈ ks/\k.lab=l:=by
 unfold zn at h
 exact ⟨List.mem_of_find?_eq_some h,by simpa using List.find?_some h⟩
def zc7 {l:List Nat} {ks:List Tr}:zn l ks=none↔l ∉ labs ks:=by
 unfold zn labs; rw [List.find?_eq_none,yS]; constructor
 ·rintro h ⟨k,hk,e⟩
  exact h k hk (by simpa using e)
 ·intro h k hk e
  exact h ⟨k,hk,by simpa using e⟩
def zeP {l:List Nat} {ks:List Tr} (h:l ∈ labs ks):∃ k,zn l ks=some k:=by
 cases e:zn l ks with
 | none=>exact yN h (zc7.mp e)
 | some k=>exact ⟨k,rfl⟩
theorem zaK:∀ {ks:List Tr} {k:Tr},(labs ks).Nodup->k ∈ ks->zn k.lab ks=some k
 | k' :: ks,k,hn,h=>by
  unfold labs at hn; rw [yW,yt] at hn
  rcases yP.mp h with rfl | h
  ·simp [zn]
  ·have ne:¬ k'.lab=k.lab:=fun e=>hn.1 (by rw [e]; exact yX h)
   have:=zaK (ks:=ks) hn.2 h
   unfold zn at this ⊢
   rw [YR]; simp [ne,this]
def zvA (acc:List Tr) (k:Tr):List Tr:=if k.lab ∈ labs acc then acc else acc ++ [k]
def ddp (ks:List Tr):List Tr:=ks.foldl zvA []
structure Ddp (ks acc:List Tr):Prop where
 nd:(labs acc).Nodup
 mem:∀ k ∈ acc,k ∈ ks
 cov:∀ k ∈ ks,k.lab ∈ labs acc
 len:acc.length<=ks.length
def zga (a b:List Tr):labs (a ++ b)=labs a ++ labs b:=YQ
def Ddp.add {ks acc:List Tr} (h:Ddp ks acc) (k:Tr):Ddp (ks ++ [k]) (zvA acc k):=by
 unfold zvA; split
 ·rename_i e
  refine ⟨h.nd,fun x hx=>Yp _ (h.mem x hx),fun x hx=>?_,by have:=h.len; simp; omega⟩
  rcases ye.mp hx with z | z
  ·exact h.cov x z
  ·rw [yd.mp z]; exact e
 ·rename_i e
  refine ⟨?_,fun x hx=>?_,fun x hx=>?_,by have:=h.len; simp; omega⟩
  ·rw [zga,Yo]
   refine ⟨h.nd,by simp [labs],fun a ha b hb z=>?_⟩
   have:b=k.lab:=by simpa [labs] using hb
   exact e (by rw [<- this,<- z]; exact ha)
  ·rcases ye.mp hx with z | z
   ·exact Yp _ (h.mem x z)
   ·exact yc _ z
  ·rw [zga]
   rcases ye.mp hx with z | z
   ·exact Yp _ (h.cov x z)
   ·rw [yd.mp z]; simp [labs]
theorem zjk (ks:List Tr):∀ i,i<=ks.length->Ddp (ks.take i) (ddp (ks.take i))
 | 0,_=>⟨by simp [ddp,labs],fun k h=>by simp [ddp] at h,fun k h=>by simp at h,by simp [ddp]⟩
 | i+1,h=>by
  have e:ks.take (i+1)=ks.take i ++ [ks[i]'(by omega)]:=(List.take_append_getElem (by omega)).symm
  rw [e]
  have:=(zjk ks i (by omega)).add (ks[i]'(by omega))
  unfold ddp at this ⊢
  rw [List.foldl_append]; exact this
def zfz (ks:List Tr):Ddp ks (ddp ks):=by
 have:=zjk ks ks.length (yD _)
 rwa [List.take_length] at this
def zki (L:List (List Nat)) (acc:List Tr):List Tr:=L.filterMap fun l=>zn l acc
theorem zgI:∀ {L:List (List Nat)} {acc:List Tr},(∀ l ∈ L,l ∈ labs acc)->labs (zki L acc)=L
 | [],_,_=>rfl
 | l :: L,acc,h=>by
  obtain ⟨k,hk⟩:=zeP (h l yR)
  have ih:=zgI (L:=L) (acc:=acc) fun l hl=>h l (yL _ hl)
  unfold zki at ih ⊢
  rw [List.filterMap_cons_some (f:=fun l=>zn l acc) hk]
  unfold labs at ih ⊢
  rw [yW,ih,(zbS hk).2]
def zec {L:List (List Nat)} {acc:List Tr} {k:Tr} (h:k ∈ zki L acc):k ∈ acc:=by
 obtain ⟨l,_,e⟩:=List.mem_filterMap.mp h; exact (zbS e).1
inductive Wf (c:Nat):Nat->Tr->Prop where
 | mk {n:Nat} {l:List Nat} {ws:Pl} {ks:List Tr} (hk:∀ k ∈ ks,Wf c n k) (hp:∀ k ∈ ks,zu k.lab=true) (hn:Ris (labs ks)) (hl:ks.length<=c+1) (hw:ws.length<=3 * c+3):Wf c (n+1) (.node l ws ks)
def Wf.pos {c n:Nat} {t:Tr} (h:Wf c n t):∃ m,n=m+1:=by cases h; exact ⟨_,rfl⟩
def Wf.kid {c n:Nat} {t:Tr} (h:Wf c (n+1) t):∀ k ∈ t.kds,Wf c n k:=by cases h; assumption
def Wf.plab {c n:Nat} {t:Tr} (h:Wf c n t):∀ k ∈ t.kds,zu k.lab=true:=by cases h; assumption
def Wf.ris {c n:Nat} {t:Tr} (h:Wf c n t):Ris (labs t.kds):=by cases h; assumption
def Wf.nd {c n:Nat} {t:Tr} (h:Wf c n t):(labs t.kds).Nodup:=h.ris.nodup
def Wf.few {c n:Nat} {t:Tr} (h:Wf c n t):t.kds.length<=c+1:=by cases h; assumption
def Wf.wfew {c n:Nat} {t:Tr} (h:Wf c n t):t.wds.length<=3 * c+3:=by cases h; assumption
def Wf.mk' {c n:Nat} {t:Tr} (hk:∀ k ∈ t.kds,Wf c n k) (hp:∀ k ∈ t.kds,zu k.lab=true) (hn:Ris (labs t.kds)) (hl:t.kds.length<=c+1) (hw:t.wds.length<=3 * c+3):Wf c (n+1) t:=by
 cases t with
 | node l ws ks=>exact .mk hk hp hn hl hw
def Wf.up {c n:Nat} {t:Tr} (h:Wf c n t):∀ {d m:Nat},c<=d->n<=m->Wf d m t:=by
 induction h with
 | @mk n l ws ks hk hp hn hl hw ih =>
  intro d m h1 h2
  obtain ⟨m',rfl⟩:∃ m',m=m'+1:=⟨m-1,by omega⟩
  exact .mk (fun k hk'=>ih k hk' h1 (by omega)) hp hn (by omega) (by omega)
def Wf.kw {c n:Nat} {t k:Tr} {l:List Nat} (h:Wf c (n+1) t) (e:zn l t.kds=some k):Wf c n k:=h.kid k (zbS e).1
theorem Wf.at {c:Nat}:∀ {p:Pl} {n:Nat} {t nd:Tr},Wf c n t->zr t p=some nd->p.length<n/\Wf c (n-p.length) nd
 | [],n,t,nd,h,e=>by
  obtain ⟨m,rfl⟩:=h.pos; simp only [zr,Option.some.injEq] at e; subst e
  exact ⟨by simp,by simpa using h⟩
 | l :: p,n,t,nd,h,e=>by
  obtain ⟨m,rfl⟩:=h.pos; simp only [zr] at e
  cases hk:zn l t.kds with
  | none=>rw [hk] at e; cases e
  | some k =>
   rw [hk] at e; obtain ⟨a,b⟩:=Wf.at (h.kw hk) e; rw [yo]
   refine ⟨by omega,?_⟩
   rw [show m+1-(p.length+1)=m-p.length by omega]
   exact b
mutual
def cnt:Tr->Nat
 | .node _ _ ks=>1+zo5 ks
def zo5:List Tr->Nat
 | []=>0
 | k :: ks=>cnt k+zo5 ks
end
theorem zme:∀ ks:List Tr,zo5 ks=(ks.map cnt).sum
 | []=>by simp [zo5]
 | k :: ks=>by simp [zo5,zme ks]
def zmf (t:Tr):cnt t=1+(t.kds.map cnt).sum:=by
 cases t with
 | node l ws ks=>simp [cnt,zme,Tr.kds]
mutual
theorem ziP:∀ (t:Tr) (p:Pl),(zne t p).length=cnt t
 | .node l ws ks,p=>by simp only [zne,cnt,yo,zgH ks p]; omega
theorem zgH:∀ (ks:List Tr) (p:Pl),(zfY ks p).length=zo5 ks
 | [],p=>by simp [zfY,zo5]
 | k :: ks,p=>by simp only [zfY,zo5,yV,ziP k _,zgH ks p]
end
def zkH {α:Type} (f:α->Nat) (a b:List α):((a ++ b).map f).sum=(a.map f).sum+(b.map f).sum:=by rw [YQ,List.sum_append]
theorem zhy (f:Tr->Nat):∀ {ks' ks:List Tr},(labs ks').Nodup->(∀ k ∈ ks',k ∈ ks)->(ks'.map f).sum<=(ks.map f).sum
 | [],ks,_,_=>by simp
 | k :: ks',ks,hn,h=>by
  unfold labs at hn; rw [yW,yt] at hn; obtain ⟨a,b,e⟩:=List.append_of_mem (h k yR)
  have ih:=zhy f (ks':=ks') (ks:=a ++ b) hn.2 fun x hx=>by
   have hm:=h x (yL _ hx); rw [e] at hm
   rcases ye.mp hm with z | z
   ·exact Yp _ z
   ·rcases yP.mp z with z | z
    ·exact yN (yX hx) (by rw [z]; exact hn.1)
    ·exact yc _ z
  rw [e,zkH,yW,List.sum_cons,yW,List.sum_cons]; rw [zkH] at ih; omega
theorem zhz {α:Type}:∀ l:List α,(l.map fun _=>1).sum=l.length
 | []=>rfl
 | a :: l=>by rw [yW,List.sum_cons,zhz l,yo]; omega
structure KidsOk (ks ks':List Tr):Prop where
 ris:Ris (labs ks')
 mem:∀ k ∈ ks',k ∈ ks
 len:ks'.length<=ks.length
 cnt:(ks'.map cnt).sum<=(ks.map cnt).sum
def KidsOk.of {ks ks':List Tr} (h1:Ris (labs ks')) (h2:∀ k ∈ ks',k ∈ ks):KidsOk ks ks' :=
 ⟨h1,h2,by have:=zhy (fun _=>1) h1.nodup h2; rwa [zhz,zhz] at this,zhy _ h1.nodup h2⟩
def KidsOk.nd {ks ks':List Tr} (h:KidsOk ks ks'):(labs ks').Nodup:=h.ris.nodup
def zqz {ks:List Tr} {L:List (List Nat)} (h1:Ris L) (h2:∀ l,l ∈ L->l ∈ labs (ddp ks)):KidsOk ks (zki L (ddp ks)):=by
 refine .of ?_ fun k hk=>(zfz ks).mem k (zec hk)
 rw [zgI h2]; exact h1
def zc9 (ks:List Tr):List Tr:=zki (zjC (labs (ddp ks))) (ddp ks)
def zef {ks:List Tr} (hp:∀ k ∈ ks,zu k.lab=true):KidsOk ks (zc9 ks):=by
 refine zqz (zep (zfz ks).nd fun l hl=>?_) fun l hl=>(zeq _ _).mp hl
 obtain ⟨k,hk,rfl⟩:=yS.mp hl; exact hp k ((zfz ks).mem k hk)
def zco {ks:List Tr} (hn:(labs ks).Nodup) {x:Tr}:x ∈ zc9 ks↔x ∈ ks:=by
 constructor
 ·intro h
  exact (zfz ks).mem x (zec h)
 ·intro h
  have hl:=(zfz ks).cov x h; obtain ⟨k,hk⟩:=zeP hl; obtain ⟨k1,k2⟩:=zbS hk; have e1:=zaK hn ((zfz ks).mem k k1); have e2:=zaK hn h; rw [k2,e2] at e1; rw [<- Option.some.inj e1] at hk; exact List.mem_filterMap.mpr ⟨x.lab,(zeq _ _).mpr hl,hk⟩
def zcc:Tr->Pl->Pl->List Tr->Tr
 | t,[],ws,ks=>.node t.lab ws ks
 | t,l :: p,ws,ks=>.node t.lab t.wds (t.kds.map fun k=>if k.lab=l then zcc k p ws ks else k)
def zcF (t:Tr) (p ws:Pl) (ks:List Tr):(zcc t p ws ks).lab=t.lab:=by cases p <;> simp [zcc,Tr.lab]
def zlp {l:List Nat} {p ws:Pl} {ks:List Tr} (r:List Tr):labs (r.map fun k=>if k.lab=l then zcc k p ws ks else k)=labs r:=by
 unfold labs; rw [ym]
 refine YI fun k _=>?_
 simp only [Function.comp]; split
 ·exact zcF _ _ _ _
 ·rfl
theorem zh7 {c:Nat} {ws:Pl} {ks:List Tr}:∀ {p:Pl} {n:Nat} {t nd:Tr},Wf c n t->zr t p=some nd->Wf c (n-p.length) (.node nd.lab ws ks)->Wf c n (zcc t p ws ks)
 | [],n,t,nd,h,e,h'=>by
  simp only [zr,Option.some.injEq] at e; subst e
  simpa [zcc] using h'
 | l :: p,n,t,nd,h,e,h'=>by
  obtain ⟨m,rfl⟩:=h.pos; simp only [zr] at e
  cases hk:zn l t.kds with
  | none=>rw [hk] at e; cases e
  | some k =>
   rw [hk] at e
   rw [yo,show m+1-(p.length+1)=m-p.length by omega] at h'
   have hm:=zh7 (h.kw hk) e h'; simp only [zcc]
   have each:∀ k' ∈ (t.kds.map fun k=>if k.lab=l then zcc k p ws ks else k),Wf c m k'/\zu k'.lab=true:=by
    intro k' hk'; obtain ⟨k0,h0,rfl⟩:=yS.mp hk'
    by_cases e0:k0.lab=l
    ·have:k0=k:=by
      have:=zaK h.nd h0
      rw [e0,hk] at this; exact (Option.some.inj this).symm
     rw [yM e0]
     exact ⟨by rw [this]; exact hm,by rw [zcF]; exact h.plab k0 h0⟩
    ·rw [yK e0]
     exact ⟨h.kid k0 h0,h.plab k0 h0⟩
   exact .mk (fun k' h=>(each k' h).1) (fun k' h=>(each k' h).2) (by rw [zlp]; exact h.ris) (by rw [yE]; exact h.few) h.wfew
theorem zfZ:∀ (L:List (List Nat)) (acc:List Tr),(labs (zki L acc)).Sublist L
 | [],acc=>.slnil
 | l :: L,acc=>by
  unfold zki; rw [List.filterMap_cons]
  cases e:zn l acc with
  | none=>exact .cons _ (zfZ L acc)
  | some k =>
   unfold labs; rw [yW,(zbS e).2]; exact .cons_cons _ (zfZ L acc)
def ziR {L:List (List Nat)} {ks:List Tr} (h1:Ris L) (h2:Ris (labs ks)) (h3:∀ l ∈ labs ks,l ∈ L):zki L ks=ks:=by
 have e:labs (zki L ks)=labs ks:=by
  refine zfQ (List.Pairwise.sublist (zfZ L ks) h1) h2 fun l=>?_
  constructor
  ·intro h
   obtain ⟨k,hk,rfl⟩:=yS.mp h; exact yX (zec hk)
  ·intro h
   obtain ⟨k,hk⟩:=zeP h
   have h':k ∈ zki L ks:=List.mem_filterMap.mpr ⟨l,h3 l h,hk⟩
   rw [<- (zbS hk).2]; exact yX h'
 have hn:=h2.nodup
 have hm:∀ k ∈ zki L ks,k ∈ ks:=fun k hk=>zec hk
 have:∀ a b:List Tr,labs a=labs b->(∀ k ∈ a,k ∈ ks)->(∀ k ∈ b,k ∈ ks)->a=b:=by
  intro a
  induction a with
  | nil=>intro b h _ _; cases b with
   | nil=>rfl
   | cons _ _=>simp [labs] at h
  | cons x a ih =>
   intro b h ha hb
   cases b with
   | nil=>simp [labs] at h
   | cons y b =>
    unfold labs at h; rw [yW,yW] at h
    injection h with h1 h2
    have e1:=zaK hn (ha x yR); have e2:=zaK hn (hb y yR); rw [h1,e2] at e1
    rw [Option.some.inj e1,ih b h2 (fun k hk=>ha k (yL _ hk)) fun k hk=>hb k (yL _ hk)]
 exact this _ _ e hm fun k hk=>hk
def zqr {c:Nat} {l:List Nat} {ws:Pl} (h:ws.length<=3 * c+3):Wf c 1 (.node l ws []):=.mk (fun k hk=>nomatch hk) (fun k hk=>nomatch hk) .nil (by simp) h
def zqm {c n:Nat} {l:List Nat} {ws:Pl} {ks ks':List Tr} (h:KidsOk ks ks') (hk:∀ k ∈ ks,Wf c n k) (hp:∀ k ∈ ks,zu k.lab=true) (hl:ks.length<=c+1) (hw:ws.length<=3 * c+3):Wf c (n+1) (.node l ws ks') :=
 .mk (fun k hk'=>hk k (h.mem k hk')) (fun k hk'=>hp k (h.mem k hk')) h.ris (by have:=h.len; omega) hw
def zsx {c:Nat} {t nd:Tr} {p:Pl} {ks':List Tr} (h:Wf c 9 t) (hn:zr t p=some nd) (sb:ks'.Sublist nd.kds):Wf (c+1) 9 (zcc t p nd.wds ks'):=by
 obtain ⟨a,b⟩:=h.at hn; obtain ⟨m,hm⟩:=b.pos
 refine zh7 (h.up (by omega) (yD _)) hn ?_
 rw [hm] at b ⊢
 exact .mk (fun k hk=>(b.kid k (sb.subset hk)).up (by omega) (yD _)) (fun k hk=>b.plab k (sb.subset hk)) (List.Pairwise.sublist (sb.map _) b.ris) (by have:=b.few; have:=sb.length_le; omega) (by have:=b.wfew; omega)
end M71
namespace L2
open PySem PySem.Spec PyProof.Rows
section
end
end L2
namespace PL
open PySem L2
section
end
end PL
namespace M71
open PySem L2 Lb PL MT MS M04 M70
theorem zo0 {f:D->D->Option Bool}:∀ {ks js:List Tr},(∀ k ∈ ks,∀ j ∈ js,∃ b,f (trD k) (trD j)=some b/\(b=true↔k=j))->∃ b,eqL f (ks.map trD) (js.map trD)=some b/\(b=true↔ks=js)
 | [],[],_=>⟨true,rfl,by simp⟩
 | [],_ :: _,_=>⟨false,rfl,by simp⟩
 | _ :: _,[],_=>⟨false,rfl,by simp⟩
 | k :: ks,j :: js,h=>by
  obtain ⟨a,e1,i1⟩:=h k yR j yR
  obtain ⟨b,e2,i2⟩:=zo0 (f:=f) (ks:=ks) (js:=js) fun x hx y hy=>h x (yL _ hx) y (yL _ hy)
  refine ⟨a && b,?_,?_⟩
  ·show (match f (trD k) (trD j),eqL f (ks.map trD) (js.map trD) with
    | some a,some b=>some (a && b)
    | _,_=>none)=_
   rw [e1,e2]
  ·rw [yr,i1,i2]
   simp
theorem zo1 {c d:Nat}:∀ {n:Nat} {t u:Tr},Wf c n t->Wf d n u->∀ m,2 * n+1<=m->∃ b,eqD m (trD t) (trD u)=some b/\(b=true↔t=u)
 | 0,t,u,h,_,_,_=>by cases h
 | n+1,.node l ws ks,.node l' ws' ks',h1,h2,m,hm=>by
  obtain ⟨m,rfl⟩:∃ k,m=k+1+1:=⟨m-2,by omega⟩
  obtain ⟨b,e,i⟩:=zo0 (f:=eqD m) (ks:=ks) (js:=ks') fun k hk j hj=>zo1 (h1.kid k hk) (h2.kid j hj) m (by omega)
  refine ⟨decide (l=l') && (decide (ws=ws') && (b && true)),?_,?_⟩
  ·rw [zai,zai]
   show eqL (eqD (m+1)) [.str l,plc ws,.tup (ks.map trD)] [.str l',plc ws',.tup (ks'.map trD)]=_
   simp only [eqL,zlT,zif]
   rw [show eqD (m+1) (.tup (ks.map trD)) (.tup (ks'.map trD))=eqL (eqD m) (ks.map trD) (ks'.map trD) from rfl,e]
  ·simp only [yr,YE,i,and_true]
   constructor
   ·rintro ⟨rfl,rfl,rfl⟩; rfl
   ·intro z; injection z with z1 z2 z3; exact ⟨z1,z2,z3⟩
end M71
namespace PL
open PySem L2
section
variable {n:Nat} {W:Wd} {Hi:Hp} {Γ:Sts} {i:Nat} {o:OD} {b:Addr}
def zoU:Hol K fun z=>z:=fun b Hi v o h dv=>by
 cases dv.adrI
 exact h
def Good.ownBk (g:Good K n W Hi Γ σ H) (hi:i<n) (e:Γ[i]?=some (.own o)):∃ a,σ[i]?=some (some (.ref a))/\W.H₀ a=none/\Good K n W Hi (Γ.set i (.bk (fun z=>z) a o)) σ H:=by
 obtain ⟨a,h1,h2,h3,h4⟩:=g.own i _ e
 have h1':σ[i]?=some (some (.ref a)):=by
  unfold adr at h1; rw [yM hi] at h1; exact zdK h1
 refine ⟨a,h1',h3 hi,g.len,g.fz,g.keep,g.there,g.fro,fun j d' q=>?_,fun j o2 q=>?_,fun j k o o' c q1 q2 p1 p2=>?_,fun j d' c xs q=>?_⟩
 ·rcases zW q with ⟨_,z⟩ | ⟨_,z⟩
  ·cases z
  ·exact g.val j d' z
 ·rcases zW q with ⟨_,z⟩ | ⟨_,z⟩
  ·cases z
  ·exact g.own j o2 z
 ·rcases zW q1 with ⟨_,z⟩ | ⟨_,z⟩
  ·cases z
  ·rcases zW q2 with ⟨_,y⟩ | ⟨_,y⟩
   ·cases y
   ·exact g.apart j k o o' c z y p1 p2
 ·rcases zW q with ⟨ej,z⟩ | ⟨hj,z⟩
  ·cases z
   subst ej
   refine ⟨⟨_,h1',.adr a⟩,zoU,h2,fun _=>h3 hi,h4,fun k d2 ys q=>?_,fun k o' q w=>?_⟩
   ·rcases zW q with ⟨z,_⟩ | ⟨_,y⟩
    ·exact z
    ·exact yN h1 ((g.bk k _ _ _ y).ne _ _ e)
   ·rcases zW q with ⟨_,y⟩ | ⟨hk,y⟩
    ·cases y
    ·exact hk (g.apart k _ _ _ _ y e w h1)
  ·obtain ⟨p0,p1,p2,p3,p4,p5,p6⟩:=g.bk j d' c _ z
   refine ⟨p0,p1,p2,p3,p4,fun k d2 ys q=>?_,fun k o' q=>?_⟩
   ·rcases zW q with ⟨_,y⟩ | ⟨_,y⟩
    ·cases y
     exact yN h1 (p6 _ _ e)
    ·exact p5 k _ _ y
   ·rcases zW q with ⟨_,y⟩ | ⟨_,y⟩
    ·cases y
    ·exact p6 k o' y
def Good.bkOwn (g:Good K n W Hi Γ σ H) (hi:i<n) (e:Γ[i]?=some (.bk (fun z=>z) b o)) (h0:W.H₀ b=none):Good K n W Hi (Γ.set i (.own o)) σ H:=by
 have B:=g.bk i _ _ _ e
 have ai:adr n W σ i=some b:=by
  obtain ⟨v,v1,v2⟩:=B.val
  cases v2.adrI
  unfold adr; rw [yM hi,v1]; rfl
 refine ⟨g.len,g.fz,g.keep,g.there,g.fro,fun j d' q=>?_,fun j o2 q=>?_,fun j k o o' c q1 q2 p1 p2=>?_,fun j d' c xs q=>?_⟩
 ·rcases zW q with ⟨_,z⟩ | ⟨_,z⟩
  ·cases z
  ·exact g.val j d' z
 ·rcases zW q with ⟨ej,z⟩ | ⟨_,z⟩
  ·cases z
   subst ej
   exact ⟨b,ai,B.hi,fun _=>h0,B.at_⟩
  ·exact g.own j o2 z
 ·rcases zW q1 with ⟨e1,z⟩ | ⟨h1,z⟩
  ·rcases zW q2 with ⟨e2,y⟩ | ⟨_,y⟩
   ·rw [e1,e2]
   ·rw [e1,ai] at p1
    cases p1; exact yN p2 (B.ne k o' y)
  ·rcases zW q2 with ⟨e2,y⟩ | ⟨_,y⟩
   ·rw [e2,ai] at p2
    cases p2; exact yN p1 (B.ne j o z)
   ·exact g.apart j k o o' c z y p1 p2
 ·rcases zW q with ⟨_,z⟩ | ⟨hj,z⟩
  ·cases z
  ·obtain ⟨p0,p1,p2,p3,p4,p5,p6⟩:=g.bk j d' c _ z
   refine ⟨p0,p1,p2,p3,p4,fun k d2 ys q=>?_,fun k o' q w=>?_⟩
   ·rcases zW q with ⟨_,y⟩ | ⟨_,y⟩
    ·cases y
    ·exact p5 k _ _ y
   ·rcases zW q with ⟨ek,y⟩ | ⟨_,y⟩
    ·rw [ek,ai] at w
     cases w; exact hj (B.one j _ _ z)
    ·exact p6 k o' y w
end
section
def zqq (i j:Int) (l m:List Nat):zkj [.int i,.str (st l)] [.int j,.str (st m)]=decide (i<j\/(i=j/\l<m)):=by
 rw [zeJ]
 by_cases h:i=j
 ·rw [yM (yi V.int h),zeJ]
  by_cases e:l=m
  ·subst e
   rw [yM rfl]
   have hn:¬ (i<j\/(i=j/\l<l)):=by
    rintro (z | ⟨_,z⟩)
    ·omega
    ·exact List.lt_irrefl _ z
   exact (yg hn).symm
  ·rw [yK (fun q=>e (L2.st_inj (V.str.inj q)))]
   show decide ((st l).cps.toList<(st m).cps.toList)=_
   rw [zad,zad]
   refine decide_eq_decide.mpr ⟨fun z=>.inr ⟨h,z⟩,?_⟩
   rintro (z | ⟨_,z⟩)
   ·omega
   ·exact z
 ·rw [yK (fun q=>h (V.int.inj q))]
  show decide (i<j)=_
  refine decide_eq_decide.mpr ⟨.inl,?_⟩
  rintro (z | ⟨z,_⟩)
  ·exact z
  ·exact yN z h
def zwn:R2':=fun x y Q=>∃ i l j m,x=.tup [.int i,.str l]/\y=.tup [.int j,.str m]/\Q (.bl (decide (i<j\/(i=j/\l<m))))
def zu6 (hu:X.A.units<cLine):Op2 X (compareOp .Lt) zwn:=⟨_,zsB hu,by
 rintro Hi H x y dx dy Q Q2 s d1 d2 ⟨i,l,j,m,rfl,rfl,q⟩ fin
 obtain ⟨a,xs,rfl,hx,dl⟩:=d1.tupI; obtain ⟨b,ys,rfl,hy,dm⟩:=d2.tupI; obtain ⟨v,w,rfl,e1,e2⟩:=zhd dl; obtain ⟨v',w',rfl,e1',e2'⟩:=zhd dm; rw [e1.intI,e2.strI] at hx; rw [e1'.intI,e2'.strI] at hy
 refine ⟨a,b,_,_,rfl,rfl,zR s.sub hx,zR s.sub hy,(show _/\_/\True from ⟨rfl,rfl,True.intro⟩),?_⟩
 rw [zqq]; exact fin Hi H _ _ (Ext.refl s) (.bl _) q⟩
def brN (i:Nat) (b:Addr) (N:Ends'):Ends':={ nx:=fun Γ1=>∃ o',Γ1[i]?=some (.bk (fun z=>z) b o')/\N.nx (Γ1.set i (.own o')),rt:=N.rt,bk:=fun Γ1=>∃ o',Γ1[i]?=some (.bk (fun z=>z) b o')/\N.bk (Γ1.set i (.own o')),ct:=fun Γ1=>∃ o',Γ1[i]?=some (.bk (fun z=>z) b o')/\N.ct (Γ1.set i (.own o')) }
def tBr (n i:Nat) (t:TS'):TS':=fun N Γ=>i<n/\∃ o,Γ[i]?=some (.own o)/\∀ b,t (brN i b N) (Γ.set i (.bk (fun z=>z) b o))
def zuV (i:Nat) {s:Stmt} {t:TS'} (h:PS' X s t):PS' X s (tBr X.N.length i t):=by
 refine ⟨PS.weak h.h ?_⟩
 rintro N2 σ H ⟨W,Hi,Γ,N,g,⟨hi,o,e,q⟩,l⟩
 obtain ⟨b,hσ,h0,g1⟩:=g.ownBk hi e; refine ⟨W,Hi,_,_,g1,q b,?_⟩
 exact ⟨fun σ' H' Hi' Γ' s1 g' ⟨o',e',q'⟩=>l.nx σ' H' Hi' _ s1 (g'.bkOwn hi e' h0) q',fun σ' H' Hi' Γ' s1 g' ⟨o',e',q'⟩=>l.bk σ' H' Hi' _ s1 (g'.bkOwn hi e' h0) q',fun σ' H' Hi' Γ' s1 g' ⟨o',e',q'⟩=>l.ct σ' H' Hi' _ s1 (g'.bkOwn hi e' h0) q',fun v σ' H' Hi' Γ' r s1 g' ro q'=>l.rt v σ' H' Hi' Γ' r s1 g' ro q'⟩
def zts {i:Nat} {b:Addr} {N N':Ends'} (h:N.le N'):(brN i b N).le (brN i b N'):=⟨fun _ ⟨o',e',z⟩=>⟨o',e',h.nx _ z⟩,h.rt,fun _ ⟨o',e',z⟩=>⟨o',e',h.bk _ z⟩,fun _ ⟨o',e',z⟩=>⟨o',e',h.ct _ z⟩⟩
instance {n i:Nat} {t:TS'} [MS t]:MS (tBr n i t):=⟨fun N N' Γ h ⟨a,o,e,q⟩=>⟨a,o,e,fun b=>MS.mono (t:=t) _ _ _ (zts h) (q b)⟩⟩
end
abbrev SpM:=OD->List D->(D->OD->Prop)->Prop
def zrN (K:W.Frag) (j:Nat) (sp:SpM):Sp:=fun vs H Q2 _=>∃ Hi b o v1 v2 ds Q,vs=v1 ++ .ref b :: v2/\v1.length=j/\zaU K Hi (v1 ++ v2) ds/\Fz Hi H/\Hi b=none/\za5 K Hi H b o/\sp o ds Q /\
 ∀ Hi' H' v' r o',ExtB b Hi H Hi' H'->Den K Hi' v' r->za5 K Hi' H' b o'->Q r o'->Q2 v' H'
structure FnM (P:Program) (w:World) (K:W.Frag) (mg:Str->Option Value) (base:Heap) (k:Nat) (x:Str) (ps:List Str) (j:Nat) (sp:SpM):Prop where
 ex:∃ f fd,FnOk P w K mg base CX0 k f fd ps (zrN K j sp)/\zb7 K fd ps []/\W.keepIn K (.ref f)=true/\mg x=some (.ref f)
class MSpM (sp:SpM):Prop where
 mono:∀ o ds Q Q',(∀ r o',Q r o'->Q' r o')->sp o ds Q->sp o ds Q'
abbrev TM':=Sts->(List D->List D->Sts->Prop)->Prop
def zv7 (K:W.Frag) (n i j:Nat) (t:TM'):TA:=fun σ H Q2=>∃ W Hi Γ Q,Good K n W Hi Γ σ H/\t Γ Q/\∀ vs H' Hi' Γ' d1 d2 b v1 v2,zY Hi Hi'->Good K n W Hi' Γ' σ H'->vs=v1 ++ .ref b :: v2->v1.length=j->σ[i]?=some (some (.ref b))->zaU K Hi' v1 d1->zaU K Hi' v2 d2->Q d1 d2 Γ'->Q2 vs H'
structure PM' (X:Cx) (i j:Nat) (es:List Expr) (t:TM'):Prop where
 pa:PA X es (zv7 X.K X.N.length i j t)
 pl:zbE es=true
class MM (t:TM'):Prop where
 mono:∀ Γ Q Q',(∀ d1 d2 Γ',Q d1 d2 Γ'->Q' d1 d2 Γ')->t Γ Q->t Γ Q'
section
def zdc (i:Nat) (t:TA'):TM':=fun Γ Q=>(∃ b o,Γ[i]?=some (.bk (fun z=>z) b o))/\t Γ fun ds Γ1=>Q [] ds Γ1
def zk7 (i:Nat) {y:Str} {q:Pos} {es:List Expr} {t:TA'} (ha:PA' X es t) (hN:X.N[i]?=some y:=by rfl) (hv:Vis X.env.scope y:=by first | exact JA rfl | exact Yd (JA rfl) | exact Yd (Yd rfl)) (hd:yyD y:=by decide)
  (hcd:(y == ("__classdict__":Str))=false:=by decide):PM' X i 0 (.Name y q :: es) (zdc i t):=by
 refine ⟨PA.weak (zck (zd1 (i:=i) (pos:=q) hN hv hd hcd) ha.pa (zS rfl)) ?_,by unfold zbE; rw [ha.pl]; rfl⟩
 rintro σ H Q ⟨W,Hi,Γ,Q',g,⟨⟨b,o,e⟩,h⟩,fin⟩
 obtain ⟨v,hv',dv⟩:=(g.bk i _ _ _ e).val
 cases dv.adrI
 refine ⟨.ref b,hv',W,Hi,Γ,_,g,h,?_⟩; intro vs H1 Hi1 Γ1 ds s1 g1 dl q1; exact fin _ H1 Hi1 Γ1 [] ds b [] vs s1 g1 rfl rfl hv' .nil dl q1
instance {i:Nat} {t:TA'} [MA t]:MM (zdc i t):=⟨fun Γ _ _ h ⟨a,q⟩=>⟨a,MA.mono (t:=t) Γ _ _ (fun _ _ z=>h _ _ _ z) q⟩⟩
def zdg (i:Nat) (sp:SpM) (t:TM'):TE':=fun Γ Q=>t Γ fun d1 d2 Γ1=>∃ b o,Γ1[i]?=some (.bk (fun z=>z) b o)/\sp o (d1 ++ d2) fun r o'=>Q r (Γ1.set i (.bk (fun z=>z) b o'))
def ziS {i j k:Nat} {x:Str} {ps:List Str} {sp:SpM} {es:List Expr} {t:TM'} {p pos:Pos} {e:Expr} (h:FnM X.prog X.w X.K X.mg X.base k x ps j sp) (hr:Room k X.A) (ha:PM' X i j (e :: es) t) (hg:Gl X x:=by rfl) (hdb:yyD x:=by decide) :
  PE' X (.Call (.Name x p) (e :: es) [] pos) (zdg i sp t):=by
 obtain ⟨f,fd,F,bd,hk,hm⟩:=h.ex; obtain ⟨p1,p2⟩:=zx ha.pl; refine ⟨PE.weak (zhP (E:=E0) (dvs:=[]) F hr hg hm hk bd .nil zqc ha.pa hdb (zS p1) (zae p2)) ?_⟩
 rintro σ H Q ⟨W,Hi,Γ,Q',g,h,fin⟩
 refine ⟨W,Hi,Γ,_,g,h,?_⟩
 rintro vs H1 Hi1 Γ1 d1 d2 b' v1 v2 s1 g1 ev hj hb dl1 dl2 ⟨b,o,e1,q1⟩
 have B:=g1.bk i _ b o e1; obtain ⟨v,hv1,dv⟩:=B.val
 cases dv.adrI
 rw [hb] at hv1; cases hv1; rw [yb]; refine ⟨Hi1,b',o,v1,v2,d1 ++ d2,_,ev,hj,zat dl1 dl2,g1.fz,B.hi,B.at_,q1,?_⟩; intro Hi2 H2 v' r o' ex den at_ q2; exact fin v' H2 ⟨Hi2,r,_,s1.trans ex.hi,g1.extB e1 ex at_,den,q2⟩
instance {i:Nat} {sp:SpM} {t:TM'} [MSpM sp] [MM t]:ME (zdg i sp t):=⟨fun Γ _ _ h q=>MM.mono (t:=t) Γ _ _ (fun _ _ _ ⟨b,o,e,z⟩=>⟨b,o,e,MSpM.mono (sp:=sp) _ _ _ _ (fun _ _ w=>h _ _ w) z⟩) q⟩
end
def zdZ (N:List Str) (j:Nat) (b:Addr) (o:OD) (ds:List D):Sts:=(ds.take j).map .val ++ .bk (fun z=>z) b o :: ((ds.drop j).map .val ++ List.replicate (N.length-(ds.length+1)) .emp)
def zbo {N:List Str} {j:Nat} {b:Addr} {o:OD} {ds:List D} (hj:j<=ds.length) {k:Nat} {s:Slot} (e:(zdZ N j b o ds)[k]?=some s):(k=j/\s=.bk (fun z=>z) b o)\/s=.emp\/∃ d,s=.val d/\((k<j/\ds[k]?=some d)\/(j<k/\ds[k-1]?=some d)):=by
 unfold zdZ at e
 have hl:((ds.take j).map Slot.val).length=j:=by rw [yE,YJ]; omega
 rcases Nat.lt_trichotomy k j with h | h | h
 ·rw [yn (by rw [hl]; exact h),yH,List.getElem?_take,yM h] at e
  obtain ⟨d,hd,rfl⟩:=YY.mp e; exact .inr (.inr ⟨d,rfl,.inl ⟨h,hd⟩⟩)
 ·rw [yz (by rw [hl]; omega),hl,h,Nat.sub_self] at e
  exact .inl ⟨h,(Option.some.inj e).symm⟩
 ·rw [yz (by rw [hl]; omega),hl] at e
  obtain ⟨m,hm⟩:∃ m,k-j=m+1:=⟨k-j-1,by omega⟩
  rw [hm,List.getElem?_cons_succ] at e
  by_cases hlt:m<(ds.drop j).length
  ·rw [yn (by rw [yE]; exact hlt),yH] at e
   obtain ⟨d,hd,rfl⟩:=YY.mp e
   rw [List.getElem?_drop,show j+m=k-1 by omega] at hd
   exact .inr (.inr ⟨d,rfl,.inr ⟨h,hd⟩⟩)
  ·rw [yz (by rw [yE]; omega),List.getElem?_replicate] at e
   split at e
   ·exact .inr (.inl (Option.some.inj e).symm)
   ·cases e
def zib {K:W.Frag} {N ps:List Str} {v1 v2:List V} {j:Nat} {b:Addr} {o:OD} {ds:List D} {Hi H:Hp} (hlen:ds.length+1=ps.length) (hpl:ps.length<=N.length) (hj:v1.length=j) (sb:Fz Hi H) (hb:Hi b=none) (at_:za5 K Hi H b o) (dl:zaU K Hi (v1 ++ v2) ds) :
  Good K N.length ⟨H,Hi,[b]⟩ Hi (zdZ N j b o ds) (L2.start N (v1 ++ .ref b :: v2)) H:=by
 have hvl:=zj dl; rw [yV] at hvl
 have hjd:j<=ds.length:=by omega
 have st:∀ k:Nat,k<ds.length+1->(L2.start N (v1 ++ .ref b :: v2))[k]?=((v1 ++ .ref b :: v2)[k]?).map some:=fun k hk=>by
  unfold L2.start
  rw [yn (by rw [yE,yV,yo]; omega),yH]
 refine ⟨?_,sb,fun a o e _=>e,fun a o e=>⟨o,e⟩,fun a o e=>rfl,fun k d' e=>?_,fun k o' e=>?_,fun k l o1 o2 a e=>?_,fun k d' b' o' e=>?_⟩
 ·unfold L2.start
  rw [yV,yE,List.length_replicate,yV,yo]; omega
 ·rcases zbo hjd e with ⟨_,z⟩ | z | ⟨d2,z,h⟩
  ·cases z
  ·cases z
  ·cases z
   rcases h with ⟨hk,hd⟩ | ⟨hk,hd⟩
   ·obtain ⟨w,e1,dw⟩:=zX dl hd
    rw [yn (by omega)] at e1
    refine ⟨w,?_,dw⟩
    rw [st k (by omega),yn (by omega),e1]
    rfl
   ·obtain ⟨w,e1,dw⟩:=zX dl hd
    have hk1:=(yG.mp hd).1
    rw [yz (by omega)] at e1
    refine ⟨w,?_,dw⟩
    obtain ⟨m,hm⟩:∃ m,k-v1.length=m+1:=⟨k-v1.length-1,by omega⟩
    rw [st k (by omega),yz (by omega),hm,List.getElem?_cons_succ,show m=k-1-v1.length by omega,e1]
    rfl
 ·rcases zbo hjd e with ⟨_,z⟩ | z | ⟨d2,z,_⟩ <;> cases z
 ·rcases zbo hjd e with ⟨_,z⟩ | z | ⟨d2,z,_⟩ <;> cases z
 ·rcases zbo hjd e with ⟨hk,z⟩ | z | ⟨d2,z,_⟩
  ·cases z
   refine ⟨⟨.ref b,?_,.adr b⟩,zoU,hb,fun z=>yN (yd.mpr rfl) z,at_,fun l d2 o2 q=>?_,fun l o2 q=>?_⟩
   ·rw [st k (by omega),yz (by omega),hk,hj,Nat.sub_self]
    rfl
   ·rcases zbo hjd q with ⟨hl,z⟩ | z | ⟨d2,z,_⟩
    ·rw [hl,hk]
    ·cases z
    ·cases z
   ·rcases zbo hjd q with ⟨hl,z⟩ | z | ⟨d2,z,_⟩ <;> cases z
  ·cases z
  ·cases z
section
def Fun.okM {x qual:Str} {st:Stmt} {f:Addr} {fd:FuncData} {N ps:List Str} {k j:Nat} {sp:SpM} (F:Fun K x qual st f fd) (S:FnScope N ps (zl st)) (len:∀ o ds Q,sp o ds Q->ds.length+1=ps.length)
  (hbody:∀ (cdv:Value) (A:Around) (outer:List Env) (s:Shared) (H:Hp) (E:XK),Room k (A.deeper (PyProof.Rows.envOfC qual (zl st) s.heap.objs.size f cdv))->∀ b o ds Q,sp o ds Q ->
   ∃ t,PSs' (zdy CX0 P w K mg base N qual (zl st) f cdv A outer s H E).nox (zak st) t/\t { nx:=fun Γ=>∃ o',Γ[j]?=some (.bk (fun z=>z) b o')/\Q .non o',rt:=fun r Γ=>∃ o' d',r=.val d'/\Γ[j]?=some (.bk (fun z=>z) b o')/\Q d' o' } (zdZ N j b o ds)):FnOk P w K mg base CX0 (k+1) f fd ps (zrN K j sp):=by
 refine F.ok S (fun vs H Q E h=>?_) (fun cdv A outer s H vs Q E hr h=>?_)
 ·obtain ⟨Hi,b,o,v1,v2,ds,Q',rfl,_,dl,_,_,_,h,_⟩:=h
  have:=len o ds Q' h
  have hl:=zj dl; rw [yV] at hl; rw [yV,yo]; omega
 obtain ⟨Hi,b,o,v1,v2,ds,Q',rfl,hj,dl,sb,hb,at_,h,fin⟩:=h; obtain ⟨t,h1,h2⟩:=hbody cdv A outer s H E hr b o ds Q' h; have hlen:=len o ds Q' h
 have hpl:ps.length<=N.length:=by have:=yi List.length S.pre; rw [YJ] at this; omega
 refine ⟨_,h1.h,⟨H,Hi,[b]⟩,Hi,zdZ N j b o ds,_,zib hlen hpl hj sb hb at_ dl,h2,?_⟩
 have ex:∀ {σ':St} {H' Hi':Hp} {Γ':Sts},zY Hi Hi'->Good K N.length ⟨H,Hi,[b]⟩ Hi' Γ' σ' H'->ExtB b Hi H Hi' H':=fun s1 g1 =>
  ⟨s1,fun a o ne e=>g1.keep a o e (by simpa using ne),g1.fz,fun a o e=>g1.fro a o e⟩
 refine ⟨fun σ' H' Hi' Γ' s1 g1 q=>?_,fun _ _ _ _ _ _ q=>q.elim,fun _ _ _ _ _ _ q=>q.elim,fun v σ' H' Hi' Γ' r s1 g1 ro q=>?_⟩
 ·obtain ⟨o',e,q⟩:=q
  exact fin Hi' H' .non .non o' (ex s1 g1) .non (g1.bk j _ b o' e).at_ q
 ·obtain ⟨o',d',rfl,e,q⟩:=q
  exact fin Hi' H' v d' o' (ex s1 g1) ro (g1.bk j _ b o' e).at_ q
def Df.okM {k j:Nat} {x:Str} {ps:List Str} {sp:SpM} {st:Stmt} {N:List Str} (d:Df K mg x st ps) (S:FnScope N ps (zl st)) (len:∀ o ds Q,sp o ds Q->ds.length+1=ps.length)
  (hbody:∀ (f:Addr) (cdv:Value) (A:Around) (outer:List Env) (s:Shared) (H:Hp) (E:XK),Room k (A.deeper (PyProof.Rows.envOfC x (zl st) s.heap.objs.size f cdv))->∀ b o ds Q,sp o ds Q ->
   ∃ t,PSs' (zdy CX0 P w K mg base N x (zl st) f cdv A outer s H E).nox (zak st) t/\t { nx:=fun Γ=>∃ o',Γ[j]?=some (.bk (fun z=>z) b o')/\Q .non o',rt:=fun r Γ=>∃ o' d',r=.val d'/\Γ[j]?=some (.bk (fun z=>z) b o')/\Q d' o' } (zdZ N j b o ds)):FnM P w K mg base (k+1) x ps j sp:=by
 obtain ⟨f,fd,F,b,m⟩:=d.ex; exact ⟨f,fd,PL.Fun.okM F S len (hbody f),b,F.kp,m⟩
end
section
end
section
variable {e a b c:Expr} {pos:Pos}
end
end PL
namespace L2
open PySem PySem.Spec PyProof.Rows
section
end
end L2
namespace PL
open PySem L2
section
end
end PL
namespace PL
open PySem L2 PySem.Spec PyProof.Rows
section
end
end PL
namespace L2
open PySem PySem.Spec PyProof.Rows Zp
section
end
end L2
namespace PL
open PySem L2
section
end
end PL
namespace L2
open PySem PySem.Spec PyProof.Rows
section
variable {K:Type} [DecidableEq K] {knd:HeapKind prog w K} {d a:Addr} {k:K} {xs:List (K × Addr × Value)}
end
section
variable {a:Addr} {y d:V} {u r:Value} {o:Option V}
end
section
variable {o e:Expr} {apos cpos:Pos} {td ty:TE}
end
end L2
namespace PL
open PySem L2
section
def zod {Hi H:Hp} {b:Addr} {u':HO} (s:Fz Hi H) (hb:Hi b=none) {u:HO} (hu:H b=some u) (nt:∀ xs,u≠.tup xs) (nt':∀ xs,u'≠.tup xs):ExtB b Hi H Hi (upd H b u'):=by
 refine ⟨zY.refl _,fun a o ne q=>by rw [zq ne]; exact q,⟨fun a o q=>?_,fun a xs q=>?_⟩,fun _ _ _=>rfl⟩
 ·rw [zq (fun z=>by rw [z,hb] at q; cases q)]
  exact s.sub a o q
 ·by_cases z:a=b
  ·subst z
   rw [zp] at q; exact yN (Option.some.inj q) (nt' xs)
  ·rw [zq z] at q
   exact s.tups a xs q
def zmS:TO':=fun Γ Q=>Q (.dit []) Γ
def zpT {pos:Pos}:PO' X (.Dict [] [] pos) zmS:=by
 refine ⟨PE.weak zp7 ?_⟩
 rintro σ H Q ⟨W,Hi,Γ,Q',g,q,fin⟩
 intro p hp
 exact fin p _ Hi Γ (.dit []) (zY.refl _) (g.ext (Ext.newO g.fz hp _ (fun _ z=>by cases z))) (New.mk' g hp ⟨[],0,zp,.nil⟩) q
def zkF (i:Nat) (tk tv:TE'):TS':=fun N Γ=>tv Γ fun v Γ1=>(∃ b0 ds0,Γ1[i]?=some (.bk (fun z=>z) b0 (.dit ds0)))/\tk Γ1 fun k Γ2=>∃ (b:Addr) (ds:List (D × D)) (ks:List Key),Γ2[i]?=some (.bk (fun z=>z) b (.dit ds))/\k=.tup (ks.map keyD)/\ds.length<sizeLine/\N.nx (Γ2.set i (.bk (fun z=>z) b (.dit (zkm ds k v))))
def znd (hu:X.A.units+1<cLine) (i:Nat) {x:Str} {k value:Expr} {tk tv:TE'} {p pos pos':Pos} (hk:PE' X k tk) (hv:PE' X value tv) (hN:X.N[i]?=some x:=by rfl) (hvi:Vis X.env.scope x:=by first | exact JA rfl | exact Yd (JA rfl) | exact Yd (Yd rfl)) (hd:yyD x:=by decide)
  (hcd:(x == ("__classdict__":Str))=false:=by decide) (hs:swapsWith value (some (.Subscript (.Name x p) k pos')) pos.line X.env=pure false:=by rfl) :
  PS' X (.Assign [.Subscript (.Name x p) k pos'] value pos) (zkF i tk tv):=by
 refine ⟨PS.weak (zk2 hu (zd1 (i:=i) (pos:=p) hN hvi hd hcd) hk.h hv.h hs) ?_⟩
 rintro N2 σ H ⟨W,Hi,Γ,N,g,q,l⟩
 refine ⟨W,Hi,Γ,_,g,q,?_⟩
 rintro v H1 ⟨Hi1,d,Γ1,s1,g1,den,⟨b0,ds0,e0⟩,q1⟩
 obtain ⟨v0,hv0,den0⟩:=(g1.bk i _ _ _ e0).val
 cases den0.adrI
 refine ⟨.ref b0,hv0,W,Hi1,Γ1,_,g1,q1,?_⟩
 rintro y H2 ⟨Hi2,dk,Γ2,s2,g2,den2,b,ds,ks,e2,rfl,hl,q2⟩
 have B:=g2.bk i _ _ _ e2; obtain ⟨v2,hv2,dv2⟩:=B.val
 cases dv2.adrI
 rw [hv0] at hv2; cases hv2; obtain ⟨kvs,ep,k4,k5⟩:=B.at_; obtain ⟨c,rfl,hb⟩:=zdw den2
 refine ⟨b0,kvs,ep,ks,c,rfl,k4,rfl,g2.sub _ _ hb,by rw [zj k5]; exact hl,fun ep'=>?_⟩
 exact l.nx σ _ Hi2 _ (s1.trans s2) (g2.extB (xs':=.dit (zkm ds (.tup (ks.map keyD)) d)) e2 (zod g2.fz B.hi k4 (fun _ z=>by cases z) (fun _ z=>by cases z)) ⟨_,_,zp,zuT k5 ks (den.mono s2)⟩) q2
open Classical in
end
end PL
namespace Itm
open PySem
section
variable {d:Addr} {o:Obj} {es:Array DictEntry} {ep:Nat}
end
end Itm
namespace L2
open PySem PySem.Spec PyProof.Rows Zp
section
end
end L2
namespace PL
open PySem L2
section
end
section
variable {K:PySem.W.Frag}
end
end PL
namespace EnK
open PySem
open AutoSeq1 (wpAny_loadPart')
section
end
end EnK
namespace L2
open PySem PySem.Spec PyProof.Rows Zp EnK
section
end
end L2
namespace PL
open PySem L2
section
end
section
variable {K:PySem.W.Frag}
end
section
end
end PL
namespace L2
open PySem PySem.Spec PyProof.Rows PySem.W
def cxX (CX:CXT) (P:Program) (w:World) (K:W.Frag) (mg:Str->Option Value) (base:Heap) (N:List Str) (qual:Str) (scope:Scope) (f:Addr) (cd:Value) (cl:List (Str × Addr)) (A:Around) (outer:List Env) (s:Shared) (H:Hp) (E:XK):Cx where
 prog:=P
 w:=w
 K:=K
 mg:=mg
 base:=base
 A:=A.deeper (envX qual scope s.heap.objs.size f cd cl)
 N:=N
 s₀:=s
 H₀:=H
 env:=envX qual scope s.heap.objs.size f cd cl
 outer:=outer
 stack:=envX qual scope s.heap.objs.size f cd cl :: outer
 ex:=[]
 calm:=true
 fn:=fun _=>false
 pn:=[]
 xe:=fun e s'=>wpAny (model P w) (A.deeper (envX qual scope s.heap.objs.size f cd cl)) (leaving (envX qual scope s.heap.objs.size f cd cl) e) (fun _ s''=>CX outer H s E e s'') (fun e' s''=>CX outer H s E e' s'') s'
structure LamSc (p x:Str) (sc:Scope):Prop where
 kind:sc.kind=.function
 co:sc.isCoroutine=false
 gen:sc.isGenerator=false
 par:sc.names.lookup p=some .local
 nocell:∀ y ∈ sc.names,y.2≠.cell
 isf:sc.names.lookup x=some .free
 free:∀ y ∈ sc.names,y.2=.free->y.1=x
def lk1 {x y:Str} {c d:Addr} (h:[(x,c)].lookup y=some d):y=x/\d=c:=by
 simp only [yY,List.lookup_nil] at h; split at h
 ·rename_i e
  exact ⟨by simpa using e,(Option.some.inj h).symm⟩
 ·cases h
def zj2 {CX:CXT} {P:Program} {w:World} {K:W.Frag} {mg:Str->Option Value} {base:Heap} {p x:Str} {qual:Str} {scope:Scope} {f c:Addr} {cd:Value} {A:Around} {outer:List Env} {s:Shared} {H:Hp} {E:XK} {u ux:Value} {v vx:V} {h1:Heap} {tk:Nat}
  (S:LamSc p x scope) (hd:A.handled=none) (e0:Env0 P w K mg base A outer s H) (r:zaw v u) (rx:zaw vx ux) (hc:s.heap.IsCell c (some ux)) (fc:H c=none)
  (hns:h1.Ns s.heap.objs.size fun y=>([(p,u)]:List (Str × Value)).reverse.lookup y) (hk:∀ b o,s.heap.get? b=some o->h1.get? b=some o) :
  Inv (cxX CX P w K mg base [p,x] qual scope f cd [(x,c)] A outer s H E) [] [some v,some vx] H { s with heap:=h1,toks:=tk }:=by
 have noA:∀ b:Addr,b ∉ (cxX CX P w K mg base [p,x] qual scope f cd [(x,c)] A outer s H E).ex:=fun b z=>yN (show b ∈ ([]:List Addr) from z) (by simp)
 have hc1:h1.IsCell c (some ux):=by
  obtain ⟨o,ho,hd⟩:=hc; exact ⟨o,hk _ _ ho,hd⟩
 refine ⟨⟨e0.mod,S.kind,rfl,rfl,yD _,fun y z c' q1 q2=>?_,fun y hy=>?_,fun y c' z _=>(nomatch z),fun _=>hd,Around.frames_deeper e0.frames,.inr ⟨rfl,rfl⟩,fun b z=>yN z (noA b),e0.bs,e0.bsz,fun b _ _=>noA b,fun b z=>yN z (noA b),e0.funs,e0.frf,e0.tab⟩,
  rfl,e0.bare,Un.kept hk,⟨_,hns,fun i y a q1 q2 q3=>?_⟩,fun y c' q=>?_,e0.hok.fresh (yD _),fun y c' q=>?_,fun b hb=>yN (show b ∈ ([]:yyL) from hb) (by simp),e0.hok.kept hk,rfl⟩
 ·rw [(lk1 q1).1,(lk1 q2).1]
 ·have hy:scope.names.lookup y=some .cell\/scope.names.lookup y=some .free:=hy
  rcases hy with hy | hy
  ·exact yN rfl (S.nocell _ (Yh hy))
  ·have e:=S.free _ (Yh hy) rfl
   subst e
   exact ⟨c,by show [(y,c)].lookup y=_; simp⟩
 ·match i,q1,q2 with
  | 0,q1,q2 =>
   cases q1; cases q2
   exact ⟨u,r,.inl ⟨S.par,by simp⟩⟩
  | 1,q1,q2 =>
   cases q1; cases q2
   exact ⟨ux,rx,.inr ⟨.inr S.isf,c,by show [(x,c)].lookup x=_; simp,hc1⟩⟩
  | i+2,q1,q2=>cases q1
 ·obtain ⟨rfl,rfl⟩:=lk1 (show [(x,c)].lookup y=some c' from q)
  exact ⟨_,hc1⟩
 ·obtain ⟨rfl,rfl⟩:=lk1 (show [(x,c)].lookup y=some c' from q)
  exact fc
section
end
section
def zuu (cl:List (Str × Addr)) (qual:Str) (params:Arguments) (body:Expr) (scope:Scope):TE:=fun _ H Q=>∀ (f c:Addr) (oc:Obj) (vs:Array Value) (t:Tok) (pm ctv:Value) (H2:Hp),oc.data=.fields vs->vs[1]?=some (.str qual t)->NewLam H H2 f c (zcn cl qual params body scope pm c ctv) oc->Q (.ref f) H2
def zp4 {cl:List (Str × Addr)} {qual:Str} {params:Arguments} {body:Expr} {scope:Scope} {lpos:Pos} (L:LamAt X qual) (hcl:closureFor scope X.env=pure cl) (hdef:defaultsOf params X.env=([],[])):PE X (.Lambda params body scope lpos) (zuu cl qual params body scope):=by
 obtain ⟨⟨c,Pt,hc,hC,hT⟩,rfl⟩:=L
 intro pins s σ H Q I h; exact zgY I hc hC hT hdef hcl h
abbrev I3:=Int × Int × Int
end
section
variable {o e:Expr} {apos cpos:Pos} {td ty:TE}
end
end L2
namespace PL
open PySem L2
section
def zov (R:D->D->D->Prop):Sp':=fun ds Q=>∃ d x k,ds=[d,x]/\R d x k/\Q (.val k)
end
end PL
namespace L2
open PySem PySem.Spec PyProof.Rows PySem.W
abbrev Jt:=Shared->Hp->Prop
structure JK (J:Jt):Prop where
 keep:∀ {fs:List Addr} {s s':Shared} {H H':Hp},J s H->Un fs [] H H' s.heap s'.heap->J s' H'
def JK.and {J J':Jt} (a:JK J) (b:JK J'):JK fun s H=>J s H/\J' s H:=⟨fun h u=>⟨a.keep h.1 u,b.keep h.2 u⟩⟩
def zv0 (f c:Addr) (fo oc:Obj):Jt:=fun _ H=>H f=some (zbn (.inr fo))/\H c=some (zbn (.inr oc))
def zs2 (f c:Addr) (fo oc:Obj):JK (zv0 f c fo oc):=⟨fun h u=>⟨u.frzs _ _ _ h.1,u.frzs _ _ _ h.2⟩⟩
structure FnJ0 (P:Program) (w:World) (K:W.Frag) (mg:Str->Option Value) (base:Heap) (J:Jt) (k:Nat) (f:Addr) (fd:FuncData) (ps:List Str) (sp:Sp):Prop where
 len:∀ vs H Q E,sp vs H Q E->vs.length=ps.length
 run:∀ (A:Around) (outer:List Env) (s:Shared) (H:Hp) (args:Args) (us:List Value) (vs:List V) (Q:VK) (E:XK),Room k A->Env0 P w K mg base A outer s H->BindsTo s fd args (ps.zip us)->zah vs us->J s H->sp vs H Q E ->
  codeAny (model P w) A (.call (.ref f) args) (CR CX0 outer P w H s Q E) s
section
variable {J:Jt} {k:Nat} {f:Addr} {fd:FuncData} {ps:List Str} {sp:Sp}
def zhG {Q:VK} {E':Value->Shared->Prop} {us:List Value} {vs:List V} (F:FnJ0 X.prog X.w X.K X.mg X.base J k f fd ps sp) (hr:Room k X.A) (hb:BindsTo s fd ⟨us,[]⟩ (ps.zip us)) (hj:J s H)
  (I:Inv X pins σ H s) (r:zah vs us) (h:sp vs H Q E0):wpAny (model X.prog X.w) X.A (call (.ref f) us) (EP X pins σ Q) E' s:=by
 refine wpAny_call (codeAny_mono (F.run X.A X.stack s H ⟨us,[]⟩ us vs Q E0 hr I.env0 hb r hj h) fun r s' hq=>?_)
 cases r with
 | error e=>exact hq.elim
 | ok fl =>
  cases fl with
  | ret u=>exact I.after hq
  | next=>exact False.elim hq
  | brk=>exact False.elim hq
  | cont=>exact False.elim hq
def znt {x:Str} {p pos:Pos} {e:Expr} {es:List Expr} {t:TA} (F:FnJ0 X.prog X.w X.K X.mg X.base J k f fd ps sp) (hr:Room k X.A) (hg:Gl X x) (hm:X.mg x=some (.ref f)) (hk:W.keepIn X.K (.ref f)=true) (hb:zb7 X.K fd ps [])
  (hj:∀ pins σ H s,Inv X pins σ H s->J s H) (ha:PA X (e :: es) t) (hdb:yyD x:=by decide) (he:starEach (e :: es) X.env=(false,eval e X.env) :: starEach es X.env:=by rfl) (hpl:(backTo pos (starEach es X.env)).any (·.1)=false:=by rfl) :
  PE X (.Call (.Name x p) (e :: es) [] pos) (zrI sp [] E0 t):=by
 intro pins s σ H Q I h; refine YT (zcm I hg hm ?_ hdb)
 refine W.callWith_K (h₀:=X.base) I.ok.mod.kin hk (thn (ha pos pins s σ H _ I h) fun us s1 ⟨vs,H1,I1,r,q⟩=>⟨I1.kIn,?_⟩) he hpl
 have q:sp vs H1 Q E0:=by simpa using q
 have hl:us.length=ps.length:=by rw [<- r.length]; exact F.len _ _ _ _ q
 have hb':=hb s1 us I1.kIn (by rw [yb]; exact hl)
 rw [yb] at hb'; exact zhG F hr hb' (hj _ _ _ _ I1) I1 r q
def zrH (i:Nat) (f:Addr) (sp:Sp) (t:TA):TE:=fun σ H Q=>σ[i]?=some (some (.ref f))/\t σ H fun vs H1=>sp vs H1 Q E0
def zns {x p1:Str} {i:Nat} {p pos:Pos} {e:Expr} {t:TA} {fo oc:Obj} {c:Addr} (F:FnJ0 X.prog X.w X.K X.mg X.base J k f fd [p1] sp) (hr:Room k X.A) (hfo:fo.data=.func fd) (hb:∀ u,bindArgs fd ⟨[u],[]⟩=pure [(p1,u)])
  (hj:∀ pins σ H s,Inv X pins σ H s->J s H) (hl:∀ s H,J s H->H f=some (zbn (.inr fo))) (ha:PA X [e] t) (hN:X.N[i]?=some x) (hv:Vis X.env.scope x) (hd:yyD x:=by decide) (hcd:(x == ("__classdict__":Str))=false:=by decide)
  (he:starEach [e] X.env=(false,eval e X.env) :: starEach [] X.env:=by rfl) (hpl:(backTo pos (starEach [] X.env)).any (·.1)=false:=by rfl) :
  PE X (.Call (.Name x p) [e] [] pos) (zrH i f sp t):=by
 intro pins s σ H Q I h; obtain ⟨hσ,h⟩:=h
 have at_:∀ {pins σ H s},Inv X pins σ H s->FnAt f s.heap:=fun {pins σ H s} I=>by
  have:=(I.hok f _ (hl _ _ (hj _ _ _ _ I))).1
  obtain ⟨oc,od,dt,sl⟩:=fo; cases hfo; exact ⟨_,_,_,_,this⟩
 refine YT (thn (zd1 (pos:=p) hN hv hd hcd pins s σ H (fun v H'=>v=.ref f/\H'=H) I ⟨_,hσ,rfl,rfl⟩) fun u s1 ⟨v,H1,I1,rv,e1,e2⟩=>?_)
 subst e1 e2
 obtain rfl:u=Value.ref f:=rv
 refine callWith_F (at_ I1) (thn (ha pos pins s1 σ H1 _ I1 h) fun us s2 ⟨vs,H2,I2,r,q⟩=>⟨at_ I2,?_⟩) he hpl
 have hl:=F.len _ _ _ _ q
 obtain ⟨v,rfl⟩:∃ v,vs=[v]:=by
  match vs,hl with
  | [v],_=>exact ⟨v,rfl⟩
 obtain ⟨u,rfl,ru⟩:=zcH r
 refine zhG F hr (fun _ _ _ _ z=>?_) (hj _ _ _ _ I2) I2 r q
 show wpAny _ _ (bindArgs fd ⟨[u],[]⟩) _ _ _
 rw [hb u]; exact yF z
end
def zta {P:Program} {w:World} {K:W.Frag} {mg:Str->Option Value} {base:Heap} {J:Jt} {k:Nat} {f:Addr} {name qual:Str} {params:Arguments} {body:List Stmt} {scope:Scope} {dV kV doc pm cdv ct oc:Value} {an od:Option Addr}
  {osl:Array (Option Value)} {N ps:List Str} {sp:Sp} (lk:K.lookup f=some ⟨oc,od,.func (W.fnOf name qual params body scope dV kV doc pm an cdv ct),osl⟩) (hcd:W.codeIn K cdv qual=true) (S:FnScope N ps scope)
  (len:∀ vs H Q E,sp vs H Q E->vs.length=ps.length)
  (hbody:∀ (A:Around) (outer:List Env) (s:Shared) (H:Hp) (vs:List V) (Q:VK) (E:XK),Room k (A.deeper (envOfC qual scope s.heap.objs.size f cdv))->J s H->sp vs H Q E ->
   ∃ t,PSs (zdy CX0 P w K mg base N qual scope f cdv A outer s H E) body t/\t { nx:=fun _ H'=>Q .non H',rt:=Q } (start N vs) H) :
  FnJ0 P w K mg base J (k+1) f (W.fnOf name qual params body scope dV kV doc pm an cdv ct) ps sp:=by
 refine ⟨len,fun A outer s H args us vs Q E hr e0 hb r hj hsp=>?_⟩
 have hl:=len _ _ _ _ hsp
 have KX:K.In s.heap:=e0.mod.kin.keeps fun b o e=>(e0.bs b o e).1
 have lim:s.heap.NoLimit:=e0.mod.nolimit.keeps fun b o e=>(e0.bs b o e).1
 have hkind:∀ y ∈ ps.zip us,scope.names.lookup y.1=some .local\/(scope.names.lookup y.1=some .cell/\((cellsFrom (s.heap.objs.size+1) scope.names []).lookup y.1).isSome=true):=fun ⟨n,v⟩ hy=>by
  rcases S.par n (List.of_mem_zip hy).1 with q | q
  ·exact .inl q
  ·exact .inr ⟨q,W.cellsFrom_some _ _ _ (.inl q)⟩
 refine codeAny_call_function hr.depth (KX _ _ lk) rfl S.co S.gen rfl (W.codeRec_of KX hcd) (hb _ _ _ _ ?_)
 refine wpAny_newFunctionEnv_cells S.kind hkind fun env he s1 x=>?_
 subst he; refine ⟨lim.keeps x.toInCall.keep,codeAny_func ?_⟩; obtain ⟨t,ht,hq⟩:=hbody A outer s H vs Q E (hr.deeper _) hj hsp
 have I:Inv (zdy CX0 P w K mg base N qual scope f cdv A outer s H E) [] (start N vs) H s1:=zeV S hr.hd e0 hl r x
 refine yp (ht [] s1 (start N vs) H _ I hq) (fun fl s' hs=>?_) fun e s' hs=>hs
 have fin:∀ {σ':St} {H':Hp} {v:V} {u:Value},Inv (zdy CX0 P w K mg base N qual scope f cdv A outer s H E) [] σ' H' s'->zaw v u->Q v H'->CE outer P w H s Q u s' :=
  fun {σ' H' v u} J rv q=>⟨v,H',J.os,J.bare,J.base,J.hok,rv,q⟩
 cases fl with
 | ret u =>
  obtain ⟨v,σ',H',J,rv,q⟩:=hs; exact fin J rv q
 | next =>
  obtain ⟨σ',H',J,q⟩:=hs; exact fin (v:=V.non) (u:=Value.none) J rfl q
 | brk =>
  obtain ⟨_,_,_,q⟩:=hs; exact False.elim q
 | cont =>
  obtain ⟨_,_,_,q⟩:=hs; exact False.elim q
end L2
namespace PL
open PySem L2
structure FnJ (P:Program) (w:World) (K:W.Frag) (mg:Str->Option Value) (base:Heap) (J:Jt) (k:Nat) (x:Str) (ps:List Str) (sp:Sp'):Prop where
 ex:∃ f fd,FnJ0 P w K mg base J k f fd ps (ziB K sp)/\zb7 K fd ps []/\W.keepIn K (.ref f)=true/\mg x=some (.ref f)
section
variable {J:Jt} {k:Nat} {x:Str} {ps:List Str} {sp:Sp'}
def Df.okJ {st:Stmt} {N:List Str} (d:Df K mg x st ps) (S:FnScope N ps (zl st)) (hJ:JK J) (len:∀ ds Q,sp ds Q->ds.length=ps.length)
  (hbody:∀ (f:Addr) (cdv:Value) (A:Around) (outer:List Env) (s:Shared) (H:Hp) (E:XK),(∀ pins σ H' s',L2.Inv (zdy CX0 P w K mg base N x (zl st) f cdv A outer s H E).nox pins σ H' s'->J s' H')->Room k (A.deeper (PyProof.Rows.envOfC x (zl st) s.heap.objs.size f cdv))->∀ ds Q,sp ds Q ->
   ∃ t,PSs' (zdy CX0 P w K mg base N x (zl st) f cdv A outer s H E).nox (zak st) t/\t { nx:=fun _=>Q (.val .non),rt:=fun r _=>Q r } (zaN N ds)):FnJ P w K mg base J (k+1) x ps sp:=by
 obtain ⟨f,fd,F,b,m⟩:=d.ex; obtain ⟨oc,od,kV,doc,pm,an,cdv,ct,osl,rfl,lk,hcd⟩:=F.ex
 refine ⟨f,_,zta lk hcd S (fun vs H Q E h=>?_) (fun A outer s H vs Q E hr hj h=>?_),b,F.kp,m⟩
 ·obtain ⟨Hi,ds,Q',_,dl,h,_⟩:=h
  rw [zj dl]; exact len ds Q' h
 ·obtain ⟨Hi,ds,Q',sb,dl,h,fin⟩:=h
  obtain ⟨t,h1,h2⟩:=hbody f cdv A outer s H E (fun pins σ H' s' I=>hJ.keep hj I.base) hr ds Q' h
  have hpl:ps.length<=N.length:=by have:=yi List.length S.pre; rw [YJ] at this; omega
  refine ⟨_,h1.h.nox,⟨H,Hi,[]⟩,Hi,zaN N ds,_,zbT (len ds Q' h) hpl sb dl,h2,?_⟩
  refine ⟨fun σ' H' Hi' Γ' s1 g1 q=>?_,fun _ _ _ _ _ _ q=>q.elim,fun _ _ _ _ _ _ q=>q.elim,fun v σ' H' Hi' Γ' r s1 g1 ro q=>?_⟩
  ·exact fin Hi' H' .non (.val .non) ⟨s1,fun b o e=>g1.keep b o e (by simp),g1.fz,fun b o e=>g1.fro b o e⟩ .non q
  ·exact fin Hi' H' v r ⟨s1,fun b o e=>g1.keep b o e (by simp),g1.fz,fun b o e=>g1.fro b o e⟩ ro q
end
section
variable {J:Jt} {k:Nat} {x:Str} {ps:List Str} {sp:Sp'} {p pos:Pos} {e:Expr} {es:List Expr} {t:TA'}
def zst (h:FnJ X.prog X.w X.K X.mg X.base J k x ps sp) (hr:Room k X.A) (hj:∀ pins σ H s,L2.Inv X pins σ H s->J s H) (ha:PA' X (e :: es) t) (hg:Gl X x:=by rfl) (hdb:yyD x:=by decide) :
  PE' X (.Call (.Name x p) (e :: es) [] pos) (zJ sp t):=by
 obtain ⟨f,fd,F,b,kp,m⟩:=h.ex; refine ⟨PE.weak (znt F hr hg m kp b hj ha.pa hdb (zS (zx ha.pl).1) (zae (zx ha.pl).2)) ?_⟩
 rintro σ H Q ⟨W,Hi,Γ,Q',g,h,fin⟩
 refine ⟨W,Hi,Γ,_,g,h,?_⟩; intro vs H1 Hi1 Γ1 ds s1 g1 dl q; rw [yb]; refine ⟨Hi1,ds,_,g1.fz,dl,q,?_⟩; intro Hi2 H2 v r ex ro q2
 cases r with
 | val d=>exact fin v H2 ⟨Hi2,d,Γ1,s1.trans ex.hi,g1.ext ex,ro,q2⟩
 | own o =>
  obtain ⟨a,rfl,h1,h2,h3⟩:=ro; have nw:=zbl g1 ex h1 h2 h3; obtain ⟨u,hu⟩:=h3.there; exact fin _ H2 ⟨upd Hi2 a u,_,Γ1,s1.trans (ex.hi.trans (zM h1 u)),(g1.ext ex).freezeA nw.hi nw.h0 nw.ne hu,h3.den h1 hu,q2⟩
 | bk d o =>
  obtain ⟨b,dv,hol,h1,h2,h3⟩:=ro; have nw:=zbl g1 ex h1 h2 h3; obtain ⟨u,hu⟩:=h3.there; exact fin _ H2 ⟨upd Hi2 b u,_,Γ1,s1.trans (ex.hi.trans (zM h1 u)),(g1.ext ex).freezeA nw.hi nw.h0 nw.ne hu,hol b _ v o (h3.den h1 hu) (dv.mono (zM h1 u)),q2⟩
structure FnV (P:Program) (w:World) (K:W.Frag) (mg:Str->Option Value) (base:Heap) (J:Jt) (k:Nat) (f:Addr) (R:D->D->Prop):Prop where
 jk:JK J
 ex:∃ (fo:Obj) (fd:FuncData) (p:Str),FnJ0 P w K mg base J k f fd [p] (ziB K (zjA R))/\fo.data=.func fd/\(∀ u,bindArgs fd ⟨[u],[]⟩=pure [(p,u)])/\∀ s H,J s H->H f=some (zbn (.inr fo))
def zfK (i:Nat) (f:Addr) (R:D->D->Prop) (t:TA'):TE':=fun Γ Q=>Γ[i]?=some (.val (.adr f))/\t Γ fun ds Γ1=>∃ d k,ds=[d]/\R d k/\Q k Γ1
def zld (i:Nat) {f:Addr} {R:D->D->Prop} (V:FnV X.prog X.w X.K X.mg X.base J k f R) (hr:Room k X.A) (hj:∀ pins σ H s,L2.Inv X pins σ H s->J s H) (ha:PA' X [e] t) (hN:X.N[i]?=some x:=by rfl) (hv:Vis X.env.scope x:=by first | exact JA rfl | exact Yd (JA rfl) | exact Yd (Yd rfl))
  (hd:yyD x:=by decide) (hcd:(x == ("__classdict__":Str))=false:=by decide) :
  PE' X (.Call (.Name x p) [e] [] pos) (zfK i f R t):=by
 obtain ⟨fo,fd,p1,F,hfo,hb,hl⟩:=V.ex; refine ⟨PE.weak (zns (i:=i) (oc:=fo) (c:=f) F hr hfo hb hj hl ha.pa hN hv hd hcd (zS (zx ha.pl).1) (zae (zx ha.pl).2)) ?_⟩
 rintro σ H Q ⟨W,Hi,Γ,Q',g,⟨hi,h⟩,fin⟩
 obtain ⟨v,hσ,dv⟩:=g.val i _ hi; rw [dv.adrI] at hσ; refine ⟨hσ,W,Hi,Γ,_,g,h,?_⟩
 rintro vs H1 Hi1 Γ1 ds s1 g1 dl ⟨d,k,rfl,hR,q⟩
 refine ⟨Hi1,[d],fun r=>r=.val k,g1.fz,dl,zfM hR,?_⟩
 intro Hi2 H2 v r ex ro hq; subst hq; exact fin v H2 ⟨Hi2,k,Γ1,s1.trans ex.hi,g1.ext ex,ro,q⟩
end
section
variable {K:PySem.W.Frag}
end
section
end
def zpn (H:Hp):Hp:=fun a=>match H a with
 | some (.tup xs)=>some (.tup xs)
 | _=>none
def zkz {H:Hp} {a:Addr} {u:HO} (h:zpn H a=some u):∃ xs,u=.tup xs/\H a=some (.tup xs):=by
 unfold zpn at h; split at h
 ·rename_i xs e
  exact ⟨xs,(Option.some.inj h).symm,e⟩
 ·cases h
def zkA {H:Hp} {a:Addr} {xs:List V} (h:H a=some (.tup xs)):zpn H a=some (.tup xs):=by
 unfold zpn; rw [h]
def zmN {Hi H:Hp} (fz:Fz Hi H):zY (zpn H) Hi:=fun a u h=>by
 obtain ⟨xs,rfl,e⟩:=zkz h; exact fz.tups _ _ e
def zn9 {K:W.Frag} {Hi H:Hp} {v:V} {d:D} (im:Imm d) (fz:Fz Hi H) (h:Den K Hi v d):Den K (zpn H) v d:=by
 induction h with
 | non=>exact .non
 | bl b=>exact .bl b
 | int i=>exact .int i
 | str l=>exact .str l
 | ty n=>exact .ty n
 | cls C=>exact .cls C
 | tup h l r ih =>
  cases im with
  | tup hi=>exact .tup (zkA (fz.sub _ _ h)) l fun j v d h1 h2=>ih j v d h1 h2 (hi d (yf h2))
 | _=>cases im
def ztA (K:W.Frag) (c:Addr) (xd:D):Jt:=fun s H=>∃ ux vx,s.heap.IsCell c (some ux)/\zaw vx ux/\H c=none/\Den K (zpn H) vx xd
def zqD (K:W.Frag) (c:Addr) (xd:D):JK (ztA K c xd):=⟨fun {fs s s' H H'} h u=>by
 obtain ⟨ux,vx,⟨o,ho,hd⟩,r,n,den⟩:=h
 obtain ⟨sl,e⟩:=u.any ho n (by simp)
 refine ⟨ux,vx,⟨_,e,hd⟩,r,u.free _ _ ho n (by simp),den.mono fun a w h=>?_⟩
 obtain ⟨xs,rfl,e⟩:=zkz h; exact zkA (u.tups _ _ e)⟩
section
def zoc {k:Nat} {f c c':Addr} {qual p x:Str} {params:Arguments} {body:Expr} {scope:Scope} {pm ctv:Value} {oc:Obj} {vs0:Array Value} {t0:Tok} {R:D->D->D->Prop} {xd:D}
  (S:LamSc p x scope) (hd:oc.data=.fields vs0) (hv:vs0[1]?=some (.str qual t0)) (hb:∀ u,bindArgs (W.kla_fn "<lambda>" qual params body scope [(x,c)] pm (.ref c') ctv) ⟨[u],[]⟩=pure [(p,u)])
  (hbody:∀ (A:Around) (outer:List Env) (s:Shared) (H:Hp) (E:XK),Room k (A.deeper (W.envX qual scope s.heap.objs.size f (.ref c') [(x,c)]))->∀ ds Q,zov R ds Q ->
   ∃ t,PE' (cxX CX0 P w K mg base [p,x] qual scope f (.ref c') [(x,c)] A outer s H E).nox body t/\t (zaN [p,x] ds) fun d _=>Q (.val d)) :
  FnV P w K mg base (fun s H=>zv0 f c' (zcn [(x,c)] qual params body scope pm c' ctv) oc s H/\ztA K c xd s H) (k+1) f (fun d e=>R d xd e):=by
 refine ⟨(zs2 _ _ _ _).and (zqD _ _ _),zcn [(x,c)] qual params body scope pm c' ctv,W.kla_fn "<lambda>" qual params body scope [(x,c)] pm (.ref c') ctv,p,⟨fun vs H Q E h=>?_,fun A outer s H args us vs Q E hr e0 hbt r hj h=>?_⟩,rfl,hb,fun s H h=>h.1.1⟩
 ·obtain ⟨Hi,ds,Q',_,dl,⟨d,k,rfl,_⟩,_⟩:=h
  rw [zj dl]; rfl
 ·obtain ⟨⟨hf,hc⟩,ux,vx,hcell,rx,fc,den⟩:=hj
  obtain ⟨Hi,ds,Q',sb,dl,⟨d,e,rfl,hR,q⟩,fin⟩:=h
  obtain ⟨v,rfl,dv⟩:=zdx dl; obtain ⟨u,rfl,ru⟩:=zcH r
  have of:s.heap.get? f=some (zcn [(x,c)] qual params body scope pm c' ctv):=(e0.hok f _ hf).1
  have oc':s.heap.get? c'=some oc:=(e0.hok c' _ hc).1
  have lim:s.heap.NoLimit:=e0.mod.nolimit.keeps fun b o e=>(e0.bs b o e).1
  refine W.kla_callFunE hr.depth of rfl S.co S.gen rfl ⟨c',oc,vs0,t0,rfl,oc',hd,hv⟩ (hbt _ _ _ _ ?_)
  refine wpAny_newFunctionEnv S.nocell (fun y hy=>?_) (fun h1 hns hsb=>?_) S.kind
  ·rw [yd.mp (show y ∈ [(p,u)] from hy)]
   exact S.par
  ·have hk:∀ b o,s.heap.get? b=some o->h1.get? b=some o:=fun b o e=>hsb.extBut b o (yU (yI e)) (yB _ e)
   refine ⟨lim.keeps hk,W.kla_codeExpr ?_⟩; obtain ⟨t,ht,hq⟩:=hbody A outer s H E (hr.deeper _) [d,xd] Q' ⟨d,xd,e,rfl,hR,q⟩
   have I1:L2.Inv (cxX CX0 P w K mg base [p,x] qual scope f (.ref c') [(x,c)] A outer s H E) [] [some v,some vx] H { s with heap:=h1,toks:=s.toks+[(p,u)].length }:=zj2 S hr.hd e0 ru rx hcell fc hns hk
   have g0:Good K [p,x].length ⟨H,Hi,[]⟩ Hi (zaN [p,x] [d,xd]) (L2.start [p,x] [v,vx]) H:=zbT (ps:=[p,x]) rfl (yD _) sb (.cons dv (.cons (den.mono (zmN sb)) .nil))
   refine yp (ht.h.nox [] _ _ H (fun v' H'=>Q v' H') I1 ⟨⟨H,Hi,[]⟩,Hi,zaN [p,x] [d,xd],_,g0,hq,?_⟩) (fun u' s' hs=>?_) fun e s' hs=>hs
   ·rintro v' H' ⟨Hi',d',Γ',s1,g1,dv',q'⟩
    exact fin Hi' H' v' (.val d') ⟨s1,fun b o e=>g1.keep b o e (by simp),g1.fz,fun b o e=>g1.fro b o e⟩ dv' q'
   ·obtain ⟨v',H',J,rv,q'⟩:=hs
    exact ⟨v',H',J.os,J.bare,J.base,J.hok,rv,q'⟩
end
section
def zcV (i:Nat) (sp:D->Addr->Sp') (t1 t2:TE'):TE':=fun Γ Q=>t1 Γ fun d1 Γ1=>t2 Γ1 fun d2 Γ2=>∃ xd,Γ2[i]?=some (.val xd)/\Imm xd/\∀ f,sp xd f [d1,d2,.adr f] fun r=>Q r.toD Γ2
class MSpG (sp:D->Addr->Sp'):Prop where
 m:∀ d f,MSp (sp d f)
instance {i:Nat} {sp:D->Addr->Sp'} {t1 t2:TE'} [MSpG sp] [ME t1] [ME t2]:ME (zcV i sp t1 t2):=⟨fun Γ _ _ h q=>ME.mono (t:=t1) Γ _ _ (fun _ _ z=>ME.mono (t:=t2) _ _ _ (fun _ _ ⟨xd,a,b,z⟩=>⟨xd,a,b,fun f=>(MSpG.m (sp:=sp) xd f).mono _ _ _ (fun _ y=>h _ _ y) (z f)⟩) z) q⟩
def zgL (i:Nat) {k kl:Nat} {g qual p1 x:Str} {st:Stmt} {ps:List Str} {params:Arguments} {body:Expr} {scope:Scope} {R:D->D->D->Prop} {sp:D->Addr->Sp'} {e1 e2:Expr} {t1 t2:TE'} {p lpos pos:Pos} (L:LamAt X qual) (D:Df X.K X.mg g st ps)
  (G:∀ (J:Jt) (xd:PL.D) (f:Addr),FnV X.prog X.w X.K X.mg X.base J (kl+1) f (fun d e=>R d xd e)->FnJ X.prog X.w X.K X.mg X.base J k g ps (sp xd f)) (S:LamSc p1 x scope)
  (hbody:∀ (f c c':Addr) (A:Around) (outer:List Env) (s:Shared) (H:Hp) (E:XK),Room kl (A.deeper (W.envX qual scope s.heap.objs.size f (.ref c') [(x,c)]))->∀ ds Q,zov R ds Q ->
   ∃ t,PE' (cxX CX0 X.prog X.w X.K X.mg X.base [p1,x] qual scope f (.ref c') [(x,c)] A outer s H E).nox body t/\t (zaN [p1,x] ds) fun d _=>Q (.val d))
  (hb:∀ (pm:Value) (c c':Addr) (ctv u:Value),bindArgs (W.kla_fn "<lambda>" qual params body scope [(x,c)] pm (.ref c') ctv) ⟨[u],[]⟩=pure [(p1,u)])
  (hr:Room k X.A) (h1:PE' X e1 t1) (h2:PE' X e2 t2) (hkx:X.env.kindOf x=some .cell) (hN:X.N[i]?=some x) (hcl:∀ c,X.env.cells.lookup x=some c->closureFor scope X.env=pure [(x,c)])
  (hg:Gl X g:=by rfl) (hdb:yyD g:=by decide) (hs1:zcp e1=false:=by rfl) (hs2:zcp e2=false:=by rfl)
  (hdef:defaultsOf params X.env=([],[]):=by rfl) :
  PE' X (.Call (.Name g p) [e1,e2,.Lambda params body scope lpos] [] pos) (zcV i sp t1 t2):=by
 obtain ⟨g0,gd0,Fg,_,hm⟩:=D.ex
 refine ⟨fun pins s σ H Q I h=>?_⟩
 obtain ⟨W,Hi,Γ,Q',gg,h,fin⟩:=h; obtain ⟨cx,hx⟩:=I.ok.has x (.inl hkx); refine YT (zcm I hg hm ?_ hdb)
 refine PySem.W.callWith_K (h₀:=X.base) I.ok.mod.kin Fg.kp (thn (zck h1.h (zck h2.h (zck (zp4 (lpos:=lpos) L (hcl cx hx) hdef) ziT (zS rfl)) (zS hs2)) (zS hs1) pos pins s σ H
  (fun vs H3=>∃ v1 v2 f c oc vs0 t0 pm ctv H2 Hi2 Γ2 d1 d2 xd vx,vs=[v1,v2,.ref f]/\oc.data=.fields vs0/\vs0[1]?=some (.str qual t0)/\NewLam H2 H3 f c (zcn [(x,cx)] qual params body scope pm c ctv) oc/\zY Hi Hi2/\Good X.K X.N.length W Hi2 Γ2 σ H2/\Den X.K Hi2 v1 d1/\Den X.K Hi2 v2 d2/\σ[i]?=some (some vx)/\Den X.K Hi2 vx xd/\Imm xd/\∀ f,sp xd f [d1,d2,.adr f] fun r=>Q' r.toD Γ2) I ?pre) fun us s1 ⟨vs,H3,I1,r,q⟩=>⟨I1.kIn,?_⟩) ?he ?hpl
 case pre =>
  refine ⟨W,Hi,Γ,_,gg,h,?_⟩
  rintro v1 H1 ⟨Hi1,d1,Γ1,s1,g1,dn1,q1⟩
  refine ⟨W,Hi1,Γ1,_,g1,q1,?_⟩
  rintro v2 H2 ⟨Hi2,d2,Γ2,s2,g2,dn2,xd,hi,im,q2⟩
  intro f c oc vs0 t0 pm ctv H3 hd hv nl; obtain ⟨vx,hσ,dvx⟩:=g2.val i xd hi; exact ⟨v1,v2,f,c,oc,vs0,t0,pm,ctv,H2,Hi2,Γ2,d1,d2,xd,vx,rfl,hd,hv,nl,s1.trans s2,g2,dn1.mono s2,dn2,hσ,dvx,im,q2⟩
 case he=>exact zS hs1
 case hpl=>exact zae (show zbE [e2,Expr.Lambda params body scope lpos]=true by show (!zcp e2 && (!zcp (Expr.Lambda params body scope lpos) && true))=true; rw [hs2]; rfl)
 ·obtain ⟨v1,v2,f,c,oc,vs0,t0,pm,ctv,H2,Hi2,Γ2,d1,d2,xd,vx,rfl,hd,hv,nl,s12,g2,dn1,dn2,hσ,dvx,im,q⟩:=q
  have V:=zoc (P:=X.prog) (w:=X.w) (K:=X.K) (mg:=X.mg) (base:=X.base) (k:=kl) (f:=f) (R:=R) (xd:=xd) S hd hv (hb pm cx c ctv) (hbody f cx c); obtain ⟨g',gd,F,b,kp,m⟩:=(G _ xd f V).ex
  have e:g'=g0:=by rw [hm] at m; cases m; rfl
  subst e; have ex0:=PL.NewLam.ext nl g2.fz
  have sp1:ziB X.K (sp xd f) [v1,v2,.ref f] H3 Q E0:=by
   refine ⟨Hi2,[d1,d2,.adr f],_,ex0.fz,.cons dn1 (.cons dn2 (.cons (.adr f) .nil)),q f,?_⟩; intro Hi4 H4 v r ex ro q2; have g3:=g2.ext ex0
   cases r with
   | val d=>exact fin v H4 ⟨Hi4,d,Γ2,s12.trans ex.hi,g3.ext ex,ro,q2⟩
   | own o =>
    obtain ⟨a,rfl,h1,h2,h3⟩:=ro; have nw:=zbl g3 ex h1 h2 h3; obtain ⟨u,hu⟩:=h3.there; exact fin _ H4 ⟨upd Hi4 a u,_,Γ2,s12.trans (ex.hi.trans (zM h1 u)),(g3.ext ex).freezeA nw.hi nw.h0 nw.ne hu,h3.den h1 hu,q2⟩
   | bk d o =>
    obtain ⟨b,dv,hol,h1,h2,h3⟩:=ro; have nw:=zbl g3 ex h1 h2 h3; obtain ⟨u,hu⟩:=h3.there; exact fin _ H4 ⟨upd Hi4 b u,_,Γ2,s12.trans (ex.hi.trans (zM h1 u)),(g3.ext ex).freezeA nw.hi nw.h0 nw.ne hu,hol b _ v o (h3.den h1 hu) (dv.mono (zM h1 u)),q2⟩
  have hl:us.length=ps.length:=by rw [<- r.length]; exact F.len _ _ _ _ sp1
  have hb':=b s1 us I1.kIn (by rw [yb]; exact hl)
  rw [yb] at hb'; obtain ⟨m,hmm,look⟩:=I1.loc; obtain ⟨ux,rx,lk⟩:=look i x vx hN hσ (.inr (.inl hkx))
  have hcell:s1.heap.IsCell cx (some ux):=by
   rcases lk with ⟨z,_⟩ | ⟨_,c2,z,q⟩
   ·rw [hkx] at z; cases z
   ·rw [hx] at z; cases z; exact q
  exact zhG F hr hb' ⟨⟨nl.has.1,nl.has.2⟩,ux,vx,hcell,rx,I1.freeC x cx hx,zn9 im ex0.fz dvx⟩ I1 r sp1
end
end PL
namespace HT
open PySem PyProof.Rows
section
end
end HT
namespace L2
open PySem PySem.Spec PyProof.Rows
section
variable {e st:Expr} {te:TE} {ts:TO} {pos p2:Pos}
end
end L2
namespace PL
open PySem L2
section
variable {e st:Expr} {te:TE'} {ts:TP'} {pos p2:Pos}
end
end PL
namespace L2
open PySem PySem.Spec PyProof.Rows
section
end
end L2
namespace PL
open PySem L2
section
end
end PL
namespace L2
open PySem PySem.Spec PyProof.Rows
section
end
section
end
section
variable {K:Type} [DecidableEq K] {knd:HeapKind prog w K} {d a:Addr} {k:K} {xs:List (K × Addr × Value)}
end
section
variable {a:Addr}
end
section
variable {o e f:Expr} {apos cpos:Pos} {td ty tx:TE}
end
end L2
namespace PL
open PySem L2
section
variable {K:PySem.W.Frag} {n:Nat} {W:Wd} {Hi H0:Hp} {Γ:Sts} {L:List Addr}
end
abbrev Ent:=List (List Nat) × Addr × List D
section
variable {n:Nat} {W:Wd} {Hi:Hp} {a:Addr} {es:List Ent}
end
section
end
end PL
namespace X1
open PySem PyProof.Rows
section
variable {h:Heap} {g:Array GenState} {d:Drawn} {t:Nat} {os:OsState} {C N:Addr} {bm bmB:List Value} {B nid iid:String} {mN:Str->Option Value} {zbq:List Value}
end
end X1
namespace L2
open PySem PySem.Spec PyProof.Rows
section
end
end L2
namespace PL
open PySem L2
section
variable {x:Str} {C:Addr} {p cpos pos:Pos} {e:Expr} {ta:TA'}
end
end PL
namespace L2
open PySem PySem.Spec PyProof.Rows
section
end
end L2
namespace PL
open PySem PySem.Spec PyProof.Rows L2
section
variable {M:Addr} {x:Str} {body suite:List Stmt} {b0:Stmt} {tb:zij} {ts:TS'} {p hpos pos:Pos}
end
end PL
namespace L2
open PySem PySem.Spec PyProof.Rows
section
end
section
end
end L2
namespace PL
open PySem L2
section
end
end PL
namespace L2
open PySem PySem.Spec PyProof.Rows
section
end
end L2
namespace PL
open PySem L2
section
variable {k:Nat} {x:Str} {ps:List Str} {sp:Sp'} {p pos:Pos} {e:Expr} {te:zq3}
end
end PL
namespace L2
open PySem PySem.Spec PyProof.Rows
def OkT (v:V) (H:Hp):Prop:=∃ a xs,v=.ref a/\H a=some (.tup xs)/\xs.length<=10/\∀ x ∈ xs,∃ z:Str,x=.str z/\z.length<=12/\∀ c ∈ z.cps.toList,c<1000
def hu3 {A:Around} {k:Nat} (hr:Room k A):A.units+3<cLine:=by have:=hr.un; omega
def zgy {n:Nat} (h:n<=100000):n<=sizeLine:=by rw [sizeLine_eq]; omega
section
theorem zgu:∀ {xs:List V} {its:List Value},zah xs its->(∀ x ∈ xs,∃ z:Str,x=.str z/\z.length<=12/\∀ c ∈ z.cps.toList,c<1000)->∃ ts,ReprAll prog w its ts/\piled ts<=124 * xs.length
 | _,_,.nil,_=>⟨[],.nil,YB _⟩
 | _,_,.cons r rs,h=>by
  obtain ⟨ts,h1,h2⟩:=zgu rs fun x hx=>h x (yL _ hx)
  obtain ⟨z,rfl,hz,hc⟩:=h _ (yR ..); obtain ⟨t,rfl⟩:=r
  have l:=StrLaws.reprText_len z fun c m=>JB (hc c m) (by decide)
  refine ⟨_,.cons (ReprIs.str z t (zgy (by omega))) h1,?_⟩
  rw [piled_cons,yo]; omega
def zgr (ts:List Str):(tupleText ts).length<=piled ts+3:=by
 unfold tupleText; rw [strLen_append,strLen_append]
 have e1:((("(":String):Str)).length=1:=rfl
 have e3:(((if ts.length == 1 then ",)" else ")":String):Str)).length<=2:=by split <;> decide
 rw [e1]
 by_cases h:ts=[]
 ·subst h
  have:(Str.join ", " []).length=0:=rfl
  omega
 ·have:=join_length_add ts h
  omega
end
section
def rep_tup {k:Nat} {v:V} {H:Hp} (hr:Room k X.A) (h:OkT v H):Rep X v H 1300:=by
 intro pins s σ u E Q I r q; obtain ⟨a,xs,rfl,ha,hl,hx⟩:=h
 cases (show u=Value.ref a from r)
 obtain ⟨_,its,vs,o,ho,hc,n,hd⟩:=(show zap X.prog X.w H s.heap a (.tup xs) from I.hok a _ ha)
 obtain ⟨ts,h1,h2⟩:=zgu (prog:=X.prog) (w:=X.w) vs hx; have h3:=zgr ts
 have h4:(tupleText ts).length<=1300:=by omega
 exact wpAny_pyReprObj_tuple ⟨o,ho,hc⟩ hr.gd (fun c hc=>by cases hc) hr.units0 ho hd (by simpa using h1) (fun u tk=>q _ _ _ h4 (I.tok _)) (zgy (by omega))
def znp (n:Nat) {c:Str} {j:Nat} {p p2 pos:Pos} {e:Expr} {te:TE} (hc:c.length+n<=100000) (he:PE X e te):PE X (.JoinedStr [.Constant (.str c) j p,.FormattedValue e 114 none p2] pos) (tFR X n te):=by
 intro pins s σ H Q I h; refine PyProof.Rows.JoinedStr_many (PyProof.Rows.joinParts_cons (Calls.Constant_str ?_))
 refine ⟨by rw [zlX]; exact zgy (by omega),PyProof.Rows.joinParts_cons ?_⟩
 refine wpAny_FormattedValue_repr (thn (he pins _ σ H _ (I.tok _) h) fun v s1 ⟨y,H1,I1,r1,rp,q⟩=>?_)
 refine rp pins s1 σ v _ _ I1 r1 fun z t s2 hz I2=>?_
 refine PyProof.Rows.formatField_str (fun t' tk=>?_) (zgy (by omega))
 have hl:(Str.empty ++ c ++ z).length<=sizeLine:=by rw [strLen_append,zlX]; exact zgy (by omega)
 refine ⟨hl,PyProof.Rows.joinParts_nil ?_ hl⟩; exact ⟨.str _,H1,(I2.tok _).tok _,⟨_,rfl⟩,q _⟩
end
end L2
namespace PySem.F
def mro_dict:mroOf (.type "dict")=pure [.type "dict",.type "object"]:=by rw [mroOf_type]; kernel_rfl
def zeI:typeLookup (.type "dict") "__new__"=pure (some (.builtin "dict.__new__")):=by rw [typeLookup_type,builtinLookup_eq_fast]; kernel_rfl
def called_dict:TypeCalled "dict" "dict.__new__" "dict.__init__" :=
 ⟨by decide +kernel,by decide +kernel,⟨_,_,mro_dict⟩,madeBy_type mro_dict zeI (by decide +kernel),by decide +kernel,by rw [isSubtype_type]; kernel_rfl,slot_dict_init⟩
def typeCall_dict_1 (a:Value):checkTypeCall "dict" ⟨[a],[]⟩=pure ():=by kernel_rfl
def newCall_dict_1 (a:Value):checkBuiltinCall "dict.__new__" ⟨[.type "dict",a],[]⟩=pure ():=by kernel_rfl
def entry_dict_new:entryFor table "dict.__new__"=some Builtin.«dict.__new__»:=entryFor_of_tree (by kernel_rfl)
def plain_dict_new:plainId "dict.__new__"=true:=by decide +kernel
def entry_dict_loop:entryFor table "dict.update.loop"=some Builtin.«dict.update.loop»:=entryFor_of_tree (by kernel_rfl)
def plain_dict_loop:plainId "dict.update.loop"=true:=by decide +kernel
def miss_list_keys:typeLookup (.type "list") "keys"=pure none:=by rw [typeLookup_type,builtinLookup_eq_fast]; kernel_rfl
end PySem.F
namespace PySem
def zfL:isSubtype (.type "dict") (.type "dict")=pure true:=by rw [isSubtype_type]; kernel_rfl
section
def getAttr?_miss_list {a:Addr} {xs:Array Value} {k:Nat} {sl:Array (Option Value)} {name:Str} {Q:Option Value->Shared->Prop}
  (hx:s.heap.get? a=some { cls:=.type "list",data:=.seq xs k,slots:=sl }) (hmiss:typeLookup (.type "list") name=pure none) (hname:(["__module__","__name__","__qualname__","__doc__","__annotations__"]:List Str).contains name=false) (hA:A.handled=none)
  (h:∀ h' tk,(∀ b o,s.heap.get? b=some o->h'.get? b=some o)->Q none { s with heap:=h',toks:=tk }) (hsz:name.length+100<=sizeLine:=by size_fits) :
  wpAny (model prog w) A (getAttr? (.ref a) name) Q E s:=by
 obtain ⟨hp,g,d,tk,os⟩:=s
 have hT:∀ tk',(⟨hp,g,d,tk',os⟩:Shared).TypeIs (.ref a) "list":=fun _=>⟨_,hx,rfl⟩
 have f1:=sub_AttributeError; have f3:=F.slot_list_getattribute.lookup; have f4:=F.slot_list_getattribute.bind (.ref a); have f5:=am_list_getattr_none
 unfold getAttr? getAttrBy? getAttrBy
 repeat (any_goals (first | assumption | exact hT _ | ((with_reducible show wpAny _ _ (call (Value.builtin "list.__getattribute__") _ _) _ _ _); refine call_meets F.slot_list_getattribute (hT _) am_entry_list_getattribute (F.args_list_getattribute_2 _ _) (meets_getattribute_miss_list a xs k sl name _ hmiss hname hsz) ⟨hx,hA,fun h' tk' e hx'=>?_⟩) | wp_step))
 obtain ⟨t',u',he⟩:=hx'.there
 show wpAny _ _ (getattributeRaised _ _ _ _ _ _ _) _ _ _
 unfold getattributeRaised
 repeat (any_goals (first | assumption | wp_step))
 exact h _ _ fun b o e=>hx'.keeps b o e
def zgg (a:Value) {Q₁:Value->Shared->Prop}
  (h:Q₁ (.ref s.heap.objs.size) { s with heap:=s.heap.push { cls:=.type "dict",data:=.dict #[] } }) :
  codeAny (model prog w) A (.call (.builtin "dict.__new__") ⟨[.type "dict",a],[]⟩) (wants Q₁ E) s:=by
 refine codeAny_of_tree ?_
 show wpAny _ A.in1 (do checkBuiltinCall "dict.__new__" ⟨[.type "dict",a],[]⟩; again (.builtin "dict.__new__" ⟨[.type "dict",a],[]⟩)) _ _ s
 refine yA (wpAny_of_eq (F.newCall_dict_1 a) (yF ⟨plainId_quiet F.plain_dict_new _,codeAny_builtin F.entry_dict_new ?_⟩)); rw [Around.under_plainId F.plain_dict_new _]; have hsub:=zfL; have hmro:=F.mro_dict; obtain ⟨hp,g,d,tk,os⟩:=s
 unfold Builtin.«dict.__new__»
 wp_walk
 exact h
end
def zdA (prog:Program) (w:World) (h:Heap) (x:Value) (p:List L2.Key × Addr × Value):Prop:=∃ c,x=.ref c/\PyProof.Rows.IsTup h c #[.ref p.2.1,p.2.2]/\IsTupleKey (L2.mixKind prog w) h p.1 p.2.1
section
def zdA.keeps {h h':Heap} {x:Value} {p:List L2.Key × Addr × Value} (r:zdA prog w h x p) (it d:Addr) (k:∀ b o,b≠it->b≠d->h.get? b=some o->h'.get? b=some o) (hi:∀ o,h.get? it=some o->o.cls≠.type "tuple") (hd:∀ o,h.get? d=some o->o.cls≠.type "tuple"):zdA prog w h' x p:=by
 have kk:∀ b o,h.get? b=some o->o.cls=.type "tuple"->h'.get? b=some o:=fun b o e c=>k b o (fun z=>hi o (z ▸ e) c) (fun z=>hd o (z ▸ e) c) e
 obtain ⟨c,rfl,⟨o,ho,hc,n,hdat⟩,o2,its,n2,ho2,hc2,r2⟩:=r
 exact ⟨c,rfl,⟨o,kk _ _ ho hc,hc,n,hdat⟩,o2,its,n2,kk _ _ ho2 hc2,hc2,r2⟩
def zdA.keeps0 {h h':Heap} {x:Value} {p:List L2.Key × Addr × Value} (r:zdA prog w h x p) (k:∀ b o,h.get? b=some o->h'.get? b=some o):zdA prog w h' x p:=by
 obtain ⟨c,rfl,⟨o,ho,r⟩,o2,its,n2,ho2,r2⟩:=r
 exact ⟨c,rfl,⟨o,k _ _ ho,r⟩,o2,its,n2,k _ _ ho2,r2⟩
def zhA {K:Type} [DecidableEq K] (xs:List (K × Addr × Value)) (k:K) (a:Addr) (v:Value):(storedH xs k a v).length<=xs.length+1:=by
 unfold storedH; split
 ·rw [yE]; omega
 ·rw [yV]; simp
def zdv {h h':Heap} {d it:Addr} {xs:List (List L2.Key × Addr × Value)} (x:h.DictOfH (tupleKind (L2.mixKind prog w)) d xs) (hid:it≠d) (k:∀ b o,b≠it->h.get? b=some o->h'.get? b=some o) (hi:∀ o,h.get? it=some o->o.cls≠.type "tuple"):h'.DictOfH (tupleKind (L2.mixKind prog w)) d xs:=by
 obtain ⟨o,es,ep,ho,h2,h3,h4,h5,h6⟩:=x
 refine ⟨o,es,ep,k d o (Ne.symm hid) ho,h2,h3,h4,fun y hy=>?_,h6⟩
 obtain ⟨o2,its,n2,ho2,hc2,r2⟩:=h5 y hy
 exact ⟨o2,its,n2,k _ o2 (fun z=>hi o2 (z ▸ ho2) hc2) ho2,hc2,r2⟩
def zi4 {h:Heap} {it l:Addr} {i:Nat} (x:h.IsListIter it l i):∀ o,h.get? it=some o->o.cls≠.type "tuple":=fun o e z=>by
 obtain ⟨o1,h1,hc,_⟩:=x; rw [h1] at e; cases e; rw [hc] at z
 exact yN z (by decide)
def zoh {h:Heap} {d:Addr} {xs:List (List L2.Key × Addr × Value)} (x:h.DictOfH (tupleKind (L2.mixKind prog w)) d xs):∀ o,h.get? d=some o->o.cls≠.type "tuple":=fun o e z=>by
 obtain ⟨o1,es,ep,h1,hc,_⟩:=x; rw [h1] at e; cases e; rw [hc.1] at z
 exact yN z (by decide)
def zjV {R:Result->Shared->Prop} {it l d:Addr} {items:Array Value} (hh:A.handled=none) (hu:A.units+1<cLine) (hid:it≠d) (hil:it≠l) (hdl:d≠l):∀ (ps:List (List L2.Key × Addr × Value)) (i:Nat) (s:Shared) (xs:List (List L2.Key × Addr × Value)),items.size=i+ps.length ->
  s.heap.IsListIter it l i->s.heap.IsList l items->(∀ j p,ps[j]?=some p->∃ x,items[i+j]?=some x/\zdA prog w s.heap x p)->s.heap.DictOfH (tupleKind (L2.mixKind prog w)) d xs->xs.length+ps.length<=sizeLine ->
  (∀ h' tk,h'.DictOfH (tupleKind (L2.mixKind prog w)) d (ps.foldl (fun xs p=>storedH xs p.1 p.2.1 p.2.2) xs)->(∀ b o,b≠it->b≠d->s.heap.get? b=some o->h'.get? b=some o)->R (.ok (.ret .none)) { s with heap:=h',toks:=tk }) ->
  codeAny (model prog w) A (.builtin "dict.update.loop" ⟨[.ref d,.ref it,rawInt i,.none],[]⟩) R s:=by
 intro ps
 induction ps with
 | nil =>
  intro i s xs hsz hit hl hp hdct hle hR; refine codeAny_builtin F.entry_dict_loop ?_; rw [Around.under_plainId F.plain_dict_loop _]
  unfold Builtin.«dict.update.loop»
  refine yA (wpAny_pyNext_list_end hh hit hl (Array.getElem?_eq_none (by simp at hsz; omega)) fun h' hx=>?_)
  show wpAny _ _ (Builtin.Dict.addKeywords d [] >>= fun _=>ret Value.none) _ _ _
  unfold Builtin.Dict.addKeywords; rw [List.forIn_nil]; refine yA (yF (yF ?_))
  exact hR h' s.toks (zdv hdct hid (fun b o hb e=>hx b o hb e) (zi4 hit)) fun b o h1 h2 e=>hx b o h1 e
 | cons p ps ih =>
  intro i s xs hsz hit hl hp hdct hle hR; obtain ⟨x,hx,c,rfl,ht,hk⟩:=hp 0 p rfl; refine codeAny_builtin F.entry_dict_loop ?_; rw [Around.under_plainId F.plain_dict_loop _]
  unfold Builtin.«dict.update.loop»
  refine yA (wpAny_pyNext_list_item hit hl hx fun h' hit' hs'=>?_)
  have k1:∀ b o,b≠it->s.heap.get? b=some o->h'.get? b=some o:=fun b o hb e=>(hs'.2 b hb).trans e
  have ic:=zi4 hit
  have ht':PyProof.Rows.IsTup h' c #[Value.ref p.snd.fst,p.snd.snd]:=by
   obtain ⟨o,ho,hc,r⟩:=ht
   exact ⟨o,k1 _ o (fun z=>ic o (z ▸ ho) hc) ho,hc,r⟩
  have hk':IsTupleKey (L2.mixKind prog w) h' p.fst p.snd.fst:=by
   obtain ⟨o,its,n,ho,hc,r⟩:=hk
   exact ⟨o,its,n,k1 _ o (fun z=>ic o (z ▸ ho) hc) ho,hc,r⟩
  have hd':=zdv hdct hid k1 ic; obtain ⟨o,ho,hc,n,hdat⟩:=ht'; refine yA (YW (yA (wpAny_tryCatch ?_))); unfold Builtin.Dict.pairItems; refine yA (wpAny_typeOf ⟨o,ho,hc⟩ ?_)
  rw [yM (by decide)]
  refine yA (Ye ho hdat (yF ?_))
  show wpAny _ _ (holding [Value.ref p.snd.fst,p.snd.snd] (dictSet d (Value.ref p.snd.fst) p.snd.snd)) _ _ _
  refine YW (wpAny_dictSet_heap (hsz:=by simp at hle; omega) (show (tupleKind (L2.mixKind prog w)).room A.in1 from hu) hk' hd' fun h2 hd2 hs2=>?_)
  have k2:∀ b o,b≠it->b≠d->s.heap.get? b=some o->h2.get? b=some o:=fun b o h1 h2 e=>(hs2.2 b h2).trans (k1 b o h1 e)
  refine yF ⟨plainId_quiet F.plain_dict_loop _,?_⟩
  show codeAny _ _ (.builtin "dict.update.loop" ⟨[.ref d,.ref it,rawInt ((i+1:Nat):Int),.none],[]⟩) _ _
  refine ih (i+1) _ _ (by simp at hsz; omega) ?_ ?_ (fun j q hj=>?_) hd2 ?_ fun h3 tk hd3 k3=>?_
  ·obtain ⟨o,ho,x⟩:=hit'
   exact ⟨o,(hs2.2 _ hid).trans ho,x⟩
  ·obtain ⟨o,ho,x⟩:=hl
   exact ⟨o,k2 _ _ (Ne.symm hil) (Ne.symm hdl) ho,x⟩
  ·obtain ⟨x,h1,h2⟩:=hp (j+1) q hj
   exact ⟨x,by rw [show i+1+j=i+(j+1) by omega]; exact h1,h2.keeps it d k2 ic (zoh hdct)⟩
  ·have:=zhA xs p.1 p.2.1 p.2.2
   simp at hle
   omega
  ·exact hR h3 tk hd3 fun b o h1 h2 e=>k3 b o h1 h2 (k2 b o h1 h2 e)
def ze5 {E:Value->Shared->Prop} {s:Shared} {l:Addr} {items:Array Value} {k:Nat} {sl:Array (Option Value)} {ps:List (List L2.Key × Addr × Value)} {Q:Value->Shared->Prop} (hh:A.handled=none) (hu:A.units+3<cLine) (hl:s.heap.get? l=some { cls:=.type "list",data:=.seq items k,slots:=sl })
  (hsz:items.size=ps.length) (hp:∀ (j:Nat) p,ps[j]?=some p->∃ x,items[j]?=some x/\zdA prog w s.heap x p) (hle:ps.length<=sizeLine)
  (h:∀ h' tk,h'.DictOfH (tupleKind (L2.mixKind prog w)) s.heap.objs.size (ps.foldl (fun xs p=>storedH xs p.1 p.2.1 p.2.2) [])->(∀ b o,s.heap.get? b=some o->h'.get? b=some o)->Q (.ref s.heap.objs.size) { s with heap:=h',toks:=tk }) :
  wpAny (model prog w) A (call (.type "dict") [.ref l]) Q E s:=by
 refine callType_codes (Q₁:=fun obj s₁=>obj=.ref s.heap.objs.size/\s₁={ s with heap:=s.heap.push { cls:=.type "dict",data:=.dict #[] } }) F.called_dict (F.typeCall_dict_1 _) F.entry_dict_init (zgg _ ⟨rfl,rfl⟩) fun obj s₁ h₁=>?_
 obtain ⟨rfl,rfl⟩:=h₁
 have ltl:l<s.heap.objs.size:=yI hl
 have hS:(s.heap.push { cls:=.type "dict",data:=.dict #[] }).get? s.heap.objs.size=some { cls:=.type "dict",data:=.dict #[] }:=yJ _ rfl
 have hT:Shared.TypeIs { s with heap:=s.heap.push { cls:=.type "dict",data:=.dict #[] } } (.ref s.heap.objs.size) "dict":=⟨_,hS,rfl⟩
 have hl1:(s.heap.push { cls:=.type "dict",data:=.dict #[] }).get? l=some { cls:=.type "list",data:=.seq items k,slots:=sl }:=yB _ hl
 refine ⟨hT,F.args_dict_init_2 _ _,?_⟩
 unfold Builtin.«dict.__init__» Builtin.Dict.selfAndRest
 refine yA (yA (wpAny_notOrdered_dict hT ?_)); refine yA (yF (yF ?_))
 show wpAny _ _ (Builtin.Dict.updateFrom "dict.__init__" s.heap.objs.size (.ref l) [] .none) _ _ _
 unfold Builtin.Dict.updateFrom; refine yA (wpAny_typeOf ⟨_,hl1,rfl⟩ ?_)
 rw [yM (by decide)]
 refine yA (getAttr?_miss_list (A:=A.in1.in1) hl1 F.miss_list_keys (by decide +kernel) hh fun h2 tk2 k2=>?_)
 rw [yM (by decide)]
 refine yA (wpAny_rule ?_); refine yA (wpAny_pyIter_list ⟨_,k2 _ _ hl1,rfl,k,rfl⟩ ?_)
 have lt2:s.heap.objs.size<h2.objs.size:=yI (k2 _ _ hS)
 refine yF ⟨plainId_quiet F.plain_dict_loop _,?_⟩
 have kp:∀ b o,s.heap.get? b=some o->(h2.push { cls:=.type "list_iterator",data:=.fields #[.ref l,.int 0 0] }).get? b=some o:=fun b o e=>yB _ (k2 _ _ (yB _ e))
 refine zjV (A:=A.in1) (items:=items) hh (by show A.units+1+1<cLine; omega) (Nat.ne_of_gt lt2) (Nat.ne_of_gt (JB ltl lt2)) (Nat.ne_of_gt ltl) ps 0 _ [] (by rw [hsz]; omega) ⟨_,yJ _ rfl,rfl,rfl⟩ ⟨_,kp _ _ hl,rfl,k,rfl⟩ (fun j p hj=>?_) ⟨_,_,_,yB _ (k2 _ _ hS),⟨rfl,rfl,rfl⟩,rfl,rfl,fun _ z=>yN z yx,List.nodup_nil⟩ (by simpa using hle) fun h' tk hd' kk=>?_
 ·obtain ⟨x,h1,h2⟩:=hp j p hj
  exact ⟨x,by rw [Nat.zero_add]; exact h1,h2.keeps0 kp⟩
 ·exact ⟨rfl,h h' tk hd' fun b o e=>kk b o (yU (JB (yI e) lt2)) (yU (yI e)) (kp b o e)⟩
end
end PySem
namespace L2
open PySem PySem.Spec PyProof.Rows
abbrev Prs (H:Hp) (vs:List V) (pv:List (List Key × V)):Prop:=Paired (fun (v:V) (q:List Key × V)=>∃ c kb,v=.ref c/\H c=some (.tup [.ref kb,q.2])/\H kb=some (.tup (q.1.map kV))) vs pv
abbrev zfn (pv:List (List Key × V)) (kvs:List (List Key × V)):List (List Key × V):=pv.foldl (fun m q=>ziH m q.1 q.2) kvs
theorem zfm:∀ (pv kvs:List (List Key × V)),(zfn pv kvs).length<=kvs.length+pv.length
 | [],kvs=>yD _
 | q :: pv,kvs=>by
  have h1:=zfm pv (ziH kvs q.1 q.2); have h2:=zeK kvs q.1 q.2
  show (zfn pv (ziH kvs q.1 q.2)).length<=_
  rw [yo]; omega
section
variable {h:Heap}
theorem ziL (ok:HOk P w H h):∀ {vs:List V} {pv:List (List Key × V)} {its:List Value},Prs H vs pv->zah vs its->∃ ps:List (List Key × Addr × Value),(∀ (j:Nat) p,ps[j]?=some p->∃ x,its[j]?=some x/\zdA P w h x p)/\Paired (fun (q:List Key × V) (p:List Key × Addr × Value)=>q.1=p.1/\H p.2.1=some (.tup (q.1.map kV))/\zaw q.2 p.2.2) pv ps
 | _,_,_,.nil,.nil=>⟨[],fun j p z=>by simp at z,.nil⟩
 | _,_,_,.cons a r,.cons b t=>by
  obtain ⟨ps,h1,h2⟩:=ziL ok r t; obtain ⟨c,kb,rfl,e1,e2⟩:=a
  rename_i q pv us u its
  cases (show u=Value.ref c from b)
  obtain ⟨_,its2,vs2,T⟩:=(show zap P w H h c (.tup [.ref kb,q.2]) from ok c _ e1)
  cases vs2 with
  | cons ra rb =>
   cases rb with
   | cons rc rd =>
    cases rd
    rename_i u1 u2
    cases (show u1=Value.ref kb from ra)
    refine ⟨(q.1,kb,u2) :: ps,fun j p hj=>?_,.cons ⟨rfl,e2,rc⟩ h2⟩
    cases j with
    | zero=>cases hj; exact ⟨_,rfl,c,rfl,T,zeT ok e2⟩
    | succ j=>exact h1 j p hj
theorem zlR:∀ {pv:List (List Key × V)} {ps:List (List Key × Addr × Value)} {kvs:List (List Key × V)} {xs:List (List Key × Addr × Value)},Paired (fun (q:List Key × V) (p:List Key × Addr × Value)=>q.1=p.1/\H p.2.1=some (.tup (q.1.map kV))/\zaw q.2 p.2.2) pv ps->KT H kvs xs->KT H (zfn pv kvs) (ps.foldl (fun xs p=>storedH xs p.1 p.2.1 p.2.2) xs)
 | _,_,_,_,.nil,k=>k
 | _,_,_,_,.cons (a:=q) (b:=p) a r,k=>by
  obtain ⟨q1,q2⟩:=q; obtain ⟨p1,p2,p3⟩:=p; obtain ⟨e,h1,h2⟩:=a
  dsimp only at e h1 h2
  subst e; have z:=zlR r (k.put q1 h1 h2); exact z
end
section
def zrE (K:W.Frag) (to:TE):TE:=fun σ H Q=>to σ H fun x H1=>∃ a vs pv,x=.ref a/\SqL K H1 a vs/\Prs H1 vs pv/\∀ p ep,H1 p=none->Q (.ref p) (upd H1 p (.dE (zfn pv []) ep))
def znr {o:Expr} {to:TE} {p1 pos1:Pos} (hc:X.calm=true) (hu:X.A.units+3<cLine) (hg1:Gl X "dict") (hm1:X.mg "dict"=none) (ho:PE X o to) (hs1:starEach [o] X.env=[(false,eval o X.env)]:=by rfl) :
  PE X (.Call (.Name "dict" p1) [o] [] pos1) (zrE X.K to):=by
 intro pins s σ H Q I h; refine Call_ (zdr I hg1 hm1 boot_dict (YV ?_ hs1 rfl)); rw [hs1]
 show wpAny _ _ (spliced ((false,eval o X.env) :: backTo pos1 [])) _ _ s
 refine Calls.spliced_cons (thn (ho pins s σ H _ I h) fun u s1 ⟨x,H1,I1,rx,a,vs,pv,ex,hq,pr,q⟩=>Calls.spliced_nil ?_)
 subst ex; cases rx
 obtain ⟨its,rv,⟨o,n,e1,e2,e3,e4⟩,hz⟩:=I1.list hq
 obtain ⟨ps,hp,kt⟩:=ziL I1.hok pr rv
 have l1:vs.length=pv.length:=Paired.length pr
 have l2:pv.length=ps.length:=Paired.length kt
 have l3:vs.length=its.length:=rv.length
 obtain ⟨oc,od,odat,osl⟩:=o
 dsimp only at e2 e3 e4
 subst e2 e3 e4
 refine ze5 (ps:=ps) (I1.ok.hd hc) hu e1 (by rw [yQ]; omega) (fun j p hj=>?_) (by omega) fun h' tk hd kp=>?_
 ·obtain ⟨x,h1,h2⟩:=hp j p hj
  exact ⟨x,by rw [List.getElem?_toArray]; exact h1,h2⟩
 ·have fk:=zlR kt (show KT H1 [] [] from .nil)
  obtain ⟨o2,es,ep,h1,h2,h3,h4,_,h5⟩:=hd; have fr:=I1.hok.fresh (yD s1.heap.objs.size); have ln:=zfm pv []
  refine ⟨.ref _,_,I1.laid (a:=s1.heap.objs.size) (o:=.dE (zfn pv []) ep) (t':=tk) kp (yD _) ⟨by simp only [List.length_nil] at ln; omega,beq_eq_false_iff_ne.mpr (Ne.symm (yU I1.big)),_,fk.keeps fun b ys eb=>by rw [zq (zA eb fr)]; exact eb,o2,es,h1,h2,h3,h4,h5⟩,rfl,q _ ep fr⟩
end
end L2
namespace PL
open PySem L2
noncomputable abbrev zrg (pd:List (List Key × D)) (ds:List (D × D)):List (D × D):=pd.foldl (fun m q=>zkm m (.tup (q.1.map keyD)) q.2) ds
theorem zs9 {K:W.Frag} {Hi:Hp}:∀ {pv:List (List Key × V)} {pd:List (List Key × D)} {kvs:List (List Key × V)} {ds:List (D × D)},Paired (fun (a:List Key × V) (b:List Key × D)=>a.1=b.1/\Den K Hi a.2 b.2) pv pd->zjs K Hi kvs ds->zjs K Hi (zfn pv kvs) (zrg pd ds)
 | _,_,_,_,.nil,k=>k
 | _,_,_,_,.cons (a:=q) (b:=p) a r,k=>by
  obtain ⟨q1,q2⟩:=q; obtain ⟨p1,p2⟩:=p; obtain ⟨e,d⟩:=a
  dsimp only at e d
  subst e; have z:=zs9 r (zuT k q1 d); exact z
theorem zl2 {K:W.Frag} {Hi:Hp}:∀ {vs:List V} (pd:List (List Key × D)),zaU K Hi vs (pd.map fun q=>D.tup [.tup (q.1.map keyD),q.2])->∃ pv,Prs Hi vs pv/\Paired (fun (a:List Key × V) (b:List Key × D)=>a.1=b.1/\Den K Hi a.2 b.2) pv pd
 | _,[],.nil=>⟨[],.nil,.nil⟩
 | _,q :: pd,.cons a r=>by
  obtain ⟨pv,h1,h2⟩:=zl2 pd r; obtain ⟨c,xs,rfl,e1,e2⟩:=a.tupJ
  cases e2 with
  | cons d1 r1 =>
   cases r1 with
   | cons d2 r2 =>
    cases r2; obtain ⟨kb,rfl,e3⟩:=zdw d1
    rename_i y
    exact ⟨(q.1,y) :: pv,.cons ⟨c,kb,rfl,e1,e3⟩ h1,.cons ⟨rfl,d2⟩ h2⟩
section
noncomputable def zhx (to:TE'):TO':=fun Γ Q=>to Γ fun d Γ1=>∃ pd:List (List Key × D),d=.lst (pd.map fun q=>D.tup [.tup (q.1.map keyD),q.2])/\Q (.dit (zrg pd [])) Γ1
def zk6 {o:Expr} {to:TE'} {p1 pos1:Pos} (hc:X.calm=true) (hu:X.A.units+3<cLine) (hm1:X.mg "dict"=none) (ho:PE' X o to) (hg1:Gl X "dict":=by rfl) (hst:zcp o=false:=by rfl):PO' X (.Call (.Name "dict" p1) [o] [] pos1) (zhx to):=by
 refine ⟨PE.weak (znr hc hu hg1 hm1 ho.h (zS hst)) ?_⟩
 rintro σ H Q ⟨W,Hi,Γ,Q',g,h,fin⟩
 refine ⟨W,Hi,Γ,_,g,h,?_⟩
 rintro x H1 ⟨Hi1,d,Γ1,s1,g1,den1,pd,rfl,q⟩
 obtain ⟨a,vs,rfl,h1,h2⟩:=den1.lstI; obtain ⟨pv,p1,p2⟩:=zl2 pd h2
 refine ⟨a,vs,pv,rfl,zL g1.sub h1,Paired.mapP p1 fun v q ⟨c,kb,e1,e2,e3⟩=>⟨c,kb,e1,g1.sub _ _ e2,g1.sub _ _ e3⟩,fun p ep hp=>?_⟩
 exact fin p _ Hi1 Γ1 (.dit (zrg pd [])) s1 (g1.ext (Ext.newO g1.fz hp _ (fun _ z=>by cases z))) (New.mk' g1 hp ⟨_,ep,zp,zs9 p2 .nil⟩) q
end
end PL
namespace L2
open PySem
def zoF {p x g:Str} {sc:Scope} (h1:sc.kind=.function) (h2:sc.isCoroutine=false) (h3:sc.isGenerator=false) (hn:sc.names=[(p,.local),(x,.free),(g,.globalImplicit)]) (ne:(x == p)=false) (ng:(g == p)=false):LamSc p x sc:=by
 refine ⟨h1,h2,h3,by rw [hn]; simp [List.lookup],fun y hy=>?_,by rw [hn]; simp [List.lookup,ne],fun y hy e=>?_⟩
 ·rw [hn] at hy
  simp at hy
  rcases hy with rfl | rfl | rfl <;> exact fun z=>nomatch z
 ·rw [hn] at hy
  simp at hy
  rcases hy with rfl | rfl | rfl
  ·cases e
  ·rfl
  ·cases e
def zjn {p x g:Str} {sc:Scope} {env:Env} (hn:sc.names=[(p,.local),(x,.free),(g,.globalImplicit)]) (c:Addr) (h:env.cells.lookup x=some c):closureFor sc env=pure [(x,c)]:=by
 unfold closureFor cellOf; rw [hn]; simp [h]
end L2
namespace PL
open PySem L2
def zwE:OD->Prop
 | .dit ds=>∀ q,q ∈ ds->Imm q.2
 | _=>False
def zeo (n:Nat) (t:TO'):TO':=fun Γ Q=>t (zbQ n Γ) fun o _=>zwE o/\Q o Γ
def znf {X:Cx} {e:Expr} {t:TO'} (h:PO' X e t):PO' X e (zeo X.N.length t):=by
 refine ⟨PE.weak h.h ?_⟩
 rintro σ H Q ⟨W,Hi,Γ,Q',g,q,fin⟩
 obtain ⟨s1,g1⟩:=g.look; refine ⟨_,_,_,_,g1,q,?_⟩
 rintro a H' Hb Γ' o sb g' nw ⟨im,q'⟩
 obtain ⟨s2,g2,hd⟩:=g.unlook sb g'
 have ha:H a=none:=nw.h0
 refine fin a H' _ Γ o s2.hi g2 ⟨?_,?_,⟨fun j o' e z=>?_,fun j d xs e=>?_⟩,?_⟩ q'
 ·unfold zcb
  split
  ·rfl
  ·exact nw.hi
 ·cases hq:W.H₀ a with
  | none=>rfl
  | some w =>
   obtain ⟨w',hw⟩:=g.there a w hq
   rw [ha] at hw; cases hw
 ·obtain ⟨b,h1,_,_,h4⟩:=g.own j o' e
  rw [z] at h1; cases h1; obtain ⟨w,hw⟩:=h4.there
  rw [ha] at hw; cases hw
 ·obtain ⟨w,hw⟩:=(g.bk j d a _ e).at_.there
  rw [ha] at hw; cases hw
 ·cases o with
  | lst ds=>exact im.elim
  | dic ds=>exact im.elim
  | dit ds =>
   obtain ⟨kvs,ep,e,dl⟩:=nw.own
   refine ⟨kvs,ep,e,paired_of (zj dl) fun i v d h1 h2=>?_⟩
   obtain ⟨z1,z2⟩:=paired_get i dl h1 h2; exact ⟨z1,hd _ _ (im d (yf h2)) z2⟩
  | obj C ds=>exact im.elim
instance {n:Nat} {t:TO'} [MO t]:MO (zeo n t):=⟨fun Γ _ _ h q=>MO.mono (t:=t) _ _ _ (fun _ _ ⟨a,z⟩=>⟨a,h _ _ z⟩) q⟩
end PL
namespace M81
open PySem L2 Lb PL MT MS M04 M70 M71
end M81
namespace M73
open PySem L2 Lb PL MT MS M04 M70 M71 M81
theorem kw_made {l x:List Nat} {p ws:Pl} {ks:List Tr}:∀ {r:List Tr},zn x (r.map fun k=>if k.lab=l then zcc k p ws ks else k)=(zn x r).map fun k=>if k.lab=l then zcc k p ws ks else k
 | []=>rfl
 | k :: r=>by
  unfold zn; rw [yW,YR,YR]
  have e:(if k.lab=l then zcc k p ws ks else k).lab=k.lab:=by
   split
   ·exact zcF _ _ _ _
   ·rfl
  rw [e]
  cases decide (k.lab=x) with
  | true=>rfl
  | false=>exact kw_made
end M73
namespace M72
open PySem L2 Lb PL MT MS M04 M70 M71 M81 M73
def zby (p:Pl):List Nat:=p.getLast?.getD []
section
variable {L:List (List Nat)} {lb:List Nat} {ws:Pl}
end
end M72
namespace M74
open PySem L2 Lb PL MT MS M04 M70 M71 M81 M73 M72
def zoG {x:List Nat} {a b:List Tr} (ha:(labs a).Nodup) (hb:(labs b).Nodup) (h:∀ k:Tr,k.lab=x->(k ∈ a↔k ∈ b)):zn x a=zn x b:=by
 cases e:zn x a with
 | none =>
  symm
  rw [zc7]; intro z; obtain ⟨k,hk,ek⟩:=yS.mp z
  have:=(h k ek).mpr hk
  exact zc7.mp e (ek ▸ yX this)
 | some k =>
  obtain ⟨m,l⟩:=zbS e; rw [<- l]; exact (zaK hb ((h k l).mp m)).symm
section
variable {c d n:Nat} {s t nd:Tr} {p:Pl}
def zkP {k:Tr} (h:(labs nd.kds).Nodup) (hk:zn k.lab nd.kds=none):(labs (nd.kds ++ [k])).Nodup:=by
 rw [zga,Yo]
 refine ⟨h,by simp [labs],fun a ha b hb e=>?_⟩
 have:b=k.lab:=by simpa [labs] using hb
 rw [e,this] at ha; exact zc7.mp hk ha
end
end M74
namespace M75
open PySem L2 Lb PL MT MS M04 M70 M71 M81 M73 M72 M74
end M75
namespace M76
open PySem L2 Lb PL MT MS M04 M70 M71 M81 M73 M72 M74 M75
theorem zeH {c:Nat} {ws:Pl} {ks:List Tr}:∀ {p:Pl} {n:Nat} {t nd:Tr},Wf c n t->zr t p=some nd->za6 t p (.node nd.lab ws ks)=zcc t p ws ks
 | [],n,t,nd,_,hn=>by
  simp only [zr,Option.some.injEq] at hn; subst hn; rfl
 | l :: p,n,t,nd,hw,hn=>by
  simp only [zr] at hn; obtain ⟨m,rfl⟩:=hw.pos
  cases hk:zn l t.kds with
  | none=>rw [hk] at hn; cases hn
  | some k =>
   rw [hk] at hn; have ih:=zeH (ws:=ws) (ks:=ks) (hw.kw hk) hn; have el:=(zbS hk).2; simp only [za6,hk,ih,zrr,zcc]
   congr 1
   refine YI fun k' hk'=>?_
   rw [zcF,el]
   by_cases e:k'.lab=l
   ·rw [yM e,yM e]
    have:=zaK hw.nd hk'
    rw [e,hk] at this; rw [Option.some.inj this]
   ·rw [yK e,yK e]
def zlE {p q r:Int × List Nat} (h:klt p q) (h':klt q r):klt p r:=by
 rcases h with h | ⟨h1,h2⟩
 ·rcases h' with h' | ⟨h1',_⟩
  ·exact .inl (by omega)
  ·exact .inl (by omega)
 ·rcases h' with h' | ⟨h1',h2'⟩
  ·exact .inl (by omega)
  ·exact .inr ⟨by omega,List.lt_trans h2 h2'⟩
def zow:∀ {a b:List Tr},Ris (labs a)->Ris (labs b)->(∀ x,x ∈ a↔x ∈ b)->a=b:=fun {a b} ha hb h=>by
 have el:labs a=labs b:=zfQ ha hb fun x=>by
  unfold labs; rw [yS,yS]
  exact ⟨fun ⟨y,p,q⟩=>⟨y,(h y).mp p,q⟩,fun ⟨y,p,q⟩=>⟨y,(h y).mpr p,q⟩⟩
 have e1:=ziR ha ha fun x hx=>hx
 have e2:=ziR hb hb fun x hx=>hx
 rw [<- e1,<- e2,<- el]; unfold zki
 congr 1
 funext x
 exact zoG ha.nodup hb.nodup fun k _=>h k
noncomputable def bf (l:List Nat) (x:Tr):Bool:=@decide (klt (zbm x.lab) (zbm l)) (Classical.propDecidable _)
def zfC {l:List Nat} {x:Tr}:bf l x=true↔klt (zbm x.lab) (zbm l):=by
 unfold bf; exact @decide_eq_true_iff _ (Classical.propDecidable _)
theorem zfx (l:List Nat):∀ ks:List Tr,Ris (labs ks)->∃ b,ks=ks.filter (bf l) ++ b/\∀ x ∈ b,¬ klt (zbm x.lab) (zbm l)
 | [],_=>⟨[],rfl,fun x hx=>nomatch hx⟩
 | a :: r,h=>by
  unfold Ris labs at h; rw [yW,List.pairwise_cons] at h
  by_cases e:bf l a=true
  ·obtain ⟨b,eb,hb⟩:=zfx l r h.2
   refine ⟨b,?_,hb⟩; rw [List.filter_cons,yM e,List.cons_append,<- eb]
  ·have hall:∀ x ∈ a :: r,¬ klt (zbm x.lab) (zbm l):=fun x hx=>by
    rcases yP.mp hx with rfl | z
    ·exact fun q=>e (zfC.mpr q)
    ·exact fun q=>e (zfC.mpr (zlE (h.1 x.lab (yX z)) q))
   refine ⟨a :: r,?_,hall⟩
   have:(a :: r).filter (bf l)=[]:=List.filter_eq_nil_iff.mpr fun x hx q=>hall x hx (zfC.mp q)
   rw [this]; rfl
def zlH {c n:Nat} {nd k:Tr} (wn:Wf c n nd) (hp:zu k.lab=true) (hk:zn k.lab nd.kds=none) :
  nd.kds.filter (bf k.lab) ++ [k] ++ nd.kds.drop (nd.kds.filter (bf k.lab)).length=zc9 (nd.kds ++ [k]):=by
 obtain ⟨b,eb,hb⟩:=zfx k.lab nd.kds wn.ris
 have ed:nd.kds.drop (nd.kds.filter (bf k.lab)).length=b:=by
  conv=>lhs; rw [eb]
  rw [show (nd.kds.filter (bf k.lab) ++ b).filter (bf k.lab)=nd.kds.filter (bf k.lab) by
   rw [<- eb]]
  exact List.drop_left
 rw [ed]; have nd2:=zkP wn.nd hk
 have hpl:∀ x ∈ nd.kds ++ [k],zu x.lab=true:=fun x hx=>by
  rcases ye.mp hx with z | z
  ·exact wn.plab x z
  ·rw [yd.mp z]; exact hp
 have r:=wn.ris; rw [eb] at r; unfold Ris labs at r; rw [YQ,List.pairwise_append] at r
 refine zow ?_ (zef hpl).ris fun x=>?_
 ·unfold Ris labs
  rw [YQ,YQ,List.pairwise_append,List.pairwise_append]
  have hkb:∀ y ∈ b,klt (zbm k.lab) (zbm y.lab):=fun y hy=>by
   have hyk:y ∈ nd.kds:=by rw [eb]; exact yc _ hy
   rcases zlD (zbm k.lab) (zbm y.lab) with z | z | z
   ·exact z
   ·exact yN z (hb y hy)
   ·have:=zi3 hp (wn.plab y hyk) z
    exact yN (this ▸ yX hyk) (zc7.mp hk)
  have hfk:∀ y ∈ nd.kds.filter (bf k.lab),klt (zbm y.lab) (zbm k.lab):=fun y hy=>zfC.mp (Yg.mp hy).2
  refine ⟨⟨r.1,List.pairwise_singleton _ _,fun p hp' q hq=>?_⟩,r.2.1,fun p hp' q hq=>?_⟩
  ·obtain ⟨y,hy,rfl⟩:=yS.mp hp'
   rw [List.map_singleton,yd] at hq; rw [hq]; exact hfk y hy
  ·obtain ⟨y,hy,rfl⟩:=yS.mp hq
   rcases ye.mp hp' with z | z
   ·exact r.2.2 p z _ (yX hy)
   ·rw [List.map_singleton,yd] at z
    rw [z]; exact hkb y hy
 ·rw [zco nd2]
  conv=>rhs; rw [eb]
  simp only [ye,yd]; constructor
  ·rintro ((z | z) | z)
   ·exact .inl (.inl z)
   ·exact .inr z
   ·exact .inl (.inr z)
  ·rintro ((z | z) | z)
   ·exact .inl (.inl z)
   ·exact .inr z
   ·exact .inl (.inr z)
end M76
namespace M83
open PySem L2 Lb PL MT MS M04 M70 M71 M81 M73 M72 M74
section
variable {c n:Nat} {t nd:Tr} {p:Pl}
end
end M83
namespace M82
open PySem L2 Lb PL MT MS M04 M70 M71
end M82
namespace M84
open PySem L2 Lb PL MT MS M04 M70 M71 M81 M82 M83
noncomputable section
open Classical
theorem wf_dp {c:Nat}:∀ {n:Nat} {t:Tr},Wf c n t->Dp n t
 | 0,t,h=>by cases h
 | n+1,.node l ws ks,h=>.mk fun k hk=>wf_dp (h.kid k hk)
end
end M84
namespace M85
open PySem L2 Lb PL MT MS M04 M70 M71 M81 M73 M72 M74 M82 M83 M84
noncomputable section
open Classical
end
end M85
namespace M86
open PySem L2 Lb PL MT MS M04 M70 M71 M81 M73 M72 M74 M82 M83 M84 M85
noncomputable section
open Classical
section
variable {L:List (List Nat)} {lb:List Nat} {ws:Pl}
end
end
end M86
namespace M87
open PySem L2 Lb PL MT MS M04 M70 M71 M81 M73 M72 M74 M82 M83 M84 M85 M86
theorem node_app:∀ (p:Pl) (t:Tr) (r:Pl),zr t (p ++ r)=(zr t p).bind fun x=>zr x r
 | [],t,r=>rfl
 | l :: p,t,r=>by
  simp only [List.cons_append,zr]
  cases zn l t.kds with
  | none=>rfl
  | some k=>exact node_app p k r
end M87
namespace M24
abbrev Pl:=List (List Nat)
inductive Knd where
 | W | F | B
 deriving DecidableEq
def above (p q:Pl):Bool:=decide (q.take p.length=p)
def zi7 (k:Knd) (p q:Pl):Bool:=match k with
 | .W=>decide (p=q)
 | .F=>above p q
 | .B=>!decide (p=q) && above p q
def common (k1:Knd) (p1:Pl) (k2:Knd) (p2:Pl):Bool :=
 if k1=.W then zi7 k2 p2 p1 else if k2=.W then zi7 k1 p1 p2 else above p1 p2 || above p2 p1
def zkB (k:Knd) (g p:Pl) (lab:Bool):Bool:=match k with
 | .W=>decide (p=g) && !lab
 | .F=>decide (g.length<=p.length) && decide (p.take g.length=g)
 | .B=>if p.length=g.length then false else decide (g.length<=p.length) && decide (p.take g.length=g)
def zwG (k1:Knd) (p1:Pl) (k2:Knd) (p2 p:Pl) (lab:Bool):Bool:=zkB k1 p1 p lab && zkB k2 p2 p lab
def comp {p1 p2 p:Pl} (h1:p1 <+: p) (h2:p2 <+: p):p1 <+: p2\/p2 <+: p1:=by
 by_cases h:p1.length<=p2.length
 ·exact .inl (List.prefix_of_prefix_length_le h1 h2 h)
 ·exact .inr (List.prefix_of_prefix_length_le h2 h1 (by omega))
end M24
namespace M25
open PySem L2 Lb PL MT MS M04 M70 M71 M72 M74 M76
def wd (t:Tr) (q:Pl):Option Pl:=(zr t q).map Tr.wds
def zfg (t:Tr):wd t []=some t.wds:=rfl
theorem zpl (t:Tr) (l:List Nat) (q:Pl):wd t (l :: q)=match zn l t.kds with
  | some k=>wd k q
  | none=>none:=by
 unfold wd; simp only [zr]
 cases zn l t.kds <;> rfl
def zbe {t:Tr} {l:List Nat} {q:Pl}:wd t (l :: q)=(zn l t.kds).bind fun k=>wd k q:=by
 rw [zpl]; cases zn l t.kds <;> rfl
def zkv {t:Tr} {l:List Nat}:(wd t [l]).isSome=true↔l ∈ labs t.kds:=by
 rw [zbe]
 cases h:zn l t.kds with
 | none =>
  have:=zc7.mp h
  simp [this]
 | some k =>
  have:=zbS h
  simp [zfg]; rw [<- this.2]; exact yX this.1
theorem zia {c d:Nat}:∀ {n m:Nat} {t u:Tr},Wf c n t->Wf d m u->(∀ l q,wd t (l :: q)=wd u (l :: q))->t.kds=u.kds
 | 0,_,t,u,h,_,_=>by obtain ⟨_,z⟩:=h.pos; cases z
 | _,0,t,u,_,h,_=>by obtain ⟨_,z⟩:=h.pos; cases z
 | n+1,m+1,t,u,h1,h2,h=>by
  have go:∀ {c d n m:Nat} {t u:Tr},Wf c (n+1) t->Wf d (m+1) u->(∀ l q,wd t (l :: q)=wd u (l :: q))->(∀ {a b:Tr},Wf c n a->Wf d m b->(∀ l q,wd a (l :: q)=wd b (l :: q))->a.kds=b.kds)->∀ x ∈ t.kds,x ∈ u.kds:=by
   intro c d n m t u h1 h2 h ih x hx; have e1:=zaK h1.nd hx
   have hs:(wd u [x.lab]).isSome=true:=by rw [<- h]; exact zkv.mpr (yX hx)
   obtain ⟨y,e2⟩:=zeP (zkv.mp hs); have hy:=zbS e2
   have hw:∀ q,wd x q=wd y q:=fun q=>by
    have:=h x.lab q
    rw [zbe,zbe,e1,e2] at this; exact this
   have hk:=ih (h1.kid x hx) (h2.kid y hy.1) fun l q=>hw (l :: q)
   have hww:=hw []; rw [zfg,zfg] at hww; obtain ⟨xl,xw,xk⟩:=x; obtain ⟨yl,yw,yk⟩:=y
   have a1:yl=xl:=hy.2
   have a2:xw=yw:=Option.some.inj hww
   have a3:xk=yk:=hk
   subst a1; subst a2; subst a3
   exact hy.1
  refine zow h1.ris h2.ris fun x=>⟨go h1 h2 h (fun a b e=>zia a b e) x,go h2 h1 (fun l q=>(h l q).symm) (fun a b e=>(zia b a fun l q=>(e l q).symm).symm) x⟩
def zor {c d n m:Nat} {t u:Tr} (h1:Wf c n t) (h2:Wf d m u) (hl:t.lab=u.lab) (h:∀ q,wd t q=wd u q):t=u:=by
 have hk:=zia h1 h2 fun l q=>h (l :: q)
 have hw:=h []; rw [zfg,zfg] at hw; obtain ⟨xl,xw,xk⟩:=t; obtain ⟨yl,yw,yk⟩:=u
 have a1:xl=yl:=hl
 have a2:xw=yw:=Option.some.inj hw
 have a3:xk=yk:=hk
 subst a1; subst a2; subst a3
 rfl
theorem zhv {ws:Pl} {ks:List Tr}:∀ {p:Pl} {t nd:Tr} (q:Pl),zr t p=some nd->wd (zcc t p ws ks) q=if p <+: q then wd (.node nd.lab ws ks) (q.drop p.length) else wd t q
 | [],t,nd,q,h=>by
  rw [yM (List.nil_prefix)]; cases h; rfl
 | l :: p,t,nd,[],h=>by
  rw [yK (by rintro ⟨r,e⟩; cases e)]
  rfl
 | l :: p,t,nd,m :: q,h=>by
  have hk:∃ k,zn l t.kds=some k/\zr k p=some nd:=by
   simp only [zr] at h
   cases e:zn l t.kds with
   | none=>rw [e] at h; cases h
   | some k=>rw [e] at h; exact ⟨k,rfl,h⟩
  obtain ⟨k,e,hn⟩:=hk
  have e1:wd (zcc t (l :: p) ws ks) (m :: q)=(zn m t.kds).bind fun x=>wd (if x.lab=l then zcc x p ws ks else x) q:=by
   rw [zbe]
   show (zn m (t.kds.map fun k=>if k.lab=l then zcc k p ws ks else k)).bind _=_
   rw [M73.kw_made]
   cases zn m t.kds <;> rfl
  rw [e1]
  by_cases hm:m=l
  ·subst hm
   rw [e]; have hl:=(zbS e).2
   show wd (if k.lab=m then zcc k p ws ks else k) q=_
   rw [yM hl,zhv q hn]
   by_cases hp:p <+: q
   ·rw [yM hp,yM (by obtain ⟨r,e⟩:=hp; exact ⟨r,by rw [List.cons_append,e]⟩)]
    rfl
   ·rw [yK hp,yK (by rintro ⟨r,e⟩; exact hp ⟨r,(List.cons.inj e).2⟩),zbe,e]
    rfl
  ·rw [yK (by rintro ⟨r,e⟩; exact hm (List.cons.inj e).1.symm),zbe]
   cases e2:zn m t.kds with
   | none=>rfl
   | some x =>
    have hl:=(zbS e2).2
    show wd (if x.lab=l then zcc x p ws ks else x) q=_
    rw [yK (by rw [hl]; exact hm)]
    rfl
def zh2 {t:Tr} {p:Pl}:(wd t p).isSome=true↔∃ nd,zr t p=some nd:=by
 unfold wd
 cases zr t p <;> simp
def zgp (t:Tr) (p r:Pl):wd t (p ++ r)=(zr t p).bind fun x=>wd x r:=by
 unfold wd; rw [M87.node_app]
 cases zr t p <;> rfl
mutual
def dpt:Tr->Nat
 | .node _ _ ks=>1+zo2 ks
def zo2:List Tr->Nat
 | []=>0
 | k :: ks=>max (dpt k) (zo2 ks)
end
def zl0 (t:Tr):dpt t=1+zo2 t.kds:=by cases t; rfl
theorem zih {m:Nat}:∀ {ks:List Tr},(∀ k ∈ ks,dpt k<=m)↔zo2 ks<=m
 | []=>by simp [zo2]
 | k :: ks=>by
  have:=zih (m:=m) (ks:=ks)
  simp only [zo2,yP,forall_eq_or_imp,this]; omega
theorem zoq {c:Nat}:∀ {m n:Nat} {t:Tr},Wf c n t->dpt t<=m->Wf c m t
 | 0,_,t,_,h=>by rw [zl0] at h; omega
 | m+1,0,t,h,_=>by obtain ⟨_,z⟩:=h.pos; cases z
 | m+1,n+1,t,h,hd=>by
  rw [zl0] at hd
  have hk:=zih.mpr (by omega:zo2 t.kds<=m)
  exact .mk' (fun k z=>zoq (h.kid k z) (hk k z)) h.plab h.ris h.few h.wfew
inductive Cg where
 | swap (p o n:Pl) | read (p ws:Pl) | put (p:Pl) (k:Tr) | out (p:Pl) | anew (p:Pl)
def zwq:Cg->Pl
 | .swap p _ _=>p
 | .read p _=>p
 | .put p _=>p
 | .out p=>p
 | .anew p=>p
def kd':Cg->M24.Knd
 | .swap _ _ _=>.W
 | .read _ _=>.W
 | .put _ _=>.F
 | .out _=>.F
 | .anew _=>.B
def gl':Cg->Pl
 | .swap p _ _=>p
 | .read p _=>p
 | .put p k=>p ++ [k.lab]
 | .out p=>p
 | .anew p=>p
def zgs:List Nat:=[112,108,97,99,101]
def zry:List Nat:=[119,111,114,100,115]
def zrB:List Nat:=[116,119,105,99,101]
def zrC:List Nat:=[116,104,101,114,101]
def zuy:List Nat:=[100,101,101,112]
def zrz:List Nat:=[119,104,111,108,101]
def rs (t:Tr):Cg->Option (List Nat)
 | .swap p o _=>match wd t p with
  | none=>some zgs
  | some ws=>if (zkL ws o).length=0 then some zry else if (zkL ws o).length > 1 then some zrB else none
 | .read p _=>if (wd t p).isSome=true then none else some zgs
 | .put p k=>if (wd t p).isSome=true then (if (wd t (p ++ [k.lab])).isSome=true then some zrC else if 9<p.length+1+dpt k then some zuy else none) else some zgs
 | .out p=>if p=[] then some zrz else if (wd t p).isSome=true then none else some zgs
 | .anew p=>if (wd t p).isSome=true then none else some zgs
structure Ok (c:Cg):Prop where
 len:(zwq c).length<=9
 put:∀ p k,c=.put p k->zu k.lab=true/\(∃ n,n<=9/\Wf 1 n k)/\cnt k<=9
 rd:∀ p ws,c=.read p ws->ws.length<=6
 sw:∀ p o n,c=.swap p o n->o.length<=6/\n.length<=6
def zjf {p q r:Pl} (e:p ++ r=q):q.drop p.length=r:=by rw [<- e]; simp
def zpj {c n:Nat} {t nd k:Tr} {p:Pl} (w:Wf c n t) (h:zr t p=some nd) (hk:zn k.lab nd.kds=none) (hp:zu k.lab=true) (q:Pl):wd (zcc t p nd.wds (zc9 (nd.kds ++ [k]))) q=if p ++ [k.lab] <+: q then wd k (q.drop (p.length+1)) else wd t q:=by
 have wn:=(w.at h).2; have hnd:=zkP wn.nd hk
 have ok:=zef (ks:=nd.kds ++ [k]) fun x hx=>by
  rcases ye.mp hx with z | z
  ·exact wn.plab x z
  ·rw [yd.mp z]; exact hp
 rw [zhv q h]
 by_cases hpq:p <+: q
 ·obtain ⟨r,e⟩:=hpq
  rw [yM ⟨r,e⟩,zjf e]
  cases r with
  | nil =>
   rw [yb] at e; subst e
   rw [yK (by rintro ⟨z,y⟩; have:=yi List.length y; simp at this)]
   unfold wd; rw [h]; rfl
  | cons l r =>
   have e2:q.drop (p.length+1)=r:=by rw [<- e,show p ++ l :: r=(p ++ [l]) ++ r by simp]; exact List.drop_left' (by simp)
   have kk:zn l (zc9 (nd.kds ++ [k]))=if l=k.lab then some k else zn l nd.kds:=by
    have h1:zn l (zc9 (nd.kds ++ [k]))=zn l (nd.kds ++ [k]):=zoG ok.nd hnd fun x _=>zco hnd
    rw [h1]
    unfold zn at hk ⊢
    rw [List.find?_append]
    by_cases z:l=k.lab
    ·rw [yM z,z,hk]
     simp
    ·rw [yK z]
     cases List.find? (fun x=>decide (x.lab=l)) nd.kds with
     | some y=>rfl
     | none=>simpa using fun y:k.lab=l=>z y.symm
   rw [zbe]
   show (zn l (zc9 (nd.kds ++ [k]))).bind _=_
   rw [kk]
   by_cases z:l=k.lab
   ·rw [yM z,yM (by rw [<- e,z]; exact ⟨r,by simp⟩),e2]
    rfl
   ·rw [yK z,yK (by rintro ⟨s,y⟩; rw [<- e,Ya] at y; exact z (List.cons.inj (List.append_cancel_left y)).1.symm),<- e,zgp,h]
    show _=wd nd (l :: r)
    rw [zbe]
 ·rw [yK hpq,yK (fun ⟨s,y⟩=>hpq ⟨[k.lab] ++ s,by rw [<- y]; simp⟩)]
def zly {p:Pl} (h:p≠[]):p.dropLast ++ [zby p]=p:=by
 unfold zby; rw [Yx h]; exact YS h
def zpk {c n:Nat} {t ab:Tr} {p:Pl} (w:Wf c n t) (h0:p≠[]) (h:zr t p.dropLast=some ab) (q:Pl):wd (zcc t p.dropLast ab.wds (ab.kds.filter fun k=>decide (k.lab≠zby p))) q=if p <+: q then none else wd t q:=by
 have e0:=zly h0; rw [zhv q h]
 by_cases hpq:p.dropLast <+: q
 ·obtain ⟨r,e⟩:=hpq
  rw [yM ⟨r,e⟩,zjf e]
  cases r with
  | nil =>
   rw [yb] at e; subst e
   rw [yK (by rintro ⟨z,y⟩; have:=yi List.length y; have:=yi List.length e0; simp at *; omega)]
   unfold wd; rw [h]; rfl
  | cons l r =>
   rw [zbe]
   show (zn l (ab.kds.filter fun k=>decide (k.lab≠zby p))).bind _=_
   by_cases z:l=zby p
   ·have:zn l (ab.kds.filter fun k=>decide (k.lab≠zby p))=none:=zc7.mpr fun y=>by
     obtain ⟨x,hx,e⟩:=yS.mp y
     have:=(Yg.mp hx).2
     simp at this
     exact this (e.trans z)
    have hpq:p <+: q:=⟨r,by
     have y:p.dropLast ++ [zby p] ++ r=q:=by rw [<- e,z]; simp
     rw [e0] at y; exact y⟩
    rw [this,yM hpq]; rfl
   ·have:zn l (ab.kds.filter fun k=>decide (k.lab≠zby p))=zn l ab.kds:=by
     unfold zn; rw [List.find?_filter]
     congr 1
     funext x
     by_cases y:x.lab=l
     ·simp [y,z]
     ·simp [y]
    rw [this,yK (by rintro ⟨s,y⟩; rw [<- e] at y; rw [<- e0] at y; rw [Ya,Yq] at y; exact z (List.cons.inj (List.append_cancel_left y)).1.symm),<- e,zgp,h]
    show _=wd ab (l :: r)
    rw [zbe]
 ·rw [yK hpq,yK (fun ⟨s,y⟩=>hpq ⟨[zby p] ++ s,by rw [<- Ya,e0]; exact y⟩)]
def Apart (c c':Cg):Prop:=M24.common (kd' c) (gl' c) (kd' c') (gl' c')=false
end M25
namespace M06
open PySem L2 Lb PL MT MS M04 M70 M71 M72 M74 M76 M25
structure NW (ns:Nd):Prop where
 ok:NOk ns
 wd:∀ x ∈ ns,x.2.length<=4
theorem zee:∀ {ns:Nd} {p ws:Pl},ns.lookup p=some ws->(p,ws) ∈ ns
 | x :: r,p,ws,h=>by
  obtain ⟨a,b⟩:=x; rw [yY] at h
  by_cases e:p=a
  ·subst e
   simp at h
   subst h; exact yR
  ·rw [show (p == a)=false from beq_eq_false_iff_ne.mpr e] at h
   exact yL _ (zee h)
theorem zaq:∀ {ns:Nd} {p:Pl},p ∈ keys ns↔(ns.lookup p).isSome=true
 | [],p=>by simp [keys]
 | x :: r,p=>by
  obtain ⟨a,b⟩:=x; rw [yY]
  by_cases e:p=a
  ·subst e
   simp [keys]
  ·rw [show (p == a)=false from beq_eq_false_iff_ne.mpr e]
   have:=zaq (ns:=r) (p:=p)
   simp only [keys,yW,yP,e,false_or] at this ⊢; exact this
def zjW {ns:Nd} {p:Pl} (h:p ∈ keys ns):ns.lookup p=some (zdB ns p):=by
 obtain ⟨w,e⟩:=YH.mp (zaq.mp h); unfold zdB; rw [e]; rfl
theorem zf7:∀ {ns:Nd},(keys ns).Nodup->∀ {x:Pl × Pl},x ∈ ns->ns.lookup x.1=some x.2
 | y :: r,nd,x,hx=>by
  obtain ⟨a,b⟩:=y
  have nd':a ∉ keys r/\(keys r).Nodup:=yt.mp nd
  rw [yY]
  rcases yP.mp hx with z | z
  ·subst z; simp
  ·have e:x.1≠a:=fun e=>nd'.1 (e ▸ yX z)
   rw [show (x.1 == a)=false from beq_eq_false_iff_ne.mpr e]
   exact zf7 nd'.2 z
def zil {ns:Nd} (o:NW ns) (p:Pl):(zdB ns p).length<=4:=by
 unfold zdB
 cases h:ns.lookup p with
 | none=>simp
 | some ws=>exact o.wd _ (zee h)
def zmO (n:Nat) (ns:Nd) (p:Pl):(zy n ns p).wds=zdB ns p:=by cases n <;> rfl
def zcd {ns:Nd} (o:NOk ns) (q:Pl):wd (zy 9 ns []) q=ns.lookup q:=by
 unfold wd
 rw [zeF o q [] 9 (by simp) o.nil]
 rw [YM]; split
 ·rename_i h
  rw [zjW h]
  show some (zy _ ns q).wds=_
  rw [zmO]
 ·rename_i h
  cases e:ns.lookup q with
  | none=>rfl
  | some w=>exact yN (zaq.mpr (by rw [e]; rfl)) h
theorem zft {α β:Type} {f:α->β}:∀ {l:List α},l.Nodup->(∀ a ∈ l,∀ b ∈ l,f a=f b->a=b)->(l.map f).Nodup
 | [],_,_=>List.nodup_nil
 | x :: l,h,hi=>by
  rw [yt] at h; rw [yW,yt]
  refine ⟨fun z=>?_,zft h.2 fun a ha b hb=>hi a (yL _ ha) b (yL _ hb)⟩
  obtain ⟨y,hy,e⟩:=yS.mp z; rw [hi y (yL _ hy) x yR e] at hy; exact h.1 hy
def ziy {α β:Type} (f:α->β) (lt:Nat->Nat->Bool) (d:α) (ps:List α):(srt lt d ps).map f=srt lt (f d) (ps.map f):=by
 unfold srt; rw [yE]; split
 ·rfl
 ·rw [ym]
  refine YI fun i _=>?_
  simp [List.getD,yH]
def zlG (ns:Nd) (n:Nat) (p:Pl):labs ((zaV ns p).map (zy n ns))=zjC ((zaL ns p).map zay):=by
 unfold labs; rw [ym]
 have e:(Tr.lab ∘ zy n ns)=zay:=by funext q; exact zbi n ns q
 rw [e]; unfold zaV zjC; rw [ziy,ym]; rfl
theorem zbH {ns:Nd} (o:NW ns):∀ (n:Nat) (p:Pl),p ∈ keys ns->8<=p.length+n->Wf 63 (9-p.length) (zy n ns p)
 | 0,p,hp,h8=>by
  have:=o.ok.len p hp
  rw [show 9-p.length=1 by omega]
  have:=zil o p
  exact zqr (by omega)
 | n+1,p,hp,h8=>by
  have hl8:=o.ok.len p hp
  rw [show 9-p.length=(8-p.length)+1 by omega]
  have hf:∀ q ∈ zaL ns p,q ∈ keys ns/\q=p ++ [zay q]:=fun q hq=>zbP.mp hq
  have hw:=zil o p; have hkl:=o.ok.few p
  have hsl:(zaV ns p).length=(zaL ns p).length:=zhC (zeC _) _ _
  refine .mk' (fun k hk=>?_) (fun k hk=>?_) ?_ (by show ((zaV ns p).map _).length<=_; rw [yE]; omega) (by show (zdB ns p).length<=_; omega)
  ·obtain ⟨q,hq,rfl⟩:=yS.mp hk
   have hm:=zaI.mp hq; have hl:=zeQ hq; have hq8:=o.ok.len q hm.1
   have:=zbH o n q hm.1 (by omega)
   rw [hl,show 9-(p.length+1)=8-p.length by omega] at this
   exact this
  ·obtain ⟨q,hq,rfl⟩:=yS.mp hk
   have hm:=zaI.mp hq; rw [zbi]
   exact o.ok.lab q hm.1 (zay q) (by rw [hm.2,zbR]; simp)
  ·show Ris (labs ((zaV ns p).map (zy n ns)))
   rw [zlG]
   refine zep ?_ fun l hl=>?_
   ·refine zft (o.ok.nd.sublist YO) fun a ha b hb e=>?_
    rw [(hf a ha).2,(hf b hb).2,e]
   ·obtain ⟨q,hq,rfl⟩:=yS.mp hl
    exact o.ok.lab q (hf q hq).1 (zay q) (by rw [(hf q hq).2,zbR]; simp)
mutual
def ent:Tr->Pl->Nd
 | .node _ ws ks,p=>(p,ws) :: zvo ks p
def zvo:List Tr->Pl->Nd
 | [],_=>[]
 | k :: ks,p=>ent k (p ++ [k.lab]) ++ zvo ks p
end
theorem zlV (p:Pl):∀ ks:List Tr,zvo ks p=ks.flatMap fun k=>ent k (p ++ [k.lab])
 | []=>rfl
 | k :: ks=>by rw [List.flatMap_cons,<- zlV p ks]; rfl
def zfy (t:Tr) (p:Pl):ent t p=(p,t.wds) :: t.kds.flatMap fun k=>ent k (p ++ [k.lab]):=by
 cases t with
 | node l ws ks=>rw [<- zlV]; rfl
theorem zct {c:Nat}:∀ {n:Nat} {t:Tr} {p:Pl},Wf c n t->∀ x ∈ ent t p,p <+: x.1
 | 0,t,p,h,x,hx=>by obtain ⟨m,z⟩:=h.pos; cases z
 | n+1,t,p,h,x,hx=>by
  rw [zfy] at hx
  rcases yP.mp hx with z | z
  ·rw [z]
   exact List.prefix_refl _
  ·obtain ⟨k,hk,hx⟩:=List.mem_flatMap.mp z
   exact List.IsPrefix.trans (List.prefix_append _ _) (zct (h.kid k hk) x hx)
theorem ze1 {c:Nat}:∀ {n:Nat} {t:Tr} {p:Pl},Wf c n t->(ent t p).length=cnt t
 | 0,t,p,h=>by obtain ⟨m,z⟩:=h.pos; cases z
 | n+1,t,p,h=>by
  rw [zfy,zmf,yo,List.length_flatMap]
  have:(t.kds.map fun k=>(ent k (p ++ [k.lab])).length)=t.kds.map cnt:=YI fun k hk=>ze1 (h.kid k hk)
  rw [this]; omega
def zgV {ns:Nd} {q:Pl} (h:∀ x ∈ ns,x.1≠q):ns.lookup q=none:=by
 cases e:ns.lookup q with
 | none=>rfl
 | some w=>exact yN rfl (h _ (zee e))
def zpP {p r x:Pl} {a b:List Nat} (h:p ++ [a] <+: x) (e:x=p ++ b :: r):a=b:=by
 obtain ⟨s,hs⟩:=h; rw [<- hs,Ya] at e
 have:=List.append_cancel_left e
 simpa using (List.cons.inj this).1
theorem zdu {c:Nat}:∀ {n:Nat} {t:Tr} {p:Pl} (r:Pl),Wf c n t->(ent t p).lookup (p ++ r)=wd t r
 | 0,t,p,r,h=>by obtain ⟨m,z⟩:=h.pos; cases z
 | n+1,t,p,[],h=>by
  rw [zfy,zfg,yb,yY]; simp
 | n+1,t,p,a :: r,h=>by
  rw [zfy,zbe,yY]
  have e:(p ++ a :: r == p)=false:=beq_eq_false_iff_ne.mpr fun z=>by
   have:=yi List.length z
   simp at this
  rw [e]; have hk:=h.kid; have nd:=h.nd
  show List.lookup _ (t.kds.flatMap fun k=>ent k (p ++ [k.lab]))=_
  generalize t.kds=ks at hk nd
  induction ks with
  | nil=>rfl
  | cons k ks ih =>
   have hk':=hk k yR
   have nd':k.lab ∉ labs ks/\(labs ks).Nodup:=by
    have:labs (k :: ks)=k.lab :: labs ks:=rfl
    rw [this] at nd; exact yt.mp nd
   have ih':=ih (fun k hk2=>hk k (yL _ hk2)) nd'.2
   rw [List.flatMap_cons,List.lookup_append,ih']
   by_cases el:k.lab=a
   ·subst el
    have h1:=zdu (p:=p ++ [k.lab]) r hk'; rw [Ya] at h1
    have e2:zn k.lab (k :: ks)=some k:=by simp [zn]
    have e3:zn k.lab ks=none:=by
     cases hz:zn k.lab ks with
     | none=>rfl
     | some z=>exact yN (by have:=zbS hz; rw [<- this.2]; exact yX this.1) nd'.1
    rw [e2,e3]
    rw [show p ++ k.lab :: r=p ++ ([k.lab] ++ r) from rfl,h1]
    show (wd k r).or none=wd k r
    cases wd k r <;> rfl
   ·have h1:(ent k (p ++ [k.lab])).lookup (p ++ a :: r)=none:=zgV fun x hx z=>el (zpP (zct hk' x hx) z)
    have e2:zn a (k :: ks)=zn a ks:=by simp [zn,el]
    rw [h1,e2]; rfl
theorem zgU {α β:Type} {f:α->β}:∀ {l:List α},(l.map f).Nodup->l.Nodup
 | [],_=>.nil
 | a :: l,h=>by
  rw [yW,yt] at h
  exact yt.mpr ⟨fun z=>h.1 (yX z),zgU h.2⟩
theorem zlW {c:Nat}:∀ {n:Nat} {t:Tr} {p:Pl},Wf c n t->(keys (ent t p)).Nodup
 | 0,t,p,h=>by obtain ⟨m,z⟩:=h.pos; cases z
 | n+1,t,p,h=>by
  rw [zfy]
  show (p :: (t.kds.flatMap fun k=>ent k (p ++ [k.lab])).map (·.1)).Nodup
  rw [List.map_flatMap,yt]
  have inj:∀ k ∈ t.kds,∀ j ∈ t.kds,k.lab=j.lab->k=j:=fun k hk j hj e=>by
   have h1:=zaK h.nd hk; have h2:=zaK h.nd hj; rw [e,h2] at h1; exact (Option.some.inj h1).symm
  refine ⟨fun z=>?_,zdO ?_ (fun k hk=>zlW (h.kid k hk)) fun k j x hk hj h1 h2=>?_⟩
  ·obtain ⟨k,hk,hx⟩:=List.mem_flatMap.mp z
   obtain ⟨x,hx,e⟩:=yS.mp hx
   have:=(zct (h.kid k hk) x hx).length_le
   rw [e] at this
   simp at this
   omega
  ·have nd:=h.nd
   unfold labs at nd; exact zgU nd
  ·obtain ⟨x1,hx1,e1⟩:=yS.mp h1
   obtain ⟨x2,hx2,e2⟩:=yS.mp h2; have p1:=zct (h.kid k hk) x1 hx1; have p2:=zct (h.kid j hj) x2 hx2; rw [e1] at p1; rw [e2] at p2; refine inj k hk j hj ?_
   have:=ziN p1 p2 (by simp)
   simpa using List.append_cancel_left this
def putN (ns:Nd) (q ws:Pl):Nd:=if q ∈ keys ns then ns.map (fun x=>if x.1=q then (q,ws) else x) else ns ++ [(q,ws)]
def zeh (ns:Nd) (q ws:Pl):keys (putN ns q ws)=if q ∈ keys ns then keys ns else keys ns ++ [q]:=by
 unfold putN; split
 ·unfold keys
  rw [ym]
  refine YI fun x _=>?_
  show (if x.1=q then (q,ws) else x).1=x.1
  split
  ·rename_i h; exact h.symm
  ·rfl
 ·simp [keys]
def zqp {ns:Nd} {q ws x:Pl}:x ∈ keys (putN ns q ws)↔x ∈ keys ns\/x=q:=by
 rw [zeh]; split
 ·rename_i h
  exact ⟨.inl,fun z=>z.elim id fun e=>e ▸ h⟩
 ·simp
def zsP {ns:Nd} (h:(keys ns).Nodup) (q ws:Pl):(keys (putN ns q ws)).Nodup:=by
 rw [zeh]; split
 ·exact h
 ·rename_i e
  rw [Yo]
  refine ⟨h,by simp,fun a ha b hb=>?_⟩
  rw [show b=q by simpa using hb]
  exact fun z=>e (z ▸ ha)
def zlu (ns:Nd) (q ws:Pl):(putN ns q ws).length<=ns.length+1:=by
 unfold putN; split
 ·rw [yE]; omega
 ·simp
def zpi {ns:Nd} (h:∀ x ∈ ns,x.2.length<=4) {q ws:Pl} (hw:ws.length<=4):∀ x ∈ putN ns q ws,x.2.length<=4:=fun x hx=>by
 unfold putN at hx; split at hx
 ·obtain ⟨y,hy,e⟩:=yS.mp hx
  rw [<- e]; split
  ·exact hw
  ·exact h y hy
 ·rcases ye.mp hx with z | z
  ·exact h x z
  ·rw [yd.mp z]; exact hw
theorem ziY (q ws:Pl):∀ (ns:Nd) (x:Pl),(ns.map fun y=>if y.1=q then (q,ws) else y).lookup x=if x=q then (if q ∈ keys ns then some ws else none) else ns.lookup x
 | [],x=>by simp [keys]
 | y :: ns,x=>by
  obtain ⟨a,b⟩:=y; rw [yW,yY]; have ih:=ziY q ws ns x
  by_cases e:a=q
  ·subst e
   rw [yM rfl]
   by_cases ex:x=a
   ·subst ex
    simp [keys]
   ·rw [show (x == a)=false from beq_eq_false_iff_ne.mpr ex,yY,show (x == a)=false from beq_eq_false_iff_ne.mpr ex,yK ex]
    dsimp only
    rw [ih,yK ex]
  ·rw [yK e]
   by_cases ex:x=a
   ·subst ex
    rw [yK e,yY]; simp
   ·rw [show (x == a)=false from beq_eq_false_iff_ne.mpr ex,yY,show (x == a)=false from beq_eq_false_iff_ne.mpr ex]
    dsimp only
    rw [ih]
    have:(q ∈ keys ((a,b) :: ns))↔q ∈ keys ns:=by
     simp only [keys,yW,yP]
     exact ⟨fun z=>z.elim (fun y=>yN y.symm e) id,.inr⟩
    simp only [this]
def znJ (ns:Nd) (q ws x:Pl):(putN ns q ws).lookup x=if x=q then some ws else ns.lookup x:=by
 unfold putN; split
 ·rename_i h
  rw [ziY,yM h]
 ·rename_i h
  rw [List.lookup_append]
  by_cases e:x=q
  ·subst e
   rw [yM rfl]
   have:ns.lookup x=none:=by
    cases z:ns.lookup x with
    | none=>rfl
    | some w=>exact yN (zaq.mpr (by rw [z]; rfl)) h
   rw [this]; simp
  ·rw [yK e]
   have:List.lookup x [(q,ws)]=none:=by
    rw [yY,show (x == q)=false from beq_eq_false_iff_ne.mpr e]
    rfl
   rw [this]
   cases ns.lookup x <;> rfl
def zc6 (ns es:Nd):Nd:=es.foldl (fun m e=>putN m e.1 e.2) ns
def zi1 (ns a b:Nd):zc6 ns (a ++ b)=zc6 (zc6 ns a) b:=by unfold zc6; rw [List.foldl_append]
theorem ziZ:∀ (es ns:Nd) (x:Pl),(keys es).Nodup->(zc6 ns es).lookup x=(es.lookup x).or (ns.lookup x)
 | [],ns,x,_=>rfl
 | e :: es,ns,x,nd=>by
  obtain ⟨a,b⟩:=e
  have nd':a ∉ keys es/\(keys es).Nodup:=yt.mp nd
  show (zc6 (putN ns a b) es).lookup x=_
  rw [ziZ es _ x nd'.2,znJ,yY]
  by_cases ex:x=a
  ·subst ex
   have:es.lookup x=none:=by
    cases z:es.lookup x with
    | none=>rfl
    | some w=>exact yN (zaq.mpr (by rw [z]; rfl)) nd'.1
   rw [this]; simp
  ·rw [yK ex,show (x == a)=false from beq_eq_false_iff_ne.mpr ex]
theorem zh6:∀ (es ns:Nd) (x:Pl),x ∈ keys (zc6 ns es)↔x ∈ keys ns\/x ∈ keys es
 | [],ns,x=>by simp [zc6,keys]
 | e :: es,ns,x=>by
  show x ∈ keys (zc6 (putN ns e.1 e.2) es)↔_
  rw [zh6 es,zqp]; simp only [keys,yW,yP]; constructor
  ·rintro ((h | h) | h)
   ·exact .inl h
   ·exact .inr (.inl h)
   ·exact .inr (.inr h)
  ·rintro (h | h | h)
   ·exact .inl (.inl h)
   ·exact .inl (.inr h)
   ·exact .inr h
theorem zln:∀ (es:Nd) {ns:Nd},(keys ns).Nodup->(keys (zc6 ns es)).Nodup
 | [],ns,h=>h
 | e :: es,ns,h=>zln es (zsP h e.1 e.2)
theorem zeL:∀ (es ns:Nd),(zc6 ns es).length<=ns.length+es.length
 | [],ns=>yD _
 | e :: es,ns=>by
  have h1:=zeL es (putN ns e.1 e.2); have h2:=zlu ns e.1 e.2
  show (zc6 (putN ns e.1 e.2) es).length<=_
  rw [yo]; omega
theorem zku:∀ (es:Nd) {ns:Nd},(∀ x ∈ ns,x.2.length<=4)->(∀ x ∈ es,x.2.length<=4)->∀ x ∈ zc6 ns es,x.2.length<=4
 | [],ns,h,_=>h
 | e :: es,ns,h,h'=>zku es (zpi h (h' e yR)) fun x hx=>h' x (yL _ hx)
def zeg (ns:Nd) (p:Pl):(zaL ns p).length<=ns.length:=by
 have h1:=JF (fun q:Pl=>decide (q.length=p.length+1) && decide (q.dropLast=p)) (keys ns)
 have h2:(keys ns).length=ns.length:=by unfold keys; rw [yE]
 unfold zaL; omega
def zpH {c:Nat} {t nd k:Tr} {p:Pl} {ks':List Tr} (h:Wf c 9 t) (hn:zr t p=some nd) (h6:p.length<6) (hk:Wf c 3 k) (hp:zu k.lab=true) (ok:KidsOk (nd.kds ++ [k]) ks'):Wf (c+1) 9 (zcc t p nd.wds ks'):=by
 obtain ⟨a,b⟩:=h.at hn; obtain ⟨m,hm⟩:=b.pos
 refine zh7 (h.up (by omega) (yD _)) hn ?_
 rw [hm] at b ⊢
 refine zqm ok (fun k' hk'=>?_) (fun k' hk'=>?_) (by have:=b.few; simp; omega) (by have:=b.wfew; omega)
 ·rcases ye.mp hk' with z | z
  ·exact (b.kid k' z).up (by omega) (yD _)
  ·rw [yd.mp z]; exact hk.up (by omega) (by omega)
 ·rcases ye.mp hk' with z | z
  ·exact b.plab k' z
  ·rw [yd.mp z]; exact hp
structure KOk (k:Tr):Prop where
 wf:Wf 63 3 k
 lab:zu k.lab=true
 cn:cnt k<=5
 wds:∀ q w,wd k q=some w->w.length<=4
 labs:∀ q w,wd k q=some w->∀ l ∈ q,zu l=true
def zen {ns:Nd} (o:NOk ns) {p:Pl} (h:p ∈ keys ns):zr (zy 9 ns []) p=some (zy (9-p.length) ns p):=by
 rw [zeF o p [] 9 (by simp) o.nil,YM,yM h]
def znG {ns:Nd} (o:NOk ns) {p:Pl}:(zr (zy 9 ns []) p).isSome=true↔p ∈ keys ns:=by
 rw [zaq,<- zcd o p]; unfold wd; simp
def zof {c n:Nat} {t:Tr} {p x:Pl} (h:Wf c n t):x ∈ keys (ent t p)↔∃ r,x=p ++ r/\(wd t r).isSome=true:=by
 constructor
 ·intro hx
  obtain ⟨y,hy,rfl⟩:=yS.mp hx; obtain ⟨r,hr⟩:=zct h y hy; refine ⟨r,hr.symm,?_⟩; rw [<- zdu (p:=p) r h,hr]; exact zaq.mp hx
 ·rintro ⟨r,rfl,hr⟩
  rw [zaq,zdu r h]; exact hr
def zqR {c n:Nat} {t:Tr} {p x:Pl} (h:Wf c n t) (hx:¬ p <+: x):(ent t p).lookup x=none:=zgV fun y hy e=>hx (e ▸ zct h y hy)
def zkt {c n:Nat} {t:Tr} {q:Pl} (h:Wf c n t) (hq:(wd t q).isSome=true):q.length<n:=by
 obtain ⟨nd,e⟩:=zh2.mp hq; exact (h.at e).1
def wd_up {t:Tr} {q:Pl} (h:(wd t q).isSome=true):(wd t q.dropLast).isSome=true:=by
 by_cases e:q=[]
 ·subst e; exact h
 ·have e2:=YS e
  rw [<- e2,zgp] at h; unfold wd
  cases hn:zr t q.dropLast with
  | none=>rw [hn] at h; cases h
  | some x=>rfl
section
variable {ns:Nd} {p:Pl} {k:Tr}
def zb3 (wk:KOk k) {x:Pl}:x ∈ keys (zc6 ns (ent k (p ++ [k.lab])))↔x ∈ keys ns\/∃ r,x=p ++ [k.lab] ++ r/\(wd k r).isSome=true:=by
 rw [zh6,zof wk.wf]
def zlw (o:NW ns) (wk:KOk k) (hnew:p ++ [k.lab] ∉ keys ns) {b:Nat} (hb:∀ q,(zaL ns q).length<=b) (h5:5<=b) (q:Pl):(zaL (zc6 ns (ent k (p ++ [k.lab]))) q).length<=b+1:=by
 have nd:(zaL (zc6 ns (ent k (p ++ [k.lab]))) q).Nodup:=(zln _ o.ok.nd).sublist YO
 by_cases hq:p ++ [k.lab] <+: q
 ·have:=zdo _ (keys (ent k (p ++ [k.lab]))) nd fun x hx=>by
   obtain ⟨h1,h2⟩:=zbP.mp hx
   rcases (zh6 _ _ _).mp h1 with z | z
   ·obtain ⟨r,hr⟩:=hq
    have:p ++ [k.lab] ++ (r ++ [zay x]) ∈ keys ns:=by
     rw [<- Ya,hr,<- h2]; exact z
    exact yN (zk4 o.ok _ _ this) hnew
   ·exact z
  have l1:(keys (ent k (p ++ [k.lab]))).length=cnt k:=by unfold keys; rw [yE,ze1 wk.wf]
  have:=wk.cn
  omega
 ·have:=zdo _ ((p ++ [k.lab]) :: zaL ns q) nd fun x hx=>by
   obtain ⟨h1,h2⟩:=zbP.mp hx
   rcases (zb3 wk).mp h1 with z | ⟨r,hr,_⟩
   ·exact yL _ (zbP.mpr ⟨z,h2⟩)
   ·refine yP.mpr (.inl ?_)
    by_cases er:r=[]
    ·rw [hr,er,yb]
    ·refine yN ?_ hq
     have e2:=YS er; rw [h2,<- e2,<- Ya] at hr
     have:=yi List.dropLast hr
     rw [Yq,Yq] at this; rw [this]; exact List.prefix_append _ _
  have:=hb q
  simp only [yo] at *
  omega
def zsR (o:NW ns) (wk:KOk k) (hp:p ∈ keys ns) (hp5:p.length<6) (hnew:p ++ [k.lab] ∉ keys ns) {b:Nat} (hb:∀ q,(zaL ns q).length<=b) (h5:5<=b) (hb63:b<63) (hm:ns.length<=395):NW (zc6 ns (ent k (p ++ [k.lab]))):=by
 refine ⟨⟨(zb3 wk).mpr (.inl o.ok.nil),zln _ o.ok.nd,fun q hq=>?_,fun q hq=>?_,fun q hq=>?_,?_,fun q=>yq (zlw o wk hnew hb h5 q) hb63⟩,?_⟩
 ·rcases (zb3 wk).mp hq with z | ⟨r,rfl,hr⟩
  ·exact o.ok.len q z
  ·have:=zkt wk.wf hr
   simp; omega
 ·rcases (zb3 wk).mp hq with z | ⟨r,rfl,hr⟩
  ·exact (zb3 wk).mpr (.inl (o.ok.up q z))
  ·refine (zb3 wk).mpr ?_
   by_cases er:r=[]
   ·subst er
    rw [yb,Yq]; exact .inl hp
   ·refine .inr ⟨r.dropLast,?_,wd_up hr⟩
    rw [List.dropLast_append_of_ne_nil er]
 ·rcases (zb3 wk).mp hq with z | ⟨r,rfl,hr⟩
  ·exact o.ok.lab q z
  ·intro l hl
   obtain ⟨w,hw⟩:=YH.mp hr
   rcases ye.mp hl with z | z
   ·rcases ye.mp z with y | y
    ·exact o.ok.lab p hp l y
    ·rw [yd.mp y]; exact wk.lab
   ·exact wk.labs r w hw l z
 ·have h1:=zeL (ent k (p ++ [k.lab])) ns
  rw [ze1 wk.wf] at h1
  have:=wk.cn
  omega
 ·refine zku _ o.wd fun x hx=>?_
  obtain ⟨r,hr⟩:=zct wk.wf x hx
  have h1:(ent k (p ++ [k.lab])).lookup x.1=wd k r:=by rw [<- hr]; exact zdu r wk.wf
  have h2:(ent k (p ++ [k.lab])).lookup x.1=some x.2:=by
   have nd:=zlW (p:=p ++ [k.lab]) wk.wf; exact zf7 nd hx
  rw [h1] at h2; exact wk.wds r _ h2
def zlA (o:NW ns) (wk:KOk k) (hp:p ∈ keys ns) (hp5:p.length<6) (hnew:p ++ [k.lab] ∉ keys ns) (on:NW (zc6 ns (ent k (p ++ [k.lab])))) {nd:Tr} (hnd:zr (zy 9 ns []) p=some nd) (hkn:zn k.lab nd.kds=none) :
  zcc (zy 9 ns []) p nd.wds (zc9 (nd.kds ++ [k]))=zy 9 (zc6 ns (ent k (p ++ [k.lab]))) []:=by
 have w1:=zbH o 9 [] o.ok.nil (by simp)
 have w2:=zbH on 9 [] on.ok.nil (by simp)
 have b:=(w1.at hnd).2
 have kok:KidsOk (nd.kds ++ [k]) (zc9 (nd.kds ++ [k])):=zef fun x hx=>by
  rcases ye.mp hx with z | z
  ·exact b.plab x z
  ·rw [yd.mp z]; exact wk.lab
 refine zor (zpH w1 hnd hp5 wk.wf wk.lab kok) w2 (by rw [zcF,zbi,zbi]) fun q=>?_
 rw [zpj w1 hnd hkn wk.lab,zcd on.ok,ziZ _ _ _ (zlW wk.wf),zcd o.ok]
 by_cases hq:p ++ [k.lab] <+: q
 ·rw [yM hq]
  obtain ⟨r,hr⟩:=hq; subst hr; rw [zdu r wk.wf]
  have h1:List.drop (p.length+1) (p ++ [k.lab] ++ r)=r:=by
   rw [show p.length+1=(p ++ [k.lab]).length by simp]
   exact List.drop_left
  have h2:ns.lookup (p ++ [k.lab] ++ r)=none:=by
   cases z:ns.lookup (p ++ [k.lab] ++ r) with
   | none=>rfl
   | some w=>exact yN (zk4 o.ok _ _ (zaq.mpr (by rw [z]; rfl))) hnew
  rw [h2]
  first | rw [h1] | skip
  cases wd k r <;> rfl
 ·rw [yK hq,zqR wk.wf hq]
  rfl
def zcJ (ns:Nd) (p:Pl):Nd:=ns.filter fun x=>!(decide (p <+: x.1))
def zcr {x:Pl}:x ∈ keys (zcJ ns p)↔x ∈ keys ns/\¬ p <+: x:=by
 unfold keys zcJ; constructor
 ·intro h
  obtain ⟨y,hy,rfl⟩:=yS.mp h; obtain ⟨h1,h2⟩:=Yg.mp hy
  exact ⟨yX h1,by simpa using h2⟩
 ·rintro ⟨h,h2⟩
  obtain ⟨y,hy,rfl⟩:=yS.mp h
  exact yS.mpr ⟨y,Yg.mpr ⟨hy,by simpa using h2⟩,rfl⟩
theorem zg5 (x:Pl):∀ ns:Nd,(zcJ ns p).lookup x=if p <+: x then none else ns.lookup x
 | []=>by simp [zcJ]
 | y :: r=>by
  obtain ⟨a,b⟩:=y; have ih:=zg5 x r
  unfold zcJ at ih ⊢
  rw [List.filter_cons]
  by_cases h:p <+: a
  ·rw [yK (by simpa using h),ih,yY]
   by_cases e:x=a
   ·subst e; rw [yM h,yM h]
   ·rw [show (x == a)=false from beq_eq_false_iff_ne.mpr e]
  ·rw [yM (by simpa using h),yY,yY]
   by_cases e:x=a
   ·subst e; simp [h]
   ·rw [show (x == a)=false from beq_eq_false_iff_ne.mpr e]
    exact ih
def zi8 (q:Pl):(zaL (zcJ ns p) q).length<=(zaL ns q).length:=by
 unfold zaL keys zcJ; exact List.Sublist.length_le (List.Sublist.filter _ (List.Sublist.map _ YO))
def zlQ (o:NW ns) (h0:p≠[]):NW (zcJ ns p):=by
 refine ⟨⟨zcr.mpr ⟨o.ok.nil,fun z=>h0 (List.prefix_nil.mp z)⟩,?_,fun q hq=>o.ok.len q (zcr.mp hq).1,fun q hq=>?_,fun q hq=>o.ok.lab q (zcr.mp hq).1,?_,fun q=>yq (zi8 q) (o.ok.few q)⟩,fun x hx=>o.wd x (Yg.mp hx).1⟩
 ·exact o.ok.nd.sublist (List.Sublist.map _ YO)
 ·obtain ⟨h1,h2⟩:=zcr.mp hq
  exact zcr.mpr ⟨o.ok.up q h1,fun z=>h2 (z.trans (List.dropLast_prefix q))⟩
 ·have:=JF (fun x:Pl × Pl=>!(decide (p <+: x.1))) ns
  have:=o.ok.many
  unfold zcJ; omega
def zlP (o:NW ns) (h0:p≠[]) {ab:Tr} (hab:zr (zy 9 ns []) p.dropLast=some ab):zcc (zy 9 ns []) p.dropLast ab.wds (ab.kds.filter fun k=>decide (k.lab≠zby p))=zy 9 (zcJ ns p) []:=by
 have on:=zlQ o h0
 have w1:=zbH o 9 [] o.ok.nil (by simp)
 have w2:=zbH on 9 [] on.ok.nil (by simp)
 refine zor (zsx w1 hab YO) w2 (by rw [zcF,zbi,zbi]) fun q=>?_
 rw [zpk w1 h0 hab,zcd on.ok,zg5,zcd o.ok]
end
end M06
set_option synthInstance.maxSize 4096
set_option synthInstance.maxHeartbeats 2000000
namespace K06
open PySem L2 Lb PL MT M04 MS M70 M71 M72 M74 M76 M25 M06 theorem sc0 {N P:List Str} {sc:Scope} (a:sc.kind=.function:=by rfl) (b:sc.isCoroutine=false:=by rfl) (c:sc.isGenerator=false:=by rfl) (d:N.Nodup:=by decide +kernel) (e:N.take P.length=P:=by rfl) (f:∀ x ∈ P,sc.names.lookup x=some .local\/sc.names.lookup x=some .cell:=by decide +kernel) (g:∀ y ∈ sc.names,y.2≠.free:=by decide +kernel):FnScope N P sc:=⟨a,b,c,d,e,f,g⟩
def top (i:Nat):Stmt:=PySem.Challenge.pw_codemend_k06_kids_in_and_out.main.body.getD i (.Pass ⟨0,0,0,0⟩)
abbrev zbI:Stmt:=top 12
abbrev zcg:Stmt:=top 13
abbrev zch:Stmt:=top 14
abbrev zeu:Stmt:=top 16
abbrev zdJ:Stmt:=top 17
abbrev zcy:Stmt:=top 18
abbrev zdk:Stmt:=top 19
abbrev za0:Stmt:=top 20
abbrev zbZ:Stmt:=top 21
abbrev zc1:Stmt:=top 23
abbrev zdG:Stmt:=top 24
abbrev zb0:Stmt:=top 25
abbrev zew:Stmt:=top 26
abbrev zc0:Stmt:=top 27
abbrev zaF:Stmt:=top 28
abbrev zcZ:Stmt:=top 29
abbrev zev:Stmt:=top 30
abbrev zdI:Stmt:=top 31
abbrev zcA:Stmt:=top 32
abbrev zdH:Stmt:=top 33
abbrev zbk:Stmt:=top 34
abbrev za1:Stmt:=top 35
abbrev zcz:Stmt:=top 36
abbrev zb1:Stmt:=top 37
abbrev ze8:Stmt:=top 38
abbrev zas:Stmt:=zqJ (top 2) 0
def keyD (l:List Nat):D:=.tup [.int (zbm l).1,.str (zbm l).2]
def zbj:Sp':=fun ds Q=>∃ l,ds=[.str l]/\l.length<=1000/\Q (.val (.str (cut l)))
def zbW:Sp':=fun ds Q=>∃ l,ds=[.str l]/\zu l=true/\Q (.val (keyD l))
def zaC:Sp':=fun ds Q=>∃ t l,ds=[trD t,.str l]/\Q (.val (ziU (zn l t.kds)))
def small {n:Nat} (h:n<=1000):n<=sizeLine:=Nat.le_of_lt (zaS h)
def ze6 {α:Type} (xs:List α) {i:Int} (h0:0<=i) (h1:i<xs.length):∃ d,atI xs i=some d/\d ∈ xs:=by
 obtain ⟨n,rfl⟩:=Yv h0
 have hn:n<xs.length:=by omega
 exact ⟨xs[n],zdT (yC hn),Yu hn⟩
@[simp] theorem sz1:1<=sizeLine:=small (by decide)
@[simp] theorem sz2:2<=sizeLine:=small (by decide)
@[simp] theorem sz3:3<=sizeLine:=small (by decide)
@[simp] theorem sz4:4<=sizeLine:=small (by decide)
def zlr {n:Int} (h0:0<=n) (h1:n<10 ^ 10):n.natAbs.log2<1920:=by
  refine yT ?_ (by decide:40<=1920)
  by_cases hz:n.natAbs=0
  · rw [hz]; decide
  · exact (Nat.log2_lt hz).mpr (by have : n.natAbs < 10 ^ 10 := by omega
                                   have:10 ^ 10<2 ^ 40:=by decide
                                   omega)
def md {i:Int} {n:Nat} (h:0<n):0<=i % (n:Int)/\i % (n:Int)<n:=⟨Int.emod_nonneg _ (by omega),Int.emod_lt_of_pos _ (by omega)⟩
def zjG (l y:List Nat):(Txt.rstripChars (st l) (st y)).cps.toList=(l.reverse.dropWhile fun c=>decide (c ∈ y)).reverse:=by
 have hc:(st y).cps.contains=fun c=>decide (c ∈ y):=by
  funext c
  simp [st]
 have hh:PySem.stripHi (st y).cps.contains true (st l) (PySem.stripLo (st y).cps.contains false (st l))=l.length-(l.reverse.takeWhile fun c=>decide (c ∈ y)).length:=by
  unfold PySem.stripHi PySem.stripLo
  rw [yM rfl,yK (by decide),zad,List.drop_zero,hc,zbC]
 have ht:l.take (l.length-(l.reverse.takeWhile fun c=>decide (c ∈ y)).length)=(l.reverse.dropWhile fun c=>decide (c ∈ y)).reverse:=by
  have e:l=(l.reverse.dropWhile fun c=>decide (c ∈ y)).reverse ++ (l.reverse.takeWhile fun c=>decide (c ∈ y)).reverse:=by
   rw [<- List.reverse_append,List.takeWhile_append_dropWhile,List.reverse_reverse]
  have el:=yi List.length e; rw [yV,List.length_reverse (as:=List.takeWhile _ _)] at el
  have z:l.take (l.length-(l.reverse.takeWhile fun c=>decide (c ∈ y)).length)=((l.reverse.dropWhile fun c=>decide (c ∈ y)).reverse ++ (l.reverse.takeWhile fun c=>decide (c ∈ y)).reverse).take (l.length-(l.reverse.takeWhile fun c=>decide (c ∈ y)).length):=yi (List.take _) e
  rw [z,List.take_left' (by omega)]
 unfold Txt.rstripChars Txt.stripBy; split
 ·rename_i hs
  unfold PySem.stripSame at hs; rw [hh,zbC] at hs; simp only [yr,beq_iff_eq] at hs
  rw [zad,<- ht,yh (by omega)]
 ·unfold PySem.stripped
  rw [hh,PyProof.Rows.strSub_mk]; unfold PySem.stripLo
  rw [yK (by decide),zad,List.drop_zero,Nat.sub_zero,ht]
def zeU {l:List Nat} (h:zu l=true):∃ m n,m=(cut l).length/\1<=m/\m<=9/\m<=l.length/\l.length<=12/\l.take m=cut l/\l.drop m=zdd l/\(∀ c,c ∈ cut l->dig c=true)/\(∀ c,c ∈ zdd l->dig c=false)/\PySem.intText? (st (cut l))=some n/\zbm l=(n,zdd l):=by
 have h':=h; unfold zu at h; simp only [yr,YE,Yk] at h
 obtain ⟨⟨⟨⟨a1,a2⟩,b⟩,c⟩,d⟩:=h
 have e:=zgf l; have el:=yi List.length e; rw [yV] at el
 have t:l.take (cut l).length=cut l:=by
  have z:(cut l ++ zdd l).take (cut l).length=cut l:=List.take_left' rfl
  rw [e] at z; exact z
 have t2:l.drop (cut l).length=zdd l:=by
  have z:(cut l ++ zdd l).drop (cut l).length=zdd l:=List.drop_left' rfl
  rw [e] at z; exact z
 have r:∃ n,PySem.intText? (st (cut l))=some n:=by
  have q:=PySem.intText_digits (x:=st (cut l)) (by rw [zad]; exact fun x hx=>(zed x).mp (by simpa [dig] using c x hx)) (by rw [zad]; exact fun z=>by rw [z] at a1; simp at a1) (by rw [zbC]; omega)
  exact ⟨_,q⟩
 obtain ⟨n,r⟩:=r
 refine ⟨_,n,rfl,a1,a2,by omega,by omega,t,t2,c,fun x hx=>?_,r,by unfold zbm; rw [r]; rfl⟩
 have:=zmR l x hx
 cases z:dig x with
 | false=>rfl
 | true=>rw [ze2 z] at this; cases this
section
def zfP:FnScope ["label"] ["label"] (zl zch):=sc0
def zf3 (d:Df K mg "figures_of" zch ["label"]) {t_SMALL_LETTERS:Tok} (g_SMALL_LETTERS:mg "SMALL_LETTERS"=some (.str (st zrf) t_SMALL_LETTERS)):Fn P w K mg base 1 "figures_of" ["label"] zbj:=by
 refine d.ok zfP (fun ds Q h=>?_) (fun f cdv A outer s H E hr ds Q h=>⟨_,(zo (zI (zsu znI PySem.F.plainAttrs_str PySem.F.slot_str_rstrip PySem.F.type_str_rstrip (pv' 0) (zc (zsr g_SMALL_LETTERS) zi)))),?_⟩)
 ·obtain ⟨l,rfl,_⟩:=h
  rfl
 obtain ⟨l,rfl,hl,q⟩:=h; simp [zP,zC,tC',zQ,zv,zvI,zE,zF,zV]; refine ⟨small hl,?_⟩; rw [zjG]; exact q
def zdj:FnScope ["label","figures"] ["label"] (zl zcg):=sc0
def zf2 (d:Df K mg "label_rank" zcg ["label"]) (G_figures_of:Fn P w K mg base 1 "figures_of" ["label"] zbj) (z_int:mg "int"=none) (z_len:mg "len"=none):Fn P w K mg base 2 "label_rank" ["label"] zbW:=by
 refine d.ok zdj (fun ds Q h=>?_) (fun f cdv A outer s H E hr ds Q h=>⟨_,(zm (zH 1 zdj.nd (zaG G_figures_of (hr.mono (by decide)) (zc (pv' 0) zi)))
  (zo (zI (zT (zc (zaj zo6 z_int PyProof.Rows.boot_int (zc (pv' 1) zi)) (zc (zbF s_A (pv' 0) (zcI (zw zbg z_len YF (zc (pv' 1) zi))) zd7) zi)))))),?_⟩)
 ·obtain ⟨l,rfl,_⟩:=h
  rfl
 obtain ⟨l,rfl,hl,hq⟩:=h; obtain ⟨m,n,hm,m1,m9,ml,l12,tk,dr,cd,tf,rd,kf⟩:=zeU hl; simp [zag,zP,zal,zt,zC,zQ,zv,zau,zbB,zdW,zba,zdY,zJ,zE,zF,zV,zbj]
 refine ⟨by omega,.inl ⟨cut l,n,rfl,rd,by omega,small (by omega),small (by omega),?_⟩⟩
 rw [<- hm,dr]; unfold keyD at hq; rw [kf] at hq; exact hq
def zet:FnScope ["node","label","kid"] ["node","label"] (zl zdJ):=sc0
def zhZ (d:Df K mg "kid_with" zdJ ["node","label"]):Fn P w K mg base 1 "kid_with" ["node","label"] zaC:=by
 refine d.ok zet (fun ds Q h=>?_) (fun f cdv A outer s H E hr ds Q h=>⟨_,(zm (zbJ (zbK (zD (i_A (zN hr)) (pv' 0) zk)) (zaa 2 zet.nd)
   (zo (zam (zK (zd8 (zb4 hr)) (zD (i_A (zN hr)) (pv' 2) zk) (pv' 1)) (zo (zI (pv' 2))) zU)))
  (zo (zI zci))),?_⟩)
 ·obtain ⟨t,l,rfl,_⟩:=h
  rfl
 obtain ⟨t,l,rfl,q⟩:=h; rw [zai]; simp [zag,zP,zaz,zt,zC,tC',zax,tB',zaX,zbz,zO,zE,zF,zV]
 have key:∀ (ks:List Tr) (A s2:Slot),Q (.val (ziU (zn l ks)))->zgn (zt 2) (zaz (tB' (zax zmu (zax zfl (zC 2) (tC' (D.int 0))) (zC 1))) (zP (zC 2)) zO)
   { nx:=zP (tC' D.non) { nx:=fun x=>Q (Res.val D.non),rt:=fun r x=>Q r },rt:=fun r x=>Q r } (ks.map trD) [A,.val (.str l),s2]:=by
  intro ks
  induction ks with
  | nil=>intro A s2 q; simpa [zgn,zP,tC',zn,ziU] using q
  | cons k ks ih =>
   intro A s2 q; have ih':=ih A (.val (trD k)); rw [zai] at ih'; simp only [yW,zgn]; rw [zai k]
   by_cases e:k.lab=l
   ·have:zn l (k :: ks)=some k:=by simp [zn,e]
    rw [this] at q
    have q':Q (.val (trD k)):=q
    rw [zai k] at q'
    simpa [zt,zaz,tB',zax,zC,tC',zP,zO,e] using q'
   ·have:zn l (k :: ks)=zn l ks:=by simp [zn,e]
    rw [this] at q
    simpa [zt,zaz,tB',zax,zC,tC',zP,zO,e] using ih' q
 exact key _ _ _ q
end
end K06
namespace K06
open PySem L2 Lb PL MT M04 MS M70 M71 M72 M74 M76 M25 M06
@[simp] theorem ix0 (k:Tr) (Q:D->Prop):zfl (trD k) (.int 0) Q↔Q (.str k.lab):=by
 rw [zai]; simp
@[simp] theorem ix1 (k:Tr) (Q:D->Prop):zfl (trD k) (.int 1) Q↔Q (plc k.wds):=by
 rw [zai]; simp
@[simp] theorem ix2 (k:Tr) (Q:D->Prop):zfl (trD k) (.int 2) Q↔Q (.tup (k.kds.map trD)):=by
 rw [zai]; simp
def zol {q:Pl} (h:q≠[]):atI (q.map D.str) (-1)=some (.str (zay q)):=by
 have e:=YS h
 have e2:zay q=q.getLast h:=by unfold zay; rw [Yx h]; rfl
 rw [e2]
 conv=>lhs; rw [<- e,YQ,List.map_singleton]
 exact zjp _ _
def zqW {ks : List Tr} {p : Pl} {R : List D -> Prop} (hp : p ≠ []) (h : R ((ks.filter fun k => decide (k.lab ≠ zay p)).map trD)) : zcK (zt 0)
                            (tB'
                              (zax zkh (zax zfl (zC 0) (tC' (D.int 0)))
                                (zax zfl (zC 1) (tC' (D.int (-1))))))
                            (zC 0) R (ks.map trD) [] [Slot.emp,Slot.val (plc p)]:=by
  refine zdb (fun i a Γ=>∃ s0,a=((ks.take i).filter fun k=>decide (k.lab≠zay p)).map trD/\Γ=[s0,.val (plc p)]) ⟨.emp,rfl,rfl⟩ ?_ ?_
  · rintro i d a Γ hd ⟨s0,rfl,rfl⟩
    rw [yH] at hd
    cases hc:ks[i]? with
    | none=>rw [hc] at hd; cases hd
    | some k =>
      rw [hc] at hd; cases hd; simp [zt,zC,tC',zax,tB',zE,zF,zV]; refine ⟨_,zol hp,?_⟩; rw [Yf,hc,JC]
      by_cases e:k.lab=zay p
      · simp [e]
      · simp [e]
  · rintro a Γ ⟨s0,rfl,rfl⟩
    rw [show List.take (List.map trD ks).length ks=ks from yh (by rw [yE]; exact yD _)]
    exact h
def ztt:bootBuiltins "ValueError"=some (.type "ValueError"):=by rfl
structure Cs where
 MendError:Addr
 NoPlace:Addr
 NoText:Addr
 NoFit:Addr
 NoName:Addr
 Twice:Addr
 NoDay:Addr
 NoAct:Addr
 NoRow:Addr
structure CF (K:W.Frag) (T:Cs):Prop where
 xis:X1.XIs K T.NoPlace
 exm:W.exmOne K (.ref T.NoPlace) (.ref T.MendError)=some true
 kN:W.kitOne K (.ref T.NoPlace) (.ref T.NoPlace)=some true
 kV:W.kitOne K (.ref T.NoPlace) (.type "ValueError")=some true
 k1:W.kitOne K (.ref T.NoPlace) (.ref T.NoText)=some false
 k2:W.kitOne K (.ref T.NoPlace) (.ref T.NoFit)=some false
 k3:W.kitOne K (.ref T.NoPlace) (.ref T.NoName)=some false
 k4:W.kitOne K (.ref T.NoPlace) (.ref T.Twice)=some false
 k5:W.kitOne K (.ref T.NoPlace) (.ref T.NoDay)=some false
 k6:W.kitOne K (.ref T.NoPlace) (.ref T.NoAct)=some false
 k7:W.kitOne K (.ref T.NoPlace) (.ref T.NoRow)=some false
 xfl:XFl K T.NoPlace
 na:zcS K T.NoPlace "place"
def zq5 (p:Pl):Prop:=p.length<=9/\∀ l ∈ p,zu l=true
def za4:V->Hp->Prop:=OkT
def zcD:D->Prop:=fun d=>∃ p:Pl,d=plc p/\zq5 p
def zlB {l:List Nat} (h:zu l=true):l.length<=12/\∀ c ∈ l,c<1000:=by
 obtain ⟨m,n,hm,m1,m9,ml,l12,tk,dr,cd,tf,rd,kf⟩:=zeU h
 refine ⟨l12,fun c hc=>?_⟩
 have f:∀ x ∈ ztc,x<1000:=by decide
 have g:∀ x ∈ zrf,x<1000:=by decide +kernel
 have hr:c ∈ l.reverse.takeWhile sml ++ l.reverse.dropWhile sml:=by rw [List.takeWhile_append_dropWhile]; exact List.mem_reverse.mpr hc
 rcases ye.mp hr with z | z
 ·exact g c (by have:=Yk.mp List.all_takeWhile c z; simpa [sml] using this)
 ·exact f c (by have:=cd c (by unfold cut; exact List.mem_reverse.mpr z); simpa [dig] using this)
theorem den_strs {K:W.Frag} {Hi:Hp}:∀ {vs:List V} {p:Pl},zaU K Hi vs (p.map D.str)->vs=p.map fun l=>V.str (st l)
 | _,[],.nil=>rfl
 | _,l :: p,.cons a r=>by rw [a.strI,den_strs r]; rfl
def zda {K:W.Frag}:∀ (Hi H:Hp) (v:V) (d:D) (a:Addr) (o:HO),Fz Hi H->Den K Hi v d->zcD d->H a=none->za4 v (upd H a o):=fun Hi H v d a o fz den e ha=>by
 obtain ⟨p,rfl,hp,hl⟩:=e; obtain ⟨b,vs,rfl,h1,h2⟩:=den.tupJ; have e:=den_strs h2; have h3:=fz.sub _ _ h1
 refine ⟨b,vs,rfl,by rw [zq (zA h3 ha)]; exact h3,by rw [e,yE]; omega,fun x hx=>?_⟩
 rw [e] at hx; obtain ⟨l,m,rfl⟩:=yS.mp hx; obtain ⟨q1,q2⟩:=zlB (hl l m)
 exact ⟨st l,rfl,by simpa [st,Str.length] using q1,by simpa [st] using q2⟩
def zar:Sp':=fun ds Q=>∃ t p,ds=[trD t,plc p]/\Q (.val (ziU (zr t p)))
def zbb:Sp':=fun ds Q=>∃ t p n,ds=[trD t,plc p,trD n]/\p.length<=20/\(zr t p).isSome=true/\(∀ i,i<=p.length->∀ k,zr t (p.take i)=some k->k.kds.length<=1000)/\Q (.val (trD (za6 t p n)))
def zaB:Sp':=fun ds Q=>∃ l m,ds=[.str l,.str m]/\zu l=true/\zu m=true/\∀ b:Bool,(b=true↔klt (zbm l) (zbm m))->Q (.val (.bl b))
def zav (T:Cs):zkd:=fun ds Q E=>∃ t p,ds=[trD t,plc p]/\zq5 p/\(∀ nd,zr t p=some nd->Q (.val (trD nd)))/\(zr t p=none->E T.NoPlace [("place",plc p)])
def zbs (T:Cs):zkd:=fun ds Q E=>∃ t p k c n,ds=[trD t,plc p,trD k]/\Wf c n t/\c<=200/\zq5 p/\zu k.lab=true/\(∀ nd,zr t p=some nd->zn k.lab nd.kds=none->Q (.val (trD (zcc t p nd.wds (zc9 (nd.kds ++ [k]))))))/\((∀ nd,zr t p=some nd->(zn k.lab nd.kds).isSome=true)->E T.NoPlace [("place",plc p)])
def zbL (T:Cs):zkd:=fun ds Q E=>∃ t p c n,ds=[trD t,plc p]/\Wf c n t/\c<=200/\zq5 p/\(∀ nd ab,p≠[]->zr t p=some nd->zr t p.dropLast=some ab->Q (.val (trD (zcc t p.dropLast ab.wds (ab.kds.filter fun k=>decide (k.lab≠zby p))))))/\(p=[]\/zr t p=none->E T.NoPlace [("place",plc p)])
instance:MSp zar:=⟨fun _ _ _ h ⟨t,p,e,q⟩=>⟨t,p,e,h _ q⟩⟩
instance:MSp zaB:=⟨fun _ _ _ h ⟨l,m,e,a,b,q⟩=>⟨l,m,e,a,b,fun x z=>h _ (q x z)⟩⟩
def zoX {c n:Nat} {t:Tr} {p:Pl} (hw:Wf c n t) (hc:c<=200):∀ i,i<=p.length->∀ k,zr t (p.take i)=some k->k.kds.length<=1000:=fun i _ k e=>by
 have:=(hw.at e).2.few
 omega
def zqX {ks:List Tr} {k:Tr} {R:List D->Prop} (hp:zu k.lab=true) (hks:∀ x ∈ ks,zu x.lab=true) (h:R ((ks.filter (bf k.lab)).map trD)):zcK (zt 0) (tB' (zJ zaB (zv (zax zfl (zC 0) (tC' (D.int 0))) (zv (zax zfl (zC 1) (tC' (D.int 0))) zQ)))) (zC 0) R (ks.map trD) [] [Slot.emp,Slot.val (trD k)]:=by
 refine zdb (fun i a Γ=>∃ s0,a=((ks.take i).filter (bf k.lab)).map trD/\Γ=[s0,.val (trD k)]) ⟨.emp,rfl,rfl⟩ ?_ ?_
 ·rintro i d a Γ hd ⟨s0,rfl,rfl⟩
  rw [yH] at hd
  cases hc:ks[i]? with
  | none=>rw [hc] at hd; cases hd
  | some x =>
   rw [hc] at hd; cases hd; simp [zt,zC,tC',zax,tB',zQ,zv,zJ,zE,zF,zV]
   refine ⟨x.lab,k.lab,rfl,hks x (yf hc),hp,fun b hb=>?_⟩
   have eb:bf k.lab x=b:=by
    cases b with
    | true=>exact zfC.mpr (hb.mp rfl)
    | false=>exact Bool.eq_false_iff.mpr fun z=>Bool.noConfusion (hb.mpr (zfC.mp z))
   rw [Yf,hc,JC]
   cases b <;> simp [eb,Res.toD]
 ·rintro a Γ ⟨s0,rfl,rfl⟩
  rw [show List.take (List.map trD ks).length ks=ks from yh (by rw [yE]; exact yD _)]
  exact h
def ziC (L:Nat):(Builtin.Range.rangeSize ((L:Int)-1) (-1) (-1)).toNat=L:=by
 unfold Builtin.Range.rangeSize; split
 ·omega
 ·split
  ·rw [show (- -1:Int)=1 from rfl,Int.ediv_one]
   omega
  ·omega
theorem zhg (m:Tr) (Q:List D->Prop):∀ (ks:List Tr) (acc:List D) (s0:Slot),Q (acc ++ ks.map fun k=>trD (if k.lab=m.lab then m else k)) ->
  zcK (zt 0) zis (zps (tB' (zax zmu (zax zfl (zC 0) (tC' (D.int 0))) (zax zfl (zC 1) (tC' (D.int 0))))) (zC 1) (zC 0)) Q (ks.map trD) acc [s0,.val (trD m)]
 | [],acc,s0,h=>by simpa [zcK] using h
 | k :: ks,acc,s0,h=>by
  have ih:=zhg m Q ks (acc ++ [trD (if k.lab=m.lab then m else k)]) (.val (trD k)) (by simpa using h)
  rw [zai k] at ih; simp only [yW,zcK]; rw [zai m] at ih ⊢; rw [zai k]
  by_cases e:k.lab=m.lab
  ·rw [yM e,zai m] at ih
   simpa [vo,voS,zt,zis,zps,tB',zax,zC,tC',e] using ih
  ·rw [yK e,zai k] at ih
   simpa [vo,voS,zt,zis,zps,tB',zax,zC,tC',e] using ih
def zqn {t nd:Tr} {p:Pl} (h:zr t p=some nd):∃ ab,zr t p.dropLast=some ab:=by
 have:=M06.wd_up (t:=t) (q:=p) (zh2.mpr ⟨nd,h⟩)
 exact zh2.mp this
section
variable {T:Cs}
def zcx:FnScope ["tree","place","node","label"] ["tree","place"] (zl zeu):=sc0
def zjQ (d:Df K mg "node_at" zeu ["tree","place"]) (G_kid_with:Fn P w K mg base 1 "kid_with" ["node","label"] zaC):Fn P w K mg base 2 "node_at" ["tree","place"] zar:=by
 refine d.ok zcx (fun ds Q h=>?_) (fun f cdv A outer s H E hr ds Q h=>⟨_,(zm (zH 2 zcx.nd (pv' 0))
  (zm (zbJ (zbK (pv' 1)) (zaa 3 zcx.nd)
   (zm (zH 2 zcx.nd (zaG G_kid_with (hr.mono (by decide)) (zc (pv' 2) (zc (pv' 3) zi))))
  (zo (zam (zK zqj (pv' 2) zci) (zo (zI zci)) zU))))
  (zo (zI (pv' 2))))),?_⟩)
 ·obtain ⟨t,l,rfl,_⟩:=h
  rfl
 obtain ⟨t,p,rfl,q⟩:=h; simp [zag,zP,zaz,zal,zt,zC,tC',zax,tB',zQ,zv,zaX,zbz,zJ,zO,zE,zF,zV,zaC]
 have key:∀ (p:Pl) (t:Tr) (A B s3:Slot),Q (.val (ziU (zr t p)))->zgn (zt 3) (zag (zal (zJ zaC (zv (zC 2) (zv (zC 3) zQ))) (zt 2)) (zaz (tB' (zax (zmt false) (zC 2) (tC' D.non))) (zP (tC' D.non)) zO))
   { nx:=zP (zC 2) { nx:=fun x=>Q (Res.val D.non),rt:=fun r x=>Q r },rt:=fun r x=>Q r } (p.map D.str) [A,B,.val (trD t),s3]:=by
  intro p
  induction p with
  | nil=>intro t A B s3 q; simpa [zgn,zP,zC,zr,ziU] using q
  | cons l p ih =>
   intro t A B s3 q; simp only [yW,zgn]; simp [zt,zag,zal,zJ,zv,zQ,zC,tC',zaz,tB',zax,zP,zO,zaC,Res.toD,zmt]; refine ⟨t,l,⟨rfl,rfl⟩,?_⟩
   cases hk:zn l t.kds with
   | none =>
    have:zr t (l :: p)=none:=by simp [zr,hk]
    rw [this] at q
    simpa [ziU] using q
   | some k =>
    have:zr t (l :: p)=zr k p:=by simp [zr,hk]
    rw [this] at q
    simpa [ziU,zcw] using ih k A B _ q
 exact key _ _ _ _ _ q
def zaQ:FnScope ["tree","place","node","made","length","above","kids"] ["tree","place","node"] (zl zbZ):=sc0
def zgP (d:Df K mg "with_node" zbZ ["tree","place","node"]) (G_node_at:Fn P w K mg base 2 "node_at" ["tree","place"] zar) (z_len:mg "len"=none) (z_range:mg "range"=none) (z_tuple:mg "tuple"=none):Fn P w K mg base 3 "with_node" ["tree","place","node"] zbb:=by
 refine d.ok zaQ (fun ds Q h=>?_) (fun f cdv A outer s H E hr ds Q h=>⟨_,(zm (zH 3 zaQ.nd (pv' 2))
  (zm (zbJ (zjM z_range (zc (zB zu4 (zw zbg z_len YF (zc (pv' 1) zi)) zk) (zc zbv (zc zbv zi)))) (zaa 4 zaQ.nd)
   (zm (zH 5 zaQ.nd (zaG G_node_at (hr.mono (by decide)) (zc (pv' 0) (zc (zbF s_A (pv' 1) zd7 (zcI (pv' 4))) zi))))
  (zm (zH 6 zaQ.nd (zaj zcv z_tuple YA (zc (zbf (zc3 (fsc:=zl zbZ) (N:=["tree","place","node","made","length","above","kids"]) (N':=["kid","made"]) (src:=[none,some 3]) (by refine ⟨rfl,?_,?_,?_,rfl,rfl⟩ <;> decide +kernel) (zbK (zD (i_A (zN hr)) (pv' 5) zk)) (fun _ _ _ _ _ _=>(zaa 0 (show (["kid","made"]:List Str).Nodup by decide +kernel))) (fun _ _ _ _ _ _=>zfX) (fun _ _ _ _ _ _=>(zsq (zK (zd8 (zb4 hr)) (zD (i_A (zN hr)) (pv' 0) zk) (zD (i_A (zN hr)) (pv' 1) zk)) (pv' 1) (pv' 0))))) zi)))
  (zo (zH 3 zaQ.nd (zT (zc (zD (i_A (zN hr)) (pv' 5) zk) (zc (zD (i_A (zN hr)) (pv' 5) zk) (zc (pv' 6) zi)))))))))
  (zo (zI (pv' 3))))),?_⟩)
 ·obtain ⟨t,p,n,rfl,_⟩:=h
  rfl
 obtain ⟨t,p,n,rfl,hl,hs,hk,q⟩:=h; simp [zag,zP,zal,zt,zC,tC',zbr,zax,tB',zps,zQ,zv,zau,zbB,zdW,zba,zdY,zaX,zbz,zlO,zaW,zJ,zis,zE,zF,zV,zbr,zar]
 refine ⟨by omega,?_⟩
 refine zeZ (fun i Γ=>∃ (k:Tr) (s4 s5 s6:Slot),i<=p.length/\zr t (p.take (p.length-i))=some k/\Γ=[.val (trD t),.val (plc p),.val (trD n),.val (trD (za6 k (p.drop (p.length-i)) n)),s4,s5,s6]) ?_ ?_ ?_
 ·obtain ⟨k,e⟩:=YH.mp hs
  refine ⟨k,.emp,.emp,.emp,YB _,?_,?_⟩
  ·simpa using e
  ·simp [za6]
 ·rintro i d Γ hd ⟨k,s4,s5,s6,hi,hn,rfl⟩
  unfold ztI at hd; rw [yH] at hd; obtain ⟨c,hc,rfl⟩:=YY.mp hd; have hc1:=(yG.mp hc).1; rw [List.length_range] at hc1; rw [Ys hc1] at hc; cases hc
  have hsz:i<p.length:=by
   rw [ziC] at hc1; exact hc1
  obtain ⟨j,hj⟩:∃ j,p.length=i+(j+1):=⟨p.length-i-1,by omega⟩
  have e1:p.length-i=j+1:=by omega
  have e2:p.length-(i+1)=j:=by omega
  have e3:((p.length:Int)-1+(i:Int) * -1)=(j:Int):=by omega
  rw [e1] at hn; obtain ⟨a,ha⟩:=YH.mp (zh3 hs j)
  have hjl:j<p.length:=by omega
  have et:p.take (j+1)=p.take j ++ [p[j]]:=by rw [Yf,yC hjl]; rfl
  have ed:p.drop j=p[j] :: p.drop (j+1):=YN hjl
  rw [et,zc5,ha] at hn
  have hk2:=hk j (by omega) a ha
  simp only [e1,e3]; simp [zt,zag,zal,zJ,zv,zQ,zC,tC',zdW,zba,zdY,zar,Res.toD,zmc]; refine ⟨t,p.take j,⟨rfl,rfl⟩,?_⟩; rw [ha]
  have hwr:za6 a (p.drop j) n=zrr a (za6 k (p.drop (j+1)) n):=by
   rw [ed]; simp only [za6]
   rw [show zn p[j] a.kds=some k from hn]
  generalize hm:za6 k (p.drop (j+1)) n=m at hwr; simp only [ziU]; rw [zai a]; simp [zag,zP,zal,zt,zC,tC',zbr,zax,tB',zps,zQ,zv,zau,zbB,zdW,zba,zdY,zaX,zbz,zlO,zaW,zJ,zis,zE,zF,zV,zbr]
  refine ⟨small (by omega),zhg m _ a.kds [] _ ?_⟩
  refine ⟨by omega,a,by rw [e2]; exact ha,?_⟩
  rw [e2,hwr,zai (zrr a m)]; simp [zrr,Tr.lab,Tr.wds,Tr.kds,ym,Function.comp_def]
 ·rintro Γ ⟨k,s4,s5,s6,hi,hn,rfl⟩
  have hL:(ztI ((p.length:Int)-1) (-1) (-1)).length=p.length:=by
   unfold ztI; rw [yE,List.length_range,ziC]
  rw [hL] at hn; simp only [Nat.sub_self,List.take_zero,zr,Option.some.injEq] at hn; subst hn; rw [hL]
  simpa [zP,zC] using q
def zes:FnScope ["one","other"] ["one","other"] (zl zbI):=sc0
def zeD (d:Df K mg "label_before" zbI ["one","other"]) (G_label_rank:Fn P w K mg base 2 "label_rank" ["label"] zbW):Fn P w K mg base 3 "label_before" ["one","other"] zaB:=by
 refine d.ok zes (fun ds Q h=>?_) (fun f cdv A outer s H E hr ds Q h=>⟨_,(zo (zI (zlc (zu6 hr.units0) (zaG G_label_rank (hr.mono (by decide)) (zc (pv' 0) zi)) (zaG G_label_rank (hr.mono (by decide)) (zc (pv' 1) zi))))),?_⟩)
 ·obtain ⟨l,m,rfl,_⟩:=h
  rfl
 obtain ⟨l,m,rfl,hl,hm,q⟩:=h; simp [zP,zC,zax,zQ,zv,zJ,zE,zF,zV]; refine ⟨l,rfl,hl,m,rfl,hm,?_⟩; refine ⟨_,_,_,_,rfl,rfl,q _ ?_⟩; rw [YE]; exact Iff.rfl
def zbD:FnScope ["tree","place","node"] ["tree","place"] (zl za0):=sc0
def zdn (d:Df K mg "node_or_refusal" za0 ["tree","place"]) (cf:CF K T) (G_node_at:Fn P w K mg base 2 "node_at" ["tree","place"] zar) (m_NoPlace:mg "NoPlace"=some (.ref T.NoPlace)) (X_NoPlace:XcI P w K mg base 1 "NoPlace" T.NoPlace "place" za4):FnX P w K mg base 3 "node_or_refusal" ["tree","place"] (zav T):=by
 refine d.okx zbD (fun ds Q E' h=>?_) (fun f cdv A outer s H E hr ds Q E' h=>⟨_,(zaH (PS'.x (zH 2 zbD.nd (zaG G_node_at (hr.mono (by decide)) (zc (pv' 0) (zc (pv' 1) zi)))))
  (zaH (zik (zK zqj (pv' 2) zci) (zbh (zel zcD X_NoPlace zda (hr.mono (by decide)) (zc (pv' 1) zi))) zfD)
  (zbh (PS'.x (zI (pv' 2)))))),?_⟩)
 ·obtain ⟨t,p,rfl,_⟩:=h
  rfl
 obtain ⟨t,p,rfl,hp,q,q2⟩:=h; simp [zP,zal,zt,zC,tC',zax,tB',zQ,zv,zJ,zO,zkq,xS,zhu,zem,zE,zF,zV,zar]; refine ⟨t,p,⟨rfl,rfl⟩,?_⟩
 cases hn:zr t p with
 | none=>simpa [ziU,zmt] using ⟨⟨p,rfl,hp⟩,q2 hn⟩
 | some nd=>simpa [ziU,zmt,zcw] using q nd hn
def zbX:FnScope ["tree","place","node","above","ahead","kids"] ["tree","place","node"] (zl zcy):=sc0
def zhR (d:Df K mg "with_kid" zcy ["tree","place","node"]) (cf:CF K T) (G_label_before:Fn P w K mg base 3 "label_before" ["one","other"] zaB) (G_kid_with:Fn P w K mg base 1 "kid_with" ["node","label"] zaC) (G_node_or_refusal:FnX P w K mg base 3 "node_or_refusal" ["tree","place"] (zav T)) (G_with_node:Fn P w K mg base 3 "with_node" ["tree","place","node"] zbb) (z_len:mg "len"=none) (z_tuple:mg "tuple"=none) (m_NoPlace:mg "NoPlace"=some (.ref T.NoPlace)) (X_NoPlace:XcI P w K mg base 1 "NoPlace" T.NoPlace "place" za4):FnX P w K mg base 4 "with_kid" ["tree","place","node"] (zbs T):=by
 refine d.okx zbX (fun ds Q E' h=>?_) (fun f cdv A outer s H E hr ds Q E' h=>⟨_,(zaH (zpe 3 zbX.nd (zkp G_node_or_refusal (hr.mono (by decide)) (zc (pv' 0) (zc (pv' 1) zi))))
  (zaH (zik (zK znB (zaG G_kid_with (hr.mono (by decide)) (zc (pv' 3) (zc (zD (i_A (zN hr)) (pv' 2) zk) zi))) zci) (zbh (zel zcD X_NoPlace zda (hr.mono (by decide)) (zc (pv' 1) zi))) zfD)
  (zaH (PS'.x (zH 4 zbX.nd (zaj zcv z_tuple YA (zc (zbf (zc3 (fsc:=zl zcy) (N:=["tree","place","node","above","ahead","kids"]) (N':=["kid","node"]) (src:=[none,some 2]) (by refine ⟨rfl,?_,?_,?_,rfl,rfl⟩ <;> decide +kernel) (zbK (zD (i_A (zN hr)) (pv' 3) zk)) (fun _ _ _ _ _ _=>(zaa 0 (show (["kid","node"]:List Str).Nodup by decide +kernel))) (fun _ _ _ _ _ _=>(zdm (zaE (zaG G_label_before (hr.mono (by decide)) (zc (zD (i_A (zN hr)) (pv' 0) zk) (zc (zD (i_A (zN hr)) (pv' 1) zk) zi)))))) (fun _ _ _ _ _ _=>(pv' 0)))) zi))))
  (zaH (PS'.x (zH 5 zbX.nd (zB zaR (zB zaR (pv' 4) (zT (zc (pv' 2) zi))) (zbF s_A (zD (i_A (zN hr)) (pv' 3) zk) (zcI (zw zbg z_len YF (zc (pv' 4) zi))) zd7))))
  (zbh (PS'.x (zI (zaG G_with_node (hr.mono (by decide)) (zc (pv' 0) (zc (pv' 1) (zc (zT (zc (zD (i_A (zN hr)) (pv' 3) zk) (zc (zD (i_A (zN hr)) (pv' 3) zk) (zc (pv' 5) zi)))) zi))))))))))),?_⟩)
 ·obtain ⟨t,p,k,c,n,rfl,_⟩:=h
  rfl
 obtain ⟨t,p,k,c,n,rfl,hw,hc,hp,hl,q,q2⟩:=h; have hp9:=hp.1; simp [zP,zal,zt,zC,tC',zbr,zax,tB',zQ,zv,zau,zbB,zdW,zba,zdY,zbz,zaW,zJ,zO,zkq,xS,zhu,zrq,zff,zem,zE,zF,zV,zbr]
 refine ⟨t,p,rfl,hp,fun nd hn=>?_,fun hn=>q2 fun nd z=>by rw [hn] at z; cases z⟩
 simp [Res.toD,zaC]; refine ⟨nd,k.lab,⟨rfl,rfl⟩,?_⟩
 cases hk:zn k.lab nd.kds with
 | some k2=>simpa [ziU,zmt,zcw] using ⟨⟨p,rfl,hp⟩,q2 fun nd' z=>by rw [hn] at z; cases z; rw [hk]; rfl⟩
 | none =>
 simp [ziU,zmt]; have wn:=(hw.at hn).2; have hf:=wn.few; have hfl:=JF (bf k.lab) nd.kds
 refine ⟨small (by omega),zqX hl wn.plab ?_⟩
 refine .inr ⟨_,_,rfl,rfl,small (by simp; omega),?_⟩
 rw [zek,yE,zmd]
 refine .inr ⟨_,_,rfl,rfl,small (by simp; omega),?_⟩
 have e:D.tup [D.str nd.lab,plc nd.wds,D.tup (List.map trD (List.filter (bf k.lab) nd.kds) ++ [trD k] ++ List.map trD (List.drop (List.filter (bf k.lab) nd.kds).length nd.kds))]=trD (.node nd.lab nd.wds (zc9 (nd.kds ++ [k]))):=by
  rw [<- zlH wn hl hk]
  conv=>rhs; rw [zai]
  rw [zn4]; simp [Tr.lab,Tr.wds]
 show zbb [trD t,plc p,D.tup [D.str nd.lab,plc nd.wds,D.tup _]] _
 rw [e]
 refine ⟨t,p,_,rfl,by omega,by rw [hn]; rfl,zoX hw hc,?_⟩
 rw [zeH hw hn]; exact q nd hn hk
def zdE:FnScope ["tree","place","above","kids"] ["tree","place"] (zl zdk):=sc0
def zjP (d:Df K mg "without" zdk ["tree","place"]) (cf:CF K T) (G_node_at:Fn P w K mg base 2 "node_at" ["tree","place"] zar) (G_node_or_refusal:FnX P w K mg base 3 "node_or_refusal" ["tree","place"] (zav T)) (G_with_node:Fn P w K mg base 3 "with_node" ["tree","place","node"] zbb) (z_tuple:mg "tuple"=none) (m_NoPlace:mg "NoPlace"=some (.ref T.NoPlace)) (X_NoPlace:XcI P w K mg base 1 "NoPlace" T.NoPlace "place" za4):FnX P w K mg base 4 "without" ["tree","place"] (zbL T):=by
 refine d.okx zdE (fun ds Q E' h=>?_) (fun f cdv A outer s H E hr ds Q E' h=>⟨_,(zaH (zik (zK (zd8 (zb4 hr)) (pv' 1) (zT zi)) (zbh (zel zcD X_NoPlace zda (hr.mono (by decide)) (zc (pv' 1) zi))) zfD)
  (zaH (zfE (zkp G_node_or_refusal (hr.mono (by decide)) (zc (pv' 0) (zc (pv' 1) zi))))
  (zaH (PS'.x (zH 2 zdE.nd (zaG G_node_at (hr.mono (by decide)) (zc (pv' 0) (zc (zbF s_A (pv' 1) zd7 (zcI zbv)) zi)))))
  (zaH (PS'.x (zH 3 zdE.nd (zaj zcv z_tuple YA (zc (zbf (zc3 (fsc:=zl zdk) (N:=["tree","place","above","kids"]) (N':=["kid","place"]) (src:=[none,some 1]) (by refine ⟨rfl,?_,?_,?_,rfl,rfl⟩ <;> decide +kernel) (zbK (zD (i_A (zN hr)) (pv' 2) zk)) (fun _ _ _ _ _ _=>(zaa 0 (show (["kid","place"]:List Str).Nodup by decide +kernel))) (fun _ _ _ _ _ _=>(zdm (zK (zh1 (zb4 hr)) (zD (i_A (zN hr)) (pv' 0) zk) (zD (i_A (zN hr)) (pv' 1) zbv)))) (fun _ _ _ _ _ _=>(pv' 0)))) zi))))
  (zbh (PS'.x (zI (zaG G_with_node (hr.mono (by decide)) (zc (pv' 0) (zc (zbF s_A (pv' 1) zd7 (zcI zbv)) (zc (zT (zc (zD (i_A (zN hr)) (pv' 2) zk) (zc (zD (i_A (zN hr)) (pv' 2) zk) (zc (pv' 3) zi)))) zi))))))))))),?_⟩)
 ·obtain ⟨t,p,c,n,rfl,_⟩:=h
  rfl
 obtain ⟨t,p,c,n,rfl,hw,hc,hp,q,q2⟩:=h; have hp9:=hp.1
 by_cases h0:p=[]
 ·subst h0
  simp [zP,zal,zt,zC,tC',zbr,zax,tB',zQ,zv,zau,zbB,zdW,zba,zdY,zbz,zaW,zJ,zO,zkq,xS,zhu,zgo,zff,zem,zE,zF,zV,zbr]; exact ⟨⟨[],rfl,hp⟩,q2 (.inl rfl)⟩
 simp [zP,zal,zt,zC,tC',zbr,zax,tB',zQ,zv,zau,zbB,zdW,zba,zdY,zbz,zaW,zJ,zO,zkq,xS,zhu,zgo,zff,zem,zE,zF,zV,zbr,zar,h0]
 refine ⟨t,p,rfl,hp,fun nd hn=>?_,fun hn=>q2 (.inr hn)⟩
 obtain ⟨ab,hab⟩:=zqn hn
 show ∃ t_1 p_1,_
 refine ⟨t,p.dropLast,⟨rfl,zcu _⟩,?_⟩; have wab:=(hw.at hab).2; have hf:=wab.few; rw [hab]; simp [ziU,zq7]
 refine ⟨small (by omega),zqW h0 ?_⟩
 rw [zcu]
 have e:D.tup [D.str ab.lab,plc ab.wds,D.tup (List.map trD (List.filter (fun k=>decide (k.lab≠zay p)) ab.kds))]=trD (.node ab.lab ab.wds (List.filter (fun k=>decide (k.lab≠zay p)) ab.kds)):=by rw [zai]; rfl
 rw [e]
 refine ⟨t,p.dropLast,_,rfl,by simp; omega,by rw [hab]; rfl,zoX hw hc,?_⟩
 rw [zeH hw hab]; exact q nd ab h0 hn hab
end
def ndD (ns:Nd):List (D × D):=ns.map fun x=>(plc x.1,plc x.2)
def zab:Sp':=fun ds Q=>∃ c:Int,ds=[.int c]/\∀ l,zu l=true->Q (.val (.str l))
def zaY:Sp':=fun ds Q=>∃ c:Int,ds=[.int c]/\∀ l,Q (.val (.str l))
def zaO:Sp':=fun ds Q=>∃ c:Int,ds=[.int c]/\∀ ws:Pl,ws.length<=4->Q (.val (plc ws))
def zbp:Sp':=fun ds Q=>∃ l,ds=[.str l]/\zu l=true/\Q (.val (keyD l))
def zaA:Nat->Sp'
 | 0=>fun _ _=>False
 | n+1=>fun ds Q=>∃ d,ds=[d,d]/\Pln n d/\Q (.val (.bl true))
instance:MSp zab:=⟨fun _ _ _ h ⟨c,e,q⟩=>⟨c,e,fun l z=>h _ (q l z)⟩⟩
instance:MSp zaY:=⟨fun _ _ _ h ⟨c,e,q⟩=>⟨c,e,fun l=>h _ (q l)⟩⟩
instance:MSp zaO:=⟨fun _ _ _ h ⟨c,e,q⟩=>⟨c,e,fun l z=>h _ (q l z)⟩⟩
@[simp] theorem sz5:5<=sizeLine:=small (by decide)
@[simp] theorem sz8:8<=sizeLine:=small (by decide)
section
def zd0:FnScope ["_law_cell","_law_number"] ["_law_cell"] (zl zc1):=sc0
def zgT (d:Df K mg "_law_label" zc1 ["_law_cell"]) (z_str:mg "str"=none):Fn P w K mg base 1 "_law_label" ["_law_cell"] zab:=by
 refine d.ok zd0 (fun ds Q h=>?_) (fun f cdv A outer s H E hr ds Q h=>⟨_,(zm (zH 1 zd0.nd (zD (i_A (zN hr)) (zbf (zfo (zc zk (zc zk (zc zk (zc zk (zc (zB zaR zk (zB zcl (zB ziW (zB zbw (pv' 0) zk) zk) zk)) zi))))))) (zB zcl (pv' 0) zk)))
  (zo (zI (zB zaR (zaj zvv z_str PyProof.Rows.boot_str (zc (pv' 1) zi)) (zD (i_A (zN hr)) (zbf (zfo (zc (za3 []) (zc (za3 [97]) (zc (za3 []) (zc (za3 [98]) (zc (za3 [97,97]) (zc (za3 []) (zc (za3 [97,122]) (zc (za3 [122,122,122]) zi)))))))))) (zB zcl (zB zbw (pv' 0) zk) zk)))))),?_⟩)
 ·obtain ⟨c,rfl,_⟩:=h
  rfl
 obtain ⟨c,rfl,hq⟩:=h; simp [zag,zP,zal,zt,zC,tC',zbr,zax,zQ,zv,zdC,zbB,zE,zF,zV,zbr,zop,zoo]
 obtain ⟨d,e1,m1⟩:=ze6 [D.int 1,D.int 2,D.int 3,D.int 10,D.int (1+c / 40 * 48271 % 999999999)] (md (i:=c) (n:=5) (by decide)).1 (md (i:=c) (n:=5) (by decide)).2
 have hm:=md (i:=c / 40 * 48271) (n:=999999999) (by decide)
 have hd:∃ n:Int,d=.int n/\1<=n/\n<10 ^ 9:=by
  simp only [yP,yx,or_false] at m1
  rcases m1 with rfl | rfl | rfl | rfl | rfl
  ·exact ⟨_,rfl,by omega,by omega⟩
  ·exact ⟨_,rfl,by omega,by omega⟩
  ·exact ⟨_,rfl,by omega,by omega⟩
  ·exact ⟨_,rfl,by omega,by omega⟩
  ·exact ⟨_,rfl,by omega,by omega⟩
 obtain ⟨n,rfl,h0,h1⟩:=hd; refine ⟨.int n,e1,?_⟩; rw [zpB]
 refine ⟨zlr (by omega) (by omega),?_⟩
 obtain ⟨x,e2,m2⟩:=ze6 [D.str [],D.str [97],D.str [],D.str [98],D.str [97,97],D.str [],D.str [97,122],D.str [122,122,122]] (md (i:=c / 5) (n:=8) (by decide)).1 (md (i:=c / 5) (n:=8) (by decide)).2
 have hx:∃ l:List Nat,x=.str l/\l.length<=3/\∀ c ∈ l,sml c=true:=by
  simp only [yP,yx,or_false] at m2
  rcases m2 with rfl | rfl | rfl | rfl | rfl | rfl | rfl | rfl <;> exact ⟨_,rfl,by decide,by decide⟩
 obtain ⟨l,rfl,hl,hs⟩:=hx; refine ⟨.str l,e2,?_⟩; rw [zkY]; obtain ⟨n1,n2,n3,n4⟩:=M11.num_lab h0 h1
 exact ⟨small (by omega),hq _ (M11.lab_of n1 n2 n3 n4 hs hl)⟩
def zbt:FnScope ["_law_cell","_law_word_here","_law_k","_law_at"] ["_law_cell"] (zl zdG):=sc0
def zhS (d:Df K mg "_law_word" zdG ["_law_cell"]) (z_range:mg "range"=none):Fn P w K mg base 1 "_law_word" ["_law_cell"] zaY:=by
 refine d.ok zbt (fun ds Q h=>?_) (fun f cdv A outer s H E hr ds Q h=>⟨_,(zm (zH 1 zbt.nd (zD (i_A (zN hr)) (za3 [97,98,49,122]) (zB zcl (pv' 0) zk)))
  (zm (zbJ (zfr z_range (zc (zD (i_A (zN hr)) (zbf (zfo (zc zk (zc zk (zc zk (zc zk zi)))))) (zB zcl (zB zbw (pv' 0) zk) zk)) zi)) (zaa 2 zbt.nd)
   (zm (zH 3 zbt.nd (zB zaR (zB zbw (pv' 0) zk) (zB ziW (pv' 2) (zB zaR zk (zB zcl (zB zbw (pv' 0) zk) zk)))))
  (zo (zH 1 zbt.nd (zB zaR (pv' 1) (zD (i_A (zN hr)) (za3 wsg) (zB zcl (pv' 3) zk)))))))
  (zo (zI (pv' 1))))),?_⟩)
 ·obtain ⟨c,rfl,_⟩:=h
  rfl
 obtain ⟨c,rfl,hq⟩:=h; simp [zag,zP,zal,zt,zC,tC',zbr,zax,zQ,zv,zdC,zaX,zfw,zE,zF,zV,zbr,zop]
 obtain ⟨z,e1,m1⟩:=ze6 [97,98,49,122] (md (i:=c) (n:=4) (by decide)).1 (md (i:=c) (n:=4) (by decide)).2
 refine ⟨z,e1,?_⟩
 obtain ⟨d,e2,m2⟩:=ze6 [D.int 0,D.int 0,D.int 1,D.int 11] (md (i:=c / 4) (n:=4) (by decide)).1 (md (i:=c / 4) (n:=4) (by decide)).2
 have hd:∃ n:Int,d=.int n/\0<=n/\n<=11:=by
  simp only [yP,yx,or_false] at m2
  rcases m2 with rfl | rfl | rfl | rfl <;> exact ⟨_,rfl,by omega,by omega⟩
 obtain ⟨n,rfl,h0,h1⟩:=hd
 refine ⟨_,e2,n,rfl,by omega,by omega,?_⟩
 refine zeZ (fun i Γ=>∃ (l:List Nat) (s2 s3:Slot),Γ=[.val (.int c),.val (.str l),s2,s3]/\l.length=1+i) ⟨[z],.emp,.emp,rfl,rfl⟩ ?_ ?_
 ·rintro i d Γ hd ⟨l,s2,s3,rfl,hl⟩
  rw [yH] at hd
  have hi:i<n.toNat:=by
   cases hc:(List.range n.toNat)[i]? with
   | none=>rw [hc] at hd; cases hd
   | some k=>simpa using (yG.mp hc).1
  rw [Ys hi] at hd; cases hd
  have hm:=md (i:=c / 5) (n:=7) (by decide)
  simp [zag,zP,zal,zt,zC,tC',zbr,zax,zQ,zv,zdC,zaX,zfw,zE,zF,zV,zbr,zop]
  refine ⟨.inr ⟨by omega,by omega⟩,?_⟩
  obtain ⟨y,e3,m3⟩:=ze6 wsg (md (i:=c / 16+↑i * (1+c / 5 % 7)) (n:=36) (by decide)).1 (md (i:=c / 16+↑i * (1+c / 5 % 7)) (n:=36) (by decide)).2
  exact ⟨small (by decide),⟨y,e3⟩,small (by omega),by omega⟩
 ·rintro Γ ⟨l,s2,s3,rfl,hl⟩
  simp [zag,zP,zal,zt,zC,tC',zbr,zax,zQ,zv,zdC,zaX,zfw,zE,zF,zV,zbr]; exact hq l
def zgA:FnScope ["_law_cell"] ["_law_cell"] (zl zb0):=sc0
def zgQ (d:Df K mg "_law_words" zb0 ["_law_cell"]) (G_law_word:Fn P w K mg base 1 "_law_word" ["_law_cell"] zaY) (z_range:mg "range"=none) (z_tuple:mg "tuple"=none):Fn P w K mg base 2 "_law_words" ["_law_cell"] zaO:=by
 refine d.ok zgA (fun ds Q h=>?_) (fun f cdv A outer s H E hr ds Q h=>⟨_,(zo (zI (zaj zcv z_tuple YA (zc (zbf (zc3 (fsc:=zl zb0) (N:=["_law_cell"]) (N':=["_law_k","_law_cell"]) (src:=[none,some 0]) (by refine ⟨rfl,?_,?_,?_,rfl,rfl⟩ <;> decide +kernel) (zfr z_range (zc (zB zcl (pv' 0) zk) zi)) (fun _ _ _ _ _ _=>(zaa 0 (show (["_law_k","_law_cell"]:List Str).Nodup by decide +kernel))) (fun _ _ _ _ _ _=>zfX) (fun _ _ _ _ _ _=>(zaG G_law_word (hr.mono (by decide)) (zc (zB zaR (zB zbw (pv' 1) zk) (zB ziW (pv' 0) (zB zaR zk (zB zcl (zB zbw (pv' 1) zk) zk)))) zi))))) zi)))),?_⟩)
 ·obtain ⟨c,rfl,_⟩:=h
  rfl
 obtain ⟨c,rfl,hq⟩:=h; simp [zP,zt,zC,tC',zbr,zax,zQ,zv,zbB,zfw,zaW,zJ,zis,zE,zF,zV,zbr,zaY]
 have hm:=md (i:=c) (n:=5) (by decide)
 have h5:5<=sizeLine:=sz5
 refine ⟨by omega,by omega,by omega,?_⟩
 refine zdb (fun i acc Γ=>∃ (ws:Pl) (s0:Slot),acc=ws.map .str/\ws.length=i/\Γ=[s0,.val (.int c)]) ⟨[],.emp,rfl,rfl,rfl⟩ ?_ ?_
 ·rintro i d acc Γ hd ⟨ws,s0,rfl,hl,rfl⟩
  rw [yH] at hd
  have hi:i<(c % 5).toNat:=by
   cases hc:(List.range (c % 5).toNat)[i]? with
   | none=>rw [hc] at hd; cases hd
   | some k=>simpa using (yG.mp hc).1
  rw [Ys hi] at hd; cases hd
  have hm2:=md (i:=c / 20) (n:=3) (by decide)
  simp [zP,zt,zC,tC',zbr,zax,zQ,zv,zbB,zfw,zaW,zJ,zis,zE,zF,zV,zbr,zop,zaY]
  refine ⟨.inr ⟨by omega,by omega⟩,fun l=>⟨ws ++ [l],by simp,by simp; omega⟩⟩
 ·rintro acc Γ ⟨ws,s0,rfl,hl,rfl⟩
  rw [yE,List.length_range] at hl
  exact hq ws (by omega)
def zdF:FnScope ["_law_label_here","_law_at"] ["_law_label_here"] (zl zew):=sc0
def zjS (d:Df K mg "_law_key" zew ["_law_label_here"]) (z_int:mg "int"=none) (z_len:mg "len"=none):Fn P w K mg base 1 "_law_key" ["_law_label_here"] zbp:=by
 refine d.ok zdF (fun ds Q h=>?_) (fun f cdv A outer s H E hr ds Q h=>⟨_,(zm (zH 1 zdF.nd zk)
  (zm (zk0 (PW'.pt (zfW (zK zsI (pv' 1) (zw zbg z_len YF (zc (pv' 0) zi))) (zeb (zK (zsM (zN hr)) (zD (i_A (zN hr)) (pv' 0) (pv' 1)) (za3 ztc)))))
   (zo (zH 1 zdF.nd (zB zaR (pv' 1) zk))))
  (zo (zI (zT (zc (zaj zo6 z_int PyProof.Rows.boot_int (zc (zbF s_A (pv' 0) zd7 (zcI (pv' 1))) zi)) (zc (zbF s_A (pv' 0) (zcI (pv' 1)) zd7) zi))))))),?_⟩)
 ·obtain ⟨l,rfl,_⟩:=h
  rfl
 obtain ⟨l,rfl,hl,hq⟩:=h; obtain ⟨m,n,hm,m1,m9,ml,l12,tk,dr,cd,tf,rd,kf⟩:=zeU hl; simp [zag,zP,zal,zt,zC,tC',zax,tB',zdh,zQ,zv,zau,zbB,zdW,zba,zdY,zE,zF,zV]
 refine zks (fun Γ=>∃ k:Nat,k<=m/\Γ=[.val (.str l),.val (.int k)]) (fun Γ=>match Γ with | [_,.val (.int k)]=>m-k.toNat | _=>0) ⟨0,YB _,rfl⟩ ?_
 rintro Γ ⟨k,hk,rfl⟩
 simp [zag,zP,zal,zt,zC,tC',zax,tB',zdh,zQ,zv,zau,zbB,zdW,zba,zdY,zE,zF,zV]
 have hs:l.length<=sizeLine:=small (by omega)
 have fin:k=m->zr5 [D.str (l.take k)] fun d=>l.length<=sizeLine/\Q (.val (.tup [d,.str (l.drop k)])):=by
  rintro rfl
  rw [tk,dr]
  refine .inl ⟨cut l,n,rfl,rd,by omega,hs,?_⟩
  unfold keyD at hq; rw [kf] at hq; exact hq
 refine ⟨hs,?_⟩
 by_cases e:l.length<=k
 ·exact .inl ⟨e,hs,fin (by omega)⟩
 ·have hg:l[k]?=some (l[k]'(by omega)):=yC (by omega)
  refine .inr ⟨by omega,hs,_,zdT hg,?_⟩
  by_cases e2:k=m
  ·refine .inl ⟨?_,hs,fin e2⟩
   have:l[k]'(by omega) ∈ zdd l:=by
    rw [<- dr]; refine yf (i:=0) ?_; rw [List.getElem?_drop,Nat.add_zero,<- e2]; exact hg
   have:=tf _ this
   simpa [dig] using this
  ·refine .inr ⟨?_,⟨k+1,by omega,by simp⟩,by omega⟩
   have:l[k]'(by omega) ∈ cut l:=by
    rw [<- tk]; refine yf (i:=k) ?_
    rw [List.getElem?_take_of_lt (by omega)]
    exact hg
   have:=cd _ this
   simpa [dig] using this
def zi9 {Q:Res->Prop} {n:Nat}:∀ {ds:List D},(∀ d ∈ ds,Pln n d)->∀ (A B s2 s3:Slot),Q (.val (.bl true))->zgn (zj5 2 (zeY (zt 2) (zeY (zt 3) zj6))) (zaz (zde (tB' (zJ (zaA (n+1)) (zv (zC 2) (zv (zC 3) zQ))))) (zP (tC' (D.bl false))) zO)
  { nx:=zP (tC' (D.bl true)) { nx:=fun x=>Q (Res.val D.non),rt:=fun r x=>Q r },rt:=fun r x=>Q r } ((ds.zip ds).map fun p=>D.tup [p.fst,p.snd]) [A,B,s2,s3]:=by
 intro ds
 induction ds with
 | nil=>intro _ A B s2 s3 q; simpa [zgn,zP,tC'] using q
 | cons d ds ih =>
  intro hd A B s2 s3 q
  have ih':=ih (fun x hx=>hd x (yL _ hx)) A B (.val d) (.val d) q
  have h1:=hd d yR; simp only [List.zip_cons_cons,yW,zgn]; simp [zj5,zeY,zj6,zt,zaz,zde,tB',zJ,zv,zQ,zC,tC',zP,zO,zaA,Res.toD]; exact ⟨d,[],⟨rfl,rfl⟩,rfl,d,⟨rfl,rfl⟩,h1,ih'⟩
def zbY:FnScope ["_law_found","_law_due","_law_one","_law_other"] ["_law_found","_law_due"] (zl zdH):=sc0
def zhV (d:Df K mg "_law_same" zdH ["_law_found","_law_due"]) (z_isinstance:mg "isinstance"=none) (z_len:mg "len"=none) (z_list:mg "list"=none) (z_str:mg "str"=none) (z_tuple:mg "tuple"=none) (z_zip:mg "zip"=none):∀ n:Nat,Fn P w K mg base (n+1) "_law_same" ["_law_found","_law_due"] (zaA n):=by
 intro n
 induction n with
 | zero=>exact d.ok (k:=0) zbY (fun ds Q h=>(show False from h).elim) (fun f cdv A outer s H E hr ds Q h=>(show False from h).elim)
 | succ n ih =>
 have G_law_same:Fn P w K mg base (n+1) "_law_same" ["_law_found","_law_due"] (zaA n):=ih
 refine d.ok (k:=n+1) zbY (fun ds Q h=>?_) (fun f cdv A outer s H E hr ds Q h=>⟨_,(zm (zam (zaE (zw (zbG K rfl) z_isinstance ya (zc (pv' 1) (zc (zfs z_str PyProof.Rows.boot_str) zi)))) (zo (zI (zqb (zw (zbG K rfl) z_isinstance ya (zc (pv' 0) (zc (zfs z_str PyProof.Rows.boot_str) zi))) (zp3 (zlc (zd8 (zb4 hr)) (pv' 0) (pv' 1)))))) zU)
  (zm (zam (zaE (zw (zbG K rfl) z_isinstance ya (zc (pv' 1) (zc (zfs z_tuple YA) zi)))) (zo (zam (zc2 (zaE (zw (zbG K rfl) z_isinstance ya (zc (pv' 0) (zc (zfs z_tuple YA) zi))))) (zo (zI zca)) zU)) (zo (zam (zc2 (zaE (zw (zbG K rfl) z_isinstance ya (zc (pv' 0) (zc (zfs z_list PyProof.Rows.boot_list) zi))))) (zo (zI zca)) zU)))
  (zm (zam (zK (zh1 (zb4 hr)) (zw zbg z_len YF (zc (pv' 0) zi)) (zw zbg z_len YF (zc (pv' 1) zi))) (zo (zI zca)) zU)
  (zm (zbJ (zpX z_zip (zc (pv' 0) (zc (pv' 1) zi))) (zp1 (n:=2) (zgJ (zaa 2 zbY.nd) (zgJ (zaa 3 zbY.nd) znk)))
   (zo (zam (zc2 (zaE (zaG G_law_same (hr.mono (by omega)) (zc (pv' 2) (zc (pv' 3) zi))))) (zo (zI zca)) zU)))
  (zo (zI zca)))))),?_⟩)
 ·obtain ⟨d,rfl,_⟩:=h
  rfl
 obtain ⟨d,rfl,hp,q⟩:=h
 cases hp with
 | str n l =>
  simp [zag,zP,zaz,zt,zC,tC',zax,tB',zde,ziw,zQ,zv,zbB,zaX,zJ,zO,zj5,zeY,zj6,zoa,zE,zF,zV]; exact q
 | tup hd =>
  simp [zag,zP,zaz,zt,zC,tC',zax,tB',zde,ziw,zQ,zv,zbB,zaX,zJ,zO,zj5,zeY,zj6,zoa,zE,zF,zV]; exact zi9 hd _ _ _ _ q
 | lst hd =>
  simp [zag,zP,zaz,zt,zC,tC',zax,tB',zde,ziw,zQ,zv,zbB,zaX,zJ,zO,zj5,zeY,zj6,zoa,zE,zF,zV]; exact zi9 hd _ _ _ _ q
end
open Classical in
def zcG {ns:Nd} {p:Pl} (h:p ∈ keys ns):zbd (ndD ns) (plc p)=some (plc (zdB ns p)):=by
 unfold zdB zbd ndD
 induction ns with
 | nil=>cases h
 | cons x r ih =>
  obtain ⟨a,b⟩:=x
  by_cases e:p=a
  ·subst e
   simp
  ·have h':p ∈ keys r:=by
    rcases yP.mp h with z | z
    ·exact yN z e
    ·exact z
   have ne:¬ plc a=plc p:=fun z=>e (zey z).symm
   have ne2:(p == a)=false:=beq_eq_false_iff_ne.mpr e
   simp only [yW,yY,ne2]; rw [YR]; simp only [ne,decide_false]; exact ih h'
def zgl {q:Pl} (h:q≠[]):atI (q.map D.str) (-1)=some (.str (zay q)):=by
 have e:=YS h
 have e2:zay q=q.getLast h:=by unfold zay; rw [Yx h]; rfl
 rw [e2]
 conv=>lhs; rw [<- e,YQ,List.map_singleton]
 exact zjp _ _
def zmP {ns:Nd} (o:NOk ns) {n:Nat} {p:Pl} (h8:8<=p.length+n):trD (zy n ns p)=.tup [.str (zay p),plc (zdB ns p),.tup ((zaV ns p).map fun q=>trD (zy (n-1) ns q))]:=by
 cases n with
 | zero =>
  rw [zg0 o (by omega)]
  rw [zai]; rfl
 | succ n =>
  rw [zai]
  show D.tup [_,_,.tup (((zaV ns p).map (zy n ns)).map trD)]=_
  rw [ym]; rfl
def zfc:D->D->Prop:=fun d k=>∃ q:Pl,d=plc q/\q≠[]/\zu (zay q)=true/\k=keyD (zay q)
def zan:Nat->Sp'
 | 0=>fun _ _=>False
 | n+1=>fun ds Q=>∃ ns p,ds=[.dit (ndD ns),plc p]/\NOk ns/\p ∈ keys ns/\8<=p.length+n/\Q (.val (trD (zy n ns p)))
instance {n:Nat}:MSp (zan n):=⟨fun _ _ _ h q=>by
 cases n with
 | zero=>exact q
 | succ n =>
  obtain ⟨ns,p,a,b,c,d,q⟩:=q; exact ⟨ns,p,a,b,c,d,h _ q⟩⟩
section
def zaZ:FnScope ["_law_nodes_here","_law_place_here","_law_kids","_law_label_here"] ["_law_nodes_here","_law_place_here"] (zl zaF):=sc0
def zhU (d:Df K mg "_law_tree" zaF ["_law_nodes_here","_law_place_here"]) (G_law_key:Fn P w K mg base 1 "_law_key" ["_law_label_here"] zbp) (z_len:mg "len"=none) (z_sorted:mg "sorted"=none) (z_tuple:mg "tuple"=none) (lo:LamOf K mg base "_law_tree" "_law_tree.<locals>.<lambda>"):∀ n:Nat,Fn P w K mg base (n+5) "_law_tree" ["_law_nodes_here","_law_place_here"] (zan n):=by
 intro n
 induction n with
 | zero=>exact d.okL lo (k:=4) zaZ (fun ds Q h=>(show False from h).elim) (fun f cdv A outer s H E la hr ds Q h=>(show False from h).elim)
 | succ n ih =>
 have G_law_tree:Fn P w K mg base (n+5) "_law_tree" ["_law_nodes_here","_law_place_here"] (zan n):=ih
 refine d.okL lo (k:=n+5) zaZ (fun ds Q h=>?_) (fun f cdv A outer s H E la hr ds Q h=>⟨_,(zm (zna 2 zaZ.nd (zm8 (fsc:=zl zaF) (N:=["_law_nodes_here","_law_place_here","_law_kids","_law_label_here"]) (N':=["_law_other","_law_place_here"]) (src:=[none,some 1]) (by refine ⟨rfl,?_,?_,?_,rfl,rfl⟩ <;> decide +kernel) (zf0 (pv' 0)) (fun _ _ _ _ _ _=>(zaa 0 (show (["_law_other","_law_place_here"]:List Str).Nodup by decide +kernel))) (fun _ _ _ _ _ _=>(zdm (PW'.pt (zfW (zK (zd8 (zb4 hr)) (zw zbg z_len YF (zc (pv' 0) zi)) (zB zaR (zw zbg z_len YF (zc (pv' 1) zi)) zk)) (zeb (zK (zd8 (zb4 hr)) (zbF s_A (pv' 0) zd7 (zcI zbv)) (pv' 1))))))) (fun _ _ _ _ _ _=>(pv' 0))))
  (zm (zH 2 zaZ.nd (zbf (ziQ (k:=1) (N:=["_law_kid_here"]) (ps:=["_law_kid_here"]) (sp:=zjA zfc) la ⟨rfl,rfl,rfl,by decide +kernel,rfl,by decide +kernel,by decide +kernel⟩ (zgx _)
   (fun f c A outer s H E hr ds Q h=>⟨_,(zaG G_law_key (hr.mono (by omega)) (zc (zD (i_A (zN hr)) (pv' 0) zbv) zi)),?lam1⟩) (fun _ _ _ us hl=>match us,hl with | [_],_=>rfl) (hr.mono (by omega)) z_sorted (zc (pv' 2) zi))))
  (zm (zH 3 zaZ.nd (za3 []))
  (zm (zam (zK (zh1 (zb4 hr)) (pv' 1) (zT zi)) (zo (zH 3 zaZ.nd (zD (i_A (zN hr)) (pv' 1) zbv))) zU)
  (zo (zI (zT (zc (pv' 3) (zc (zD (i_A (zN hr)) (pv' 0) (pv' 1)) (zc (zaj zcv z_tuple YA (zc (zbf (zc3 (fsc:=zl zaF) (N:=["_law_nodes_here","_law_place_here","_law_kids","_law_label_here"]) (N':=["_law_kid_here","_law_nodes_here"]) (src:=[none,some 0]) (by refine ⟨rfl,?_,?_,?_,rfl,rfl⟩ <;> decide +kernel) (zbK (pv' 2)) (fun _ _ _ _ _ _=>(zaa 0 (show (["_law_kid_here","_law_nodes_here"]:List Str).Nodup by decide +kernel))) (fun _ _ _ _ _ _=>zfX) (fun _ _ _ _ _ _=>(zaG G_law_tree (hr.mono (by omega)) (zc (pv' 1) (zc (pv' 0) zi)))))) zi)) zi)))))))))),?_⟩)
 case lam1 =>
  obtain ⟨d,k,rfl,⟨q,rfl,hn,hp,rfl⟩,hq⟩:=h
  simp [zag,zP,zaz,zal,zt,zC,tC',zbr,zax,tB',zdh,zQ,zv,zau,zbB,zdW,zba,zdY,zbz,zaW,zJ,zis,zO,zaM,zcQ,zE,zF,zV,zcT,zbr,zbp]; exact ⟨_,zgl hn,_,rfl,hp,hq⟩
 ·obtain ⟨ns,p,rfl,_⟩:=h
  rfl
 obtain ⟨ns,p,rfl,o,hp,h8,hq⟩:=h; simp [zag,zP,zaz,zal,zt,zC,tC',zbr,zax,tB',zdh,zQ,zv,zau,zbB,zdW,zba,zdY,zbz,zaW,zJ,zis,zO,zaM,zcQ,zE,zF,zV,zcT,zbr]
 have hnl:(ndD ns).length<=400:=by unfold ndD; rw [yE]; exact o.many
 have hkeys:List.map (fun x=>x.fst) (ndD ns)=(keys ns).map plc:=by unfold ndD keys; rw [ym,ym]; rfl
 refine ⟨small (by omega),?_⟩
 rw [hkeys]
 refine zdb (fun i acc Γ=>∃ s0,acc=((((keys ns).take i).filter fun q=>decide (q.length=p.length+1) && decide (q.dropLast=p)).map plc)/\Γ=[s0,.val (plc p)]) ⟨.emp,rfl,rfl⟩ ?_ ?_
 ·rintro i d acc Γ hd ⟨s0,rfl,rfl⟩
  rw [yH] at hd
  cases hc:(keys ns)[i]? with
  | none=>rw [hc] at hd; cases hd
  | some q =>
   rw [hc] at hd; cases hd; have hq8:=o.len q (yf hc); have hp8:=o.len p hp; rw [Yf,hc]; simp [zag,zP,zaz,zal,zt,zC,tC',zbr,zax,tB',zdh,zQ,zv,zau,zbB,zdW,zba,zdY,zbz,zaW,zJ,zis,zO,zaM,zcQ,zE,zF,zV,zcT,zbr,JC,zcu]
   by_cases h1:q.length=p.length+1
   ·refine .inr ⟨by omega,?_⟩
    by_cases h2:q.dropLast=p
    ·exact .inr ⟨h2,by simp [h1,h2]⟩
    ·exact .inl ⟨h2,fun _=>h2⟩
   ·exact .inl ⟨by omega,fun z=>yN z h1⟩
 ·rintro acc Γ ⟨s0,rfl,rfl⟩
  rw [show List.take (List.map plc (keys ns)).length (keys ns)=keys ns from yh (by rw [yE]; exact yD _)]
  rw [show List.filter (fun q:Pl=>decide (q.length=p.length+1) && decide (q.dropLast=p)) (keys ns)=zaL ns p from rfl]
  have hkl:=o.few p
  have hkc:∀ R:List D->Prop,R ((zaV ns p).map fun q=>trD (zy (n-1) ns q))->zcK (zt 0) zis (zJ (zan n) (zv (zC 1) (zv (zC 0) zQ))) R ((zaV ns p).map plc) [] [Slot.emp,Slot.val (D.dit (ndD ns))]:=by
   intro R hR
   refine zdb (fun i acc Γ=>∃ s0,acc=(((zaV ns p).take i).map fun q=>trD (zy (n-1) ns q))/\Γ=[s0,.val (D.dit (ndD ns))]) ⟨.emp,rfl,rfl⟩ ?_ ?_
   ·rintro i d acc Γ hd ⟨s0,rfl,rfl⟩
    rw [yH] at hd
    cases hc:(zaV ns p)[i]? with
    | none=>rw [hc] at hd; cases hd
    | some q =>
     rw [hc] at hd; cases hd; have hm:=yf hc; have hql:=zeQ hm
     cases n with
     | zero =>
      rw [zg0 o (by omega)] at hm
      cases hm
     | succ n =>
      simp [zag,zP,zaz,zal,zt,zC,tC',zbr,zax,tB',zdh,zQ,zv,zau,zbB,zdW,zba,zdY,zbz,zaW,zJ,zis,zO,zaM,zcQ,zE,zF,zV,zcT,zbr,zan]
      refine ⟨ns,q,⟨rfl,rfl⟩,o,(zaI.mp hm).1,by omega,?_⟩
      rw [Yf,yH,hc]; rfl
   ·rintro acc Γ ⟨s0,rfl,rfl⟩
    rw [show List.take (List.map plc (zaV ns p)).length (zaV ns p)=zaV ns p from yh (by rw [yE]; exact yD _)]
    exact hR
  have hlen:(zaV ns p).length=(zaL ns p).length:=zhC (zeC _) _ _
  refine ⟨by rw [yE]; omega,(zaL ns p).map (fun q=>keyD (zay q)),by simp,fun i x k h1 h2=>?_,ltP ((zaL ns p).map zt6),.inr ⟨(zaL ns p).map zt6,by rw [ym]; rfl,rfl⟩,?_⟩
  ·rw [yH] at h1 h2
   cases hc:(zaL ns p)[i]? with
   | none=>rw [hc] at h1; cases h1
   | some q =>
    rw [hc] at h1 h2; cases h1; cases h2; obtain ⟨m1,m2⟩:=zbP.mp (yf hc)
    refine zfM ⟨q,rfl,fun z=>?_,o.lab q m1 _ ?_,rfl⟩
    ·have:=yi List.length m2
     rw [z] at this
     simp at this
    ·rw [m2,zbR]
     simp
  ·rw [zkJ plc [] (zaL ns p) (zeC _)]
   rw [show srt (ltP ((zaL ns p).map zt6)) [] (zaL ns p)=zaV ns p from rfl]
   rw [zmP o h8] at hq
   by_cases hp0:p=[]
   ·refine .inl ⟨hp0,zea p (ndD ns) (zcG hp) ⟨small (by rw [yE]; omega),hkc _ ?_⟩⟩
    subst hp0; exact hq
   ·exact .inr ⟨hp0,_,zgl hp0,zea p (ndD ns) (zcG hp) ⟨small (by rw [yE]; omega),hkc _ hq⟩⟩
end
def zbc:Sp':=fun ds Q=>∃ ns c,ds=[.dit (ndD ns),.int c]/\NOk ns/\∀ p:Pl,zq5 p->Q (.val (plc p))
def zaP:Sp':=fun ds Q=>∃ cs:List Int,ds=[.lst (cs.map .int)]/\cs.length<=50/\∀ ns,NW ns->ns.length<=1+cs.length->Q (.own (.dit (ndD ns)))
def zbV:Sp':=fun ds Q=>∃ ns p,ds=[.dit (ndD ns),plc p]/\NOk ns/\p.length<=9/\Q (.own (.dit (ndD (zcJ ns p))))
def zaJ:Nat->SpM
 | 0=>fun _ _ _=>False
 | n+1=>fun o ds Q=>∃ ns p k c,o=.dit (ndD ns)/\ds=[plc p,trD k]/\Wf c (n+1) k/\c<=100/\p.length+n<=20/\ns.length+M71.cnt k<=900/\Q .non (.dit (ndD (zc6 ns (ent k p))))
instance:MSp zbc:=⟨fun _ _ _ h ⟨c,d,e,z,q⟩=>⟨c,d,e,z,fun l z=>h _ (q l z)⟩⟩
instance:MSp zbV:=⟨fun _ _ _ h ⟨c,d,e,z,y,q⟩=>⟨c,d,e,z,y,h _ q⟩⟩
instance {n:Nat}:MSpM (zaJ n):=⟨fun _ _ _ _ h q=>by
 cases n with
 | zero=>exact q
 | succ n =>
  obtain ⟨ns,p,k,c,a,b,z1,z2,z3,z4,q⟩:=q; exact ⟨ns,p,k,c,a,b,z1,z2,z3,z4,h _ _ q⟩⟩
theorem zf9:∀ (ns es:Nd),(keys (ns ++ es)).Nodup->zc6 ns es=ns ++ es
 | ns,[],_=>by simp [zc6]
 | ns,e :: es,h=>by
  have hn:e.1 ∉ keys ns:=by
   unfold keys at h; rw [YQ,Yo] at h; intro z
   exact h.2.2 _ z _ (by simp) rfl
  show zc6 (putN ns e.1 e.2) es=_
  have e1:putN ns e.1 e.2=ns ++ [e]:=by unfold putN; rw [yK hn]
  rw [e1,zf9 (ns ++ [e]) es (by simpa using h)]
  simp
open Classical in
def zhe {es:List (D × D)} {k v:D} (h:zbd es k=some v):(k,v) ∈ es:=by
 unfold zbd at h; obtain ⟨q,hq,e⟩:=YY.mp h; have h1:=List.mem_of_find?_eq_some hq; have h2:=List.find?_some hq; obtain ⟨a,b⟩:=q
 have h2':a=k:=by simpa using h2
 dsimp only at e
 rw [<- h2',<- e]; exact h1
open Classical in
def ze3 (ns:Nd) (q ws:Pl):zkm (ndD ns) (plc q) (plc ws)=ndD (putN ns q ws):=by
 have hs:(zbd (ndD ns) (plc q)).isSome=true↔q ∈ keys ns:=by
  constructor
  ·intro h
   obtain ⟨v,hv⟩:=YH.mp h; obtain ⟨y,hy,e⟩:=yS.mp (zhe hv)
   injection e with e1 e2
   rw [<- zey e1]; exact yX hy
  ·intro h
   rw [zcG h]; rfl
 unfold zkm putN
 by_cases e:q ∈ keys ns
 ·rw [yM (hs.mpr e),yM e]
  unfold ndD; rw [ym,ym]
  refine YI fun x _=>?_
  show (if plc x.1=plc q then (plc x.1,plc ws) else (plc x.1,plc x.2))=(plc (if x.1=q then (q,ws) else x).1,plc (if x.1=q then (q,ws) else x).2)
  by_cases z:x.1=q
  ·rw [yM (by rw [z]),yM z,z]
  ·rw [yK (fun y=>z (zey y)),yK z]
 ·rw [yK (fun z=>e (hs.mp z)),yK e]
  simp [ndD]
theorem zjl:∀ (es m:Nd),zrg (es.map fun x=>(zaT x.1,plc x.2)) (ndD m)=ndD (zc6 m es)
 | [],m=>rfl
 | e :: es,m=>by
  show zrg (es.map fun x=>(zaT x.1,plc x.2)) (zkm (ndD m) (.tup ((zaT e.1).map PL.keyD)) (plc e.2))=ndD (zc6 (putN m e.1 e.2) es)
  rw [<- za2,ze3,zjl es]
def zqV (es:Nd):zrg (es.map fun x=>(zaT x.1,plc x.2)) []=ndD (zc6 [] es):=zjl es []
def zsa {ns:Nd} (o:NOk ns) {q ws:Pl} (hl:ns.length<=59) (h8:q.length<=8) (hu:q.dropLast ∈ keys ns) (hlab:∀ l,l ∈ q->zu l=true):NOk (putN ns q ws):=by
 have hk:=zeh ns q ws
 have hlen:(putN ns q ws).length<=ns.length+1:=by
  unfold putN; split
  ·rw [yE]; omega
  ·simp
 by_cases e:q ∈ keys ns
 ·rw [yM e] at hk
  exact ⟨by rw [hk]; exact o.nil,by rw [hk]; exact o.nd,by rw [hk]; exact o.len,by rw [hk]; exact o.up,by rw [hk]; exact o.lab,by omega,fun p=>by have:=zeg (putN ns q ws) p; omega⟩
 ·rw [yK e] at hk
  refine ⟨by rw [hk]; simp [o.nil],?_,fun x hx=>?_,fun x hx=>?_,fun x hx=>?_,by omega,fun p=>by have:=zeg (putN ns q ws) p; omega⟩
  ·rw [hk,Yo]
   refine ⟨o.nd,by simp,fun a ha b hb=>?_⟩
   rw [show b=q by simpa using hb]
   exact fun z=>e (z ▸ ha)
  all_goals
   rw [hk] at hx
   rcases ye.mp hx with h | h
  ·exact o.len x h
  ·rw [show x=q by simpa using h]; exact h8
  ·rw [hk]; simp [o.up x h]
  ·rw [hk,show x=q by simpa using h]; simp [hu]
  ·exact o.lab x h
  ·rw [show x=q by simpa using h]; exact hlab
def zoy {ns:Nd} (o:NW ns) {q ws:Pl} (hw:ws.length<=4) (hl:ns.length<=59) (h8:q.length<=8) (hu:q.dropLast ∈ keys ns) (hlab:∀ l,l ∈ q->zu l=true):NW (putN ns q ws):=by
 refine ⟨zsa o.ok hl h8 hu hlab,fun x hx=>?_⟩
 unfold putN at hx; split at hx
 ·obtain ⟨y,hy,e⟩:=yS.mp hx
  rw [<- e]; split
  ·exact hw
  ·exact o.wd y hy
 ·rcases ye.mp hx with z | z
  ·exact o.wd x z
  ·rw [yd.mp z]; exact hw
section
def zaD:FnScope ["_law_cells","_law_nodes_here","_law_made","_law_cell","_law_above","_law_place_here"] ["_law_cells"] (zl zc0):=sc0
def zgS (d:Df K mg "_law_nodes" zc0 ["_law_cells"]) (G_law_label:Fn P w K mg base 1 "_law_label" ["_law_cell"] zab) (G_law_words:Fn P w K mg base 2 "_law_words" ["_law_cell"] zaO) (z_len:mg "len"=none):Fn P w K mg base 3 "_law_nodes" ["_law_cells"] zaP:=by
 refine d.ok zaD (fun ds Q h=>?_) (fun f cdv A outer s H E hr ds Q h=>⟨_,(zm (zcC 1 zaD.nd (zng (zN hr) (zT zi) (zT (zc (za3 [97,108,108]) zi))))
  (zm (zcC 2 zaD.nd (zfo (zc (zT zi) zi)))
  (zm (zbJ (zbK (pv' 0)) (zaa 3 zaD.nd)
   (zm (zH 4 zaD.nd (zez (zD (i_A (zN hr)) (pv' 2) (zB zcl (zB zaR (zB zbw (pv' 3) zk) (zB zcl (pv' 3) zk)) (zw zbg z_len YF (zc (pv' 2) zi))))))
  (zm (zH 5 zaD.nd (zB zaR (pv' 4) (zT (zc (zaG G_law_label (hr.mono (by decide)) (zc (zB zbw (pv' 3) zk) zi)) zi))))
  (zm (zam (PW'.pt (zdl (zK zwr (zw zbg z_len YF (zc (pv' 5) zi)) zk) (zdM (zK (zd8 (zb4 hr)) (zB zcl (pv' 3) zk) zk)))) (zo (zH 5 zaD.nd (pv' 4))) zU)
  (zm (zam (zhN (zK (zf5 (zN hr)) (pv' 5) (pv' 1))) (zo (zdN 2 (pv' 5))) zU)
  (zo (ziK (zN hr) 1 (pv' 5) (zaG G_law_words (hr.mono (by decide)) (zc (zB zbw (pv' 3) zk) zi)))))))))
  (zo (znb 1))))),?_⟩)
 ·obtain ⟨cs,rfl,_⟩:=h
  rfl
 obtain ⟨cs,rfl,hl,hq⟩:=h; simp [zag,zaz,zal,zt,zC,tC',zax,tB',zkg,zQ,zv,zau,zdC,zbB,zaX,zbz,zJ,zO,zdD,zcN,zgt,zdX,zaM,zit,ziv,zbQ,zjx,zE,zF,zV,zab,zaO]; refine ⟨Imm.plc _,Imm.plc _,⟨[],rfl⟩,?_⟩
 refine zeZ (fun i Γ=>∃ (ns:Nd) (mp:List Pl) (s3 s4 s5:Slot),Γ=[.val (.lst (cs.map .int)),.own (.dit (ndD ns)),.own (.lst (mp.map plc)),s3,s4,s5]/\NW ns/\ns.length<=1+i/\mp≠[]/\mp.length<=1+i/\∀ p ∈ mp,p ∈ keys ns)
  ⟨[([],[[97,108,108]])],[[]],_,_,_,rfl,⟨⟨by simp [keys],by simp [keys],by simp [keys],by simp [keys],by simp [keys],by simp,fun p=>by have:=zeg [([],[[97,108,108]])] p; simp at this; omega⟩,by simp⟩,by simp,by simp,by simp,by simp [keys]⟩ ?_ ?_
 ·rintro i d Γ hd ⟨ns,mp,s3,s4,s5,rfl,o,hle,hmp,hml,hma⟩
  have hi:i<cs.length:=by simpa using (yG.mp hd).1
  rw [yH,yC hi] at hd; cases hd
  have hpos:0<mp.length:=List.length_pos_iff.mpr hmp
  have hp0:=md (i:=cs[i] / 120+cs[i] % 120) (n:=mp.length) hpos
  obtain ⟨d,e1,m1⟩:=ze6 (mp.map plc) hp0.1 (by rw [yE]; exact hp0.2)
  obtain ⟨p,mq,rfl⟩:=yS.mp m1; have hpk:=hma p mq; have hp8:=o.ok.len p hpk; simp [zag,zaz,zal,zt,zC,tC',zax,tB',zkg,zQ,zv,zau,zdC,zbB,zaX,zbz,zJ,zO,zdD,zcN,zgt,zdX,zaM,zit,ziv,zbQ,zjx,zE,zF,zV,zop,zab,zaO]; refine ⟨hpos,plc p,e1,Imm.plc p,?_⟩
  have hnl:(ndD ns).length=ns.length:=by unfold ndD; rw [yE]
  have hsE:(ndD ns).length<sizeLine:=zaS (by omega)
  have hsM:mp.length<sizeLine:=zaS (by omega)
  have fl:∀ q ws:Pl,(putN ns q ws).length<=1+(i+1):=fun q ws=>by
   have:(putN ns q ws).length<=ns.length+1:=by
    unfold putN; split
    ·rw [yE]; omega
    ·simp
   omega
  have fk:∀ (q ws r:Pl),r ∈ keys ns\/r=q->r ∈ keys (putN ns q ws):=fun q ws r h=>by
   rw [zeh]
   rcases h with z | z
   ·split
    ·exact z
    ·simp [z]
   ·split
    ·rename_i y; rw [z]; exact y
    ·simp [z]
  have finA:∀ q ws:Pl,ws.length<=4->q.length<=8->q.dropLast ∈ keys ns->(∀ l,l ∈ q->zu l=true)->∃ (ns':Nd) (mp2:List Pl),(zkm (ndD ns) (plc q) (plc ws)=ndD ns'/\List.map plc mp=List.map plc mp2)/\NW ns'/\ns'.length<=1+(i+1)/\¬ mp2=[]/\mp2.length<=1+(i+1)/\∀ r:Pl,r ∈ mp2->r ∈ keys ns':=fun q ws hw4 h1 h2 h3 =>
   ⟨putN ns q ws,mp,⟨ze3 _ _ _,rfl⟩,zoy o hw4 (by omega) h1 h2 h3,fl q ws,hmp,by omega,fun r hr=>fk q ws r (.inl (hma r hr))⟩
  have finB:∀ q ws:Pl,ws.length<=4->q.length<=8->q.dropLast ∈ keys ns->(∀ l,l ∈ q->zu l=true)->∃ (ns':Nd) (mp2:List Pl),(zkm (ndD ns) (plc q) (plc ws)=ndD ns'/\List.map plc mp ++ [plc q]=List.map plc mp2)/\NW ns'/\ns'.length<=1+(i+1)/\¬ mp2=[]/\mp2.length<=1+(i+1)/\∀ r:Pl,r ∈ mp2->r ∈ keys ns':=fun q ws hw4 h1 h2 h3 =>
   ⟨putN ns q ws,mp ++ [q],⟨ze3 _ _ _,by simp⟩,zoy o hw4 (by omega) h1 h2 h3,fl q ws,by simp,by simp; omega,fun r hr=>fk q ws r (by
    rcases ye.mp hr with z | z
    ·exact .inl (hma r z)
    ·exact .inr (by simpa using z))⟩
  have hpu:=o.ok.up p hpk; have hpl:=o.ok.lab p hpk; intro l hlab; rw [zgF]
  refine ⟨small (by simp; omega),?_⟩
  simp
  by_cases h8:8<=p.length
  ·refine .inr ⟨by omega,zbu _ _ ?_⟩
   cases (zbd (ndD ns) (plc p)).isSome <;> simp
   ·exact ⟨hsM,fun ws hws=>⟨⟨zaT p,za2 p⟩,hsE,finB p ws hws hp8 hpu hpl⟩⟩
   ·exact fun ws hws=>⟨⟨zaT p,za2 p⟩,hsE,finA p ws hws hp8 hpu hpl⟩
  ·refine .inl ⟨by omega,?_⟩
   by_cases h7:cs[i] % 7=6
   ·refine .inr ⟨h7,zbu _ _ ?_⟩
    cases (zbd (ndD ns) (plc p)).isSome <;> simp
    ·exact ⟨hsM,fun ws hws=>⟨⟨zaT p,za2 p⟩,hsE,finB p ws hws hp8 hpu hpl⟩⟩
    ·exact fun ws hws=>⟨⟨zaT p,za2 p⟩,hsE,finA p ws hws hp8 hpu hpl⟩
   ·have h1:(p ++ [l]).length<=8:=by simp; omega
    have h2:(p ++ [l]).dropLast ∈ keys ns:=by rw [Yq]; exact hpk
    have h3:∀ x,x ∈ p ++ [l]->zu x=true:=fun x hx=>by
     rcases ye.mp hx with z | z
     ·exact hpl x z
     ·rw [show x=l by simpa using z]; exact hlab
    refine .inl ⟨h7,zbu _ _ ?_⟩
    cases (zbd (ndD ns) (plc (p ++ [l]))).isSome <;> simp
    ·exact ⟨hsM,fun ws hws=>⟨⟨zaT (p ++ [l]),za2 (p ++ [l])⟩,hsE,finB (p ++ [l]) ws hws h1 h2 h3⟩⟩
    ·exact fun ws hws=>⟨⟨zaT (p ++ [l]),za2 (p ++ [l])⟩,hsE,finA (p ++ [l]) ws hws h1 h2 h3⟩
 ·rintro Γ ⟨ns,mp,s3,s4,s5,rfl,o,hle,hmp,hml,hma⟩
  simp [zag,zaz,zal,zt,zC,tC',zax,tB',zkg,zQ,zv,zau,zdC,zbB,zaX,zbz,zJ,zO,zdD,zcN,zgt,zdX,zaM,zit,ziv,zbQ,zjx,zE,zF,zV]
  exact hq ns o (by simpa using hle)
def zcf:FnScope ["_law_nodes_here","_law_cell","_law_some","_law_place_here"] ["_law_nodes_here","_law_cell"] (zl zcZ):=sc0
def zgR (d:Df K mg "_law_place" zcZ ["_law_nodes_here","_law_cell"]) (G_law_label:Fn P w K mg base 1 "_law_label" ["_law_cell"] zab) (z_len:mg "len"=none) (z_list:mg "list"=none):Fn P w K mg base 2 "_law_place" ["_law_nodes_here","_law_cell"] zbc:=by
 refine d.ok zcf (fun ds Q h=>?_) (fun f cdv A outer s H E hr ds Q h=>⟨_,(zm (zH 2 zcf.nd (zbf (zfp (zmm rfl) z_list PyProof.Rows.boot_list (zc (pv' 0) zi))))
  (zm (zH 3 zcf.nd (zD (i_A (zN hr)) (pv' 2) (zB zcl (zB zaR (zB zbw (pv' 1) zk) (zB ziW (zB zcl (pv' 1) zk) zk)) (zw zbg z_len YF (zc (pv' 2) zi)))))
  (zm (zam (zK (zd8 (zb4 hr)) (zB zcl (pv' 1) zk) zk) (zo (zI (zB zaR (zbF s_A (pv' 3) zd7 (zcI zbv)) (zT (zc (zaG G_law_label (hr.mono (by decide)) (zc (zB zbw (pv' 1) zk) zi)) zi))))) zU)
  (zm (zam (PW'.pt (zfW (zK (zd8 (zb4 hr)) (zB zcl (pv' 1) zk) zk) (zeb (zK zsI (zw zbg z_len YF (zc (pv' 3) zi)) zk)))) (zo (zI (zB zaR (pv' 3) (zT (zc (zaG G_law_label (hr.mono (by decide)) (zc (zB zbw (pv' 1) zk) zi)) zi))))) zU)
  (zo (zI (pv' 3))))))),?_⟩)
 ·obtain ⟨ns,c,rfl,_⟩:=h
  rfl
 obtain ⟨ns,c,rfl,o,hq⟩:=h; simp [zag,zP,zaz,zal,zt,zC,tC',zbr,zax,tB',zdh,zQ,zv,zau,zbB,zdW,zba,zdY,zJ,zO,zkG,zE,zF,zV,zbr,zab,zop,zoo]
 have hkeys:List.map (fun x=>x.fst) (ndD ns)=(keys ns).map plc:=by unfold ndD keys; rw [ym,ym]; rfl
 have hlen:(ndD ns).length=ns.length:=by unfold ndD; rw [yE]
 have hpos:0<(ndD ns).length:=by rw [hlen]; have:=List.length_pos_of_mem o.nil; unfold keys at this; simpa using this
 have hkl:(keys ns).length=(ndD ns).length:=by unfold keys; rw [yE,hlen]
 obtain ⟨d,e1,m1⟩:=ze6 ((keys ns).map plc) (md (i:=c / 4+c % 4 * 3) (n:=(ndD ns).length) hpos).1 (by rw [yE,hkl]; exact (md (i:=c / 4+c % 4 * 3) (n:=(ndD ns).length) hpos).2)
 obtain ⟨p,mq,rfl⟩:=yS.mp m1; have hp:=o.len p mq; have hlb:=o.lab p mq; rw [<- hkeys] at e1; refine ⟨hpos,plc p,e1,?_⟩
 have snoc:∀ (q:Pl) (l:List Nat),q.length<=8->(∀ l ∈ q,zu l=true)->zu l=true->zq5 (q ++ [l]):=fun q l h1 h2 h3=>⟨by simp; omega,fun x hx=>by
  rcases ye.mp hx with z | z
  ·exact h2 x z
  ·rw [yd.mp z]; exact h3⟩
 by_cases h3:c % 4=3
 ·refine .inr ⟨h3,?_⟩
  simp only [zm2,zcu]; intro l hl; rw [zgF]
  have:p.dropLast.length<=8:=by rw [List.length_dropLast]; omega
  exact ⟨small (by simp; omega),hq _ (snoc _ l this (fun x hx=>hlb x (List.dropLast_subset _ hx)) hl)⟩
 ·refine .inl ⟨h3,?_⟩
  by_cases h6:c % 16=6
  ·refine .inr ⟨h6,?_⟩
   simp
   by_cases h8:p.length<8
   ·refine .inr ⟨by omega,fun l hl=>⟨small (by omega),hq _ (snoc p l (by omega) hlb hl)⟩⟩
   ·exact .inl ⟨by omega,hq _ ⟨by omega,hlb⟩⟩
  ·exact .inl ⟨h6,hq _ ⟨by omega,hlb⟩⟩
def zcY:FnScope ["_law_nodes_here","_law_place_here","_law_node","_law_kid_here"] ["_law_nodes_here","_law_place_here","_law_node"] (zl zdI):=sc0
def zhX (d:Df K mg "_law_laid" zdI ["_law_nodes_here","_law_place_here","_law_node"]):∀ n:Nat,FnM P w K mg base (n+1) "_law_laid" ["_law_nodes_here","_law_place_here","_law_node"] 0 (zaJ n):=by
 intro n
 induction n with
 | zero=>exact d.okM (k:=0) zcY (fun o ds Q h=>(show False from h).elim) (fun f cdv A outer s H E hr b o ds Q h=>(show False from h).elim)
 | succ n ih =>
 have G_law_laid:FnM P w K mg base (n+1) "_law_laid" ["_law_nodes_here","_law_place_here","_law_node"] 0 (zaJ n):=ih
 refine d.okM (k:=n+1) zcY (fun o ds Q h=>?_) (fun f cdv A outer s H E hr b o ds Q h=>⟨_,(zm (znd (zN hr) 0 (pv' 1) (zD (i_A (zN hr)) (pv' 2) zk))
  (zo (zbJ (zbK (zD (i_A (zN hr)) (pv' 2) zk)) (zaa 3 zcY.nd)
   (zo (ziJ (ziS G_law_laid (hr.mono (by omega)) (zk7 0 (zc (zB zaR (pv' 1) (zT (zc (zD (i_A (zN hr)) (pv' 3) zk) zi))) (zc (pv' 3) zi))))))))),?_⟩)
 ·obtain ⟨ns,p,k,c,rfl,rfl,_⟩:=h
  rfl
 obtain ⟨ns,p,k,c,rfl,rfl,hw,hc,hp,hl,hq⟩:=h; simp [zag,zt,zC,tC',zax,zQ,zv,zau,zaX,zbz,zdf,zE,zF,zV,zdg,zdc,zdZ,zkF]
 have hnl:(ndD ns).length=ns.length:=by unfold ndD; rw [yE]
 have hce:=zmf k
 refine ⟨⟨zaT p,za2 p⟩,zaS (by omega),?_⟩
 rw [ze3]
 refine zeZ (fun i Γ=>∃ s3,Γ=[.bk (fun z=>z) b (.dit (ndD (zc6 (putN ns p k.wds) ((k.kds.take i).flatMap fun c=>ent c (p ++ [c.lab]))))),.val (plc p),.val (trD k),s3]) ⟨.emp,by simp [zc6]⟩ ?_ ?_
 ·rintro i d Γ hd ⟨s3,rfl⟩
  have hi:i<k.kds.length:=by simpa using (yG.mp hd).1
  rw [yH,yC hi] at hd; cases hd
  have hm:k.kds[i] ∈ k.kds:=Yu hi
  have wk:=hw.kid _ hm; obtain ⟨m,rfl⟩:=wk.pos
  have hs:((k.kds.take (i+1)).map M71.cnt).sum<=(k.kds.map M71.cnt).sum:=by
   conv=>rhs; rw [<- List.take_append_drop (i+1) k.kds]
   rw [YQ,List.sum_append]; omega
  have ht:k.kds.take (i+1)=k.kds.take i ++ [k.kds[i]]:=by rw [Yf,yC hi]; rfl
  have hfl:((k.kds.take i).flatMap fun c=>ent c (p ++ [c.lab])).length=((k.kds.take i).map M71.cnt).sum:=by
   rw [List.length_flatMap]
   exact yi List.sum (YI fun x hx=>ze1 (hw.kid x (List.mem_of_mem_take hx)))
  rw [ht,YQ,List.sum_append] at hs; simp only [yW,List.map_nil,List.sum_cons,List.sum_nil] at hs
  have h1:=zeL ((k.kds.take i).flatMap fun c=>ent c (p ++ [c.lab])) (putN ns p k.wds)
  have h2:=zlu ns p k.wds; simp [zag,zt,zC,tC',zax,zQ,zv,zau,zaX,zbz,zdf,zE,zF,zV,zdg,zdc,zdZ,zkF]
  refine ⟨small (by omega),?_⟩
  show zaJ (m+1) _ [plc (p ++ [k.kds[i].lab]),trD k.kds[i]] _
  refine ⟨_,_,_,c,rfl,rfl,wk,hc,?_,by omega,?_⟩
  ·simp
   omega
  ·rw [ht,List.flatMap_append,zi1]
   simp
 ·rintro Γ ⟨s3,rfl⟩
  rw [show List.take (List.map trD k.kds).length k.kds=k.kds from yh (by rw [yE]; exact yD _)]
  refine ⟨_,rfl,?_⟩; rw [zfy] at hq; exact hq
def zhF:FnScope ["_law_nodes_here","_law_place_here"] ["_law_nodes_here","_law_place_here"] (zl zcA):=sc0
def zhY (d:Df K mg "_law_gone" zcA ["_law_nodes_here","_law_place_here"]) (z_dict:mg "dict"=none) (z_len:mg "len"=none):Fn P w K mg base 1 "_law_gone" ["_law_nodes_here","_law_place_here"] zbV:=by
 refine d.ok zhF (fun ds Q h=>?_) (fun f cdv A outer s H E hr ds Q h=>⟨_,(zo (znc (zk6 rfl (hu3 hr) z_dict (zbf (zc3 (fsc:=zl zcA) (N:=["_law_nodes_here","_law_place_here"]) (N':=["_law_other","_law_place_here","_law_nodes_here"]) (src:=[none,some 1,some 0]) (by refine ⟨rfl,?_,?_,?_,rfl,rfl⟩ <;> decide +kernel) (zf0 (pv' 0)) (fun _ _ _ _ _ _=>(zaa 0 (show (["_law_other","_law_place_here","_law_nodes_here"]:List Str).Nodup by decide +kernel))) (fun _ _ _ _ _ _=>(zdm (zK (zh1 (zb4 hr)) (zbF s_A (pv' 0) zd7 (zcI (zw zbg z_len YF (zc (pv' 1) zi)))) (pv' 1)))) (fun _ _ _ _ _ _=>(zT (zc (pv' 0) (zc (zD (i_A (zN hr)) (pv' 2) (pv' 0)) zi))))))))),?_⟩)
 ·obtain ⟨ns,p,rfl,_⟩:=h
  rfl
 obtain ⟨ns,p,rfl,o,hp,hq⟩:=h; simp [zt,zC,zbr,zax,tB',zQ,zv,zau,zbB,zdW,zba,zdY,zaW,zcQ,zE,zF,zV,zkD,zbr,zhx]
 have hnl:(ndD ns).length<=400:=by unfold ndD; rw [yE]; exact o.many
 have hkeys:List.map (fun x=>x.fst) (ndD ns)=(keys ns).map plc:=by unfold ndD keys; rw [ym,ym]; rfl
 refine ⟨small (by omega),?_⟩
 rw [hkeys]
 refine zdb (fun i acc Γ=>∃ s0,acc=((ns.take i).filter fun x=>!(decide (p <+: x.1))).map (fun x=>D.tup [plc x.1,plc x.2])/\Γ=[s0,.val (plc p),.val (.dit (ndD ns))]) ⟨.emp,rfl,rfl⟩ ?_ ?_
 ·rintro i d acc Γ hd ⟨s0,rfl,rfl⟩
  rw [yH] at hd; unfold keys at hd; rw [yH] at hd
  cases hcc:ns[i]? with
  | none=>rw [hcc] at hd; cases hd
  | some x =>
   rw [hcc] at hd; cases hd; have hm:=yf hcc; have hq8:=o.len x.1 (yX hm)
   have hf:zbd (ndD ns) (plc x.1)=some (plc x.2):=by
    rw [zcG (yX hm)]
    have:=zf7 o.nd hm
    unfold zdB; rw [this]; rfl
   rw [Yf,hcc]; simp [zt,zC,zbr,zax,tB',zQ,zv,zau,zbB,zdW,zba,zdY,zaW,zcQ,zE,zF,zV,zkD,zbr,zhx,JC,zmc]
   by_cases h1:p <+: x.1
   ·exact .inl ⟨(List.prefix_iff_eq_take.mp h1).symm,h1⟩
   ·refine .inr ⟨fun z=>h1 (List.prefix_iff_eq_take.mpr z.symm),zea x.1 (ndD ns) hf ?_⟩
    simp [h1]
 ·rintro acc Γ ⟨s0,rfl,rfl⟩
  rw [show List.take (List.map plc (keys ns)).length ns=ns from yh (by rw [yE]; unfold keys; rw [yE]; exact yD _)]
  refine ⟨(zcJ ns p).map fun x=>(zaT x.1,plc x.2),?_,?_⟩
  ·rw [ym]
   refine YI fun x _=>?_
   show D.tup [plc x.1,plc x.2]=D.tup [D.tup (List.map PL.keyD (zaT x.1)),plc x.2]
   rw [<- za2]
  ·rw [zqV,zf9 [] _ (by
    rw [YM]; exact o.nd.sublist (List.Sublist.map _ YO)),YM]
   exact hq
end
theorem zo3 {c:Nat}:∀ {n m:Nat} {t:Tr},Wf c n t->(∀ q,(wd t q).isSome=true->q.length<=m)->dpt t<=m+1
 | 0,m,t,h,hq=>by obtain ⟨m,z⟩:=h.pos; cases z
 | n+1,m,t,h,hq=>by
  rw [zl0]
  have:zo2 t.kds<=m:=zih.mp fun k hk=>by
   have e:=zaK h.nd hk
   cases m with
   | zero =>
    have:=hq [k.lab] (by rw [zbe,e]; rfl)
    simp at this
   | succ m=>exact zo3 (h.kid k hk) fun q z=>by have:=hq (k.lab :: q) (by rw [zbe,e]; exact z); simpa using this
  omega
def zmJ (l:List Nat) (t:Tr) (q:Pl):wd (.node l t.wds t.kds) q=wd t q:=by
 cases q with
 | nil=>rfl
 | cons a q=>rw [zbe,zbe]; rfl
def zim {c n:Nat} {t:Tr} (h:Wf c n t) (l:List Nat):Wf c n (.node l t.wds t.kds):=by
 cases h with
 | mk a b d e f=>exact .mk a b d e f
def zmQ (ns:Nd) (o:NOk ns):cnt (zy 9 ns [])<=ns.length:=by
 rw [<- ziP _ [],ziM]
 have:=zdo (zdV 9 ns []) (keys ns) (zfh o 9 []) fun q hq=>(zdp 9 [] q o.nil hq).1
 unfold keys at this; rw [yE] at this; exact this
def zdQ (ns:Nd):Nd:=ns.filter fun x=>decide (x.1.length<3)
def zb5 {ns:Nd} {x:Pl}:x ∈ keys (zdQ ns)↔x ∈ keys ns/\x.length<3:=by
 unfold keys zdQ; constructor
 ·intro h
  obtain ⟨y,hy,rfl⟩:=yS.mp h; obtain ⟨h1,h2⟩:=Yg.mp hy
  exact ⟨yX h1,by simpa using h2⟩
 ·rintro ⟨h,h2⟩
  obtain ⟨y,hy,rfl⟩:=yS.mp h
  exact yS.mpr ⟨y,Yg.mpr ⟨hy,by simpa using h2⟩,rfl⟩
def zie (ns:Nd):(zdQ ns).length<=ns.length:=JF _ _
def zoW {ns:Nd} (o:NW ns):NW (zdQ ns):=by
 have hl:=zie ns; have hm:=o.ok.many
 refine ⟨⟨zb5.mpr ⟨o.ok.nil,by simp⟩,o.ok.nd.sublist (List.Sublist.map _ YO),fun q hq=>o.ok.len q (zb5.mp hq).1,fun q hq=>zb5.mpr ⟨o.ok.up q (zb5.mp hq).1,?_⟩,fun q hq=>o.ok.lab q (zb5.mp hq).1,by omega,fun q=>?_⟩,fun x hx=>o.wd x (Yg.mp hx).1⟩
 ·have:=(zb5.mp hq).2
  rw [List.length_dropLast]; omega
 ·refine yq ?_ (o.ok.few q)
  unfold zaL keys zdQ; exact List.Sublist.length_le (List.Sublist.filter _ (List.Sublist.map _ YO))
def zsX {ns:Nd} (o:NW ns) (h5:ns.length<=5) {l:List Nat} (hl:zu l=true):KOk (.node l (zy 9 (zdQ ns) []).wds (zy 9 (zdQ ns) []).kds):=by
 have o2:=zoW o
 have w1:=zbH o2 9 [] o2.ok.nil (by simp)
 have hw:∀ q,wd (.node l (zy 9 (zdQ ns) []).wds (zy 9 (zdQ ns) []).kds) q=(zdQ ns).lookup q:=fun q=>by rw [zmJ,zcd o2.ok]
 have hk:∀ q w,wd (.node l (zy 9 (zdQ ns) []).wds (zy 9 (zdQ ns) []).kds) q=some w->q ∈ keys (zdQ ns):=fun q w e=>zaq.mpr (by rw [<- hw q,e]; rfl)
 refine ⟨zoq (zim w1 l) (zo3 (zim w1 l) fun q z=>?_),hl,?_,fun q w e=>?_,fun q w e=>o2.ok.lab q (hk q w e)⟩
 ·obtain ⟨w,e⟩:=YH.mp z
  have:=(zb5.mp (hk q w e)).2
  omega
 ·have h1:=zmQ (zdQ ns) o2.ok
  have h2:=zie ns; rw [zmf] at h1 ⊢
  show 1+((zy 9 (zdQ ns) []).kds.map cnt).sum<=5
  omega
 ·rw [hw q] at e
  exact o2.wd _ (zee e)
theorem zlC {ks:List Tr} (hn:(labs ks).Nodup):∀ {xs ys:List Tr},(∀ x ∈ xs,x ∈ ks)->(∀ y ∈ ys,y ∈ ks)->labs xs=labs ys->xs=ys
 | [],[],_,_,_=>rfl
 | [],y :: ys,_,_,h=>by cases h
 | x :: xs,[],_,_,h=>by cases h
 | x :: xs,y :: ys,hx,hy,h=>by
  have h':x.lab :: labs xs=y.lab :: labs ys:=h
  injection h' with h1 h2
  have e1:=zaK hn (hx x yR); have e2:=zaK hn (hy y yR); rw [h1,e2] at e1
  rw [Option.some.inj e1,zlC hn (fun z hz=>hx z (yL _ hz)) (fun z hz=>hy z (yL _ hz)) h2]
def zkO {ks:List Tr} (hn:(labs ks).Nodup) (hp:∀ k ∈ ks,zu k.lab=true):srt (ltP (ks.map fun k=>zbm k.lab)) (.node [] [] []) ks=zc9 ks:=by
 have ok:=zef hp
 refine zlC hn (fun x hx=>(zhB (zeC _) _ _ _).mp hx) (fun y hy=>(zco hn).mp hy) ?_
 have e:labs (srt (ltP (ks.map fun k=>zbm k.lab)) (.node [] [] []) ks)=zjC (labs ks):=by
  unfold zjC; unfold labs; rw [ziy,ym]; rfl
 rw [e]
 refine zfQ (zep hn fun l hl=>?_) ok.ris fun l=>?_
 ·obtain ⟨k,hk,rfl⟩:=yS.mp hl
  exact hp k hk
 ·rw [zeq]
  unfold labs; constructor
  ·intro h
   obtain ⟨k,hk,rfl⟩:=yS.mp h; exact yX ((zco hn).mpr hk)
  ·intro h
   obtain ⟨k,hk,rfl⟩:=yS.mp h; exact yX ((zco hn).mp hk)
def zqA (ks:List Tr):ks.map (fun x=>keyD x.lab)=(ks.map fun x=>zbm x.lab).map fun p=>D.tup [D.int p.1,D.str p.2]:=by
 rw [ym]
 exact YI fun x _=>rfl
def zbM:Sp':=fun ds Q=>∃ (cs:List Int) (c:Int),ds=[.lst (cs.map .int),.int c]/\cs.length<=4/\∀ k,KOk k->Q (.val (trD k))
def zcW:Sp':=fun ds Q=>∃ t k,ds=[trD t,trD k]/\(labs (t.kds ++ [k])).Nodup/\(∀ x ∈ t.kds ++ [k],zu x.lab=true)/\t.kds.length<=62/\Q (.val (trD (.node t.lab t.wds (zc9 (t.kds ++ [k])))))
def zcX:Sp':=fun ds Q=>∃ t l,ds=[trD t,.str l]/\t.kds.length<=400/\Q (.val (trD (.node t.lab t.wds (t.kds.filter fun k=>decide (k.lab≠l)))))
def zcP:D->D->Prop:=fun d k=>∃ t,d=trD t/\zu t.lab=true/\k=keyD t.lab
def zac (R:D->D->Prop) (f:Addr):Nat->Sp'
 | 0=>fun _ _=>False
 | n+1=>fun ds Q=>∃ (t:Tr) (p:Pl) (nd:Tr) (ws:Pl) (ks:List Tr) (c:Nat),ds=[trD t,plc p,.adr f]/\Wf c (n+1) t/\c<=200/\zr t p=some nd/\R (trD nd) (trD (.node nd.lab ws ks))/\p.length<=100/\Q (.val (trD (zcc t p ws ks)))
instance:MSp zbM:=⟨fun _ _ _ h ⟨a,b,e,z,q⟩=>⟨a,b,e,z,fun k y=>h _ (q k y)⟩⟩
instance {R:D->D->Prop} {f:Addr} {n:Nat}:MSp (zac R f n):=⟨fun _ _ _ h q=>by
 cases n with
 | zero=>exact q
 | succ n =>
  obtain ⟨t,p,nd,ws,ks,c,a,b,z1,z2,z3,z4,q⟩:=q; exact ⟨t,p,nd,ws,ks,c,a,b,z1,z2,z3,z4,h _ q⟩⟩
def zti {α:Type} (a:α) (r:List α):zdR (a :: r) (some 1) none=r:=by
 unfold zdR; simp [HT.sIx]
theorem zi6:∀ t:Tr,Imm (trD t)
 | .node l ws ks=>by
  rw [zai]
  refine .tup fun d hd=>?_
  simp only [yP,yx,or_false] at hd
  rcases hd with rfl | rfl | rfl
  ·exact .str _
  ·exact .plc _
  ·refine .tup fun d hd=>?_
   obtain ⟨k,hk,rfl⟩:=yS.mp hd
   have hk':k ∈ ks:=hk
   exact zi6 k
termination_by t=>sizeOf t
decreasing_by
 have:=List.sizeOf_lt_of_mem hk'
 simp; omega
section
def zbN:FnScope ["_law_cells","_law_cell","_law_nodes_here","_law_few","_law_place_here","_law_tree_here"] ["_law_cells","_law_cell"] (zl zev):=sc0
def zjR (d:Df K mg "_law_kid" zev ["_law_cells","_law_cell"]) (G_law_label:Fn P w K mg base 1 "_law_label" ["_law_cell"] zab) (G_law_nodes:Fn P w K mg base 3 "_law_nodes" ["_law_cells"] zaP) (G_law_tree:Fn P w K mg base 15 "_law_tree" ["_law_nodes_here","_law_place_here"] (zan 10)) (z_len:mg "len"=none):Fn P w K mg base 16 "_law_kid" ["_law_cells","_law_cell"] zbM:=by
 refine d.ok zbN (fun ds Q h=>?_) (fun f cdv A outer s H E hr ds Q h=>⟨_,(zm (zH 2 zbN.nd (zaG G_law_nodes (hr.mono (by decide)) (zc (pv' 0) zi)))
  (zm (zcC 3 zbN.nd zpT)
  (zm (zbJ (zf0 (pv' 2)) (zaa 4 zbN.nd)
   (zo (zam (zK zsI (zw zbg z_len YF (zc (pv' 4) zi)) zk) (zo (ziK (zN hr) 3 (pv' 4) (zD (i_A (zN hr)) (pv' 2) (pv' 4)))) zU)))
  (zm (zH 5 zbN.nd (zez (zaG G_law_tree (hr.mono (by decide)) (zc (pv' 3) (zc (zT zi) zi)))))
  (zo (zI (zT (zc (zaG G_law_label (hr.mono (by decide)) (zc (pv' 1) zi)) (zc (zD (i_A (zN hr)) (pv' 5) zk) (zc (zD (i_A (zN hr)) (pv' 5) zk) zi)))))))))),?_⟩)
 ·obtain ⟨cs,c,rfl,_⟩:=h
  rfl
 obtain ⟨cs,c,rfl,h4,hq⟩:=h; simp [zag,zP,zaz,zal,zt,zC,tC',zax,tB',zQ,zv,zau,zbB,zaX,zJ,zO,zdD,zdX,zaM,zbQ,zjx,zcQ,zE,zF,zV,zmS,zaP,zab]
 refine ⟨cs,rfl,by omega,fun ns o hl=>?_⟩
 have hkeys:List.map (fun x=>x.fst) (ndD ns)=(keys ns).map plc:=by unfold ndD keys; rw [ym,ym]; rfl
 have hns5:ns.length<=5:=by omega
 rw [hkeys]
 refine zeZ (fun i Γ=>∃ s4,Γ=[.val (.lst (cs.map .int)),.val (.int c),.val (.dit (ndD ns)),.own (.dit (ndD (zc6 [] (zdQ (ns.take i))))),s4,.emp]) ⟨.emp,rfl⟩ ?_ ?_
 ·rintro i d Γ hd ⟨s4,rfl⟩
  rw [yH] at hd; unfold keys at hd; rw [yH] at hd
  cases hcc:ns[i]? with
  | none=>rw [hcc] at hd; cases hd
  | some x =>
   rw [hcc] at hd; cases hd; have hm:=yf hcc; have hq8:=o.ok.len x.1 (yX hm)
   have hf:zbd (ndD ns) (plc x.1)=some (plc x.2):=by
    rw [zcG (yX hm)]
    have:=zf7 o.ok.nd hm
    unfold zdB; rw [this]; rfl
   have h1:=zeL (zdQ (ns.take i)) []; have h2:=zie (ns.take i); rw [YJ] at h2
   have hsz:(ndD (zc6 [] (zdQ (ns.take i)))).length<sizeLine:=zaS (by unfold ndD; rw [yE]; simp at h1; omega)
   rw [Yf,hcc]; simp [zag,zP,zaz,zal,zt,zC,tC',zax,tB',zQ,zv,zau,zbB,zaX,zJ,zO,zdD,zdX,zaM,zbQ,zjx,zcQ,zE,zF,zV,zmS]
   have hap:zdQ (ns.take i ++ [x])=zdQ (ns.take i) ++ zdQ [x]:=by unfold zdQ; rw [JC]
   by_cases h3:x.1.length<3
   ·refine .inr ⟨by omega,zea x.1 (ndD ns) hf ⟨⟨zaT x.1,za2 x.1⟩,hsz,?_⟩⟩
    rw [ze3,hap,zi1]
    have:zdQ [x]=[x]:=by unfold zdQ; simp [h3]
    rw [this]; rfl
   ·refine .inl ⟨by omega,?_⟩
    have:zdQ [x]=[]:=by unfold zdQ; simp [h3]
    rw [hap,this,yb]
 ·rintro Γ ⟨s4,rfl⟩
  rw [show List.take (List.map plc (keys ns)).length ns=ns from yh (by rw [yE]; unfold keys; rw [yE]; exact yD _)]
  have o2:=zoW o
  rw [zf9 [] _ (by rw [YM]; exact o2.ok.nd),YM]
  simp [zag,zP,zaz,zal,zt,zC,tC',zax,tB',zQ,zv,zau,zbB,zaX,zJ,zO,zdD,zdX,zaM,zbQ,zjx,zcQ,zE,zF,zV,zmS,zan]; refine ⟨zdQ ns,[],⟨rfl,rfl⟩,o2.ok,o2.ok.nil,zi6 _,?_⟩
  refine ⟨c,rfl,fun l hl=>?_⟩
  have:=hq _ (zsX o hns5 hl)
  rw [zai] at this; exact this
def za9:FnScope ["_law_node","_law_place_here","_law_form","_law_kids","_law_kid_here"] ["_law_node","_law_place_here","_law_form"] (zl zbk):=sc0
def zfb {J:L2.Jt} {R:D->D->Prop} {fv:Addr} (V:FnV P w K mg base J 6 fv R) (d:Df K mg "_law_changed" zbk ["_law_node","_law_place_here","_law_form"]) (z_tuple:mg "tuple"=none):∀ n:Nat,FnJ P w K mg base J (n+6) "_law_changed" ["_law_node","_law_place_here","_law_form"] (zac R fv n):=by
 intro n
 induction n with
 | zero=>exact d.okJ (k:=5) za9 V.jk (fun ds Q h=>(show False from h).elim) (fun f cdv A outer s H E hj hr ds Q h=>(show False from h).elim)
 | succ n ih =>
 have G_law_changed:FnJ P w K mg base J (n+6) "_law_changed" ["_law_node","_law_place_here","_law_form"] (zac R fv n):=ih
 refine d.okJ (k:=n+6) za9 V.jk (fun ds Q h=>?_) (fun f cdv A outer s H E hj hr ds Q h=>⟨_,(zm (zam (zK (zd8 (zb4 hr)) (pv' 1) (zT zi)) (zo (zI (zld 2 V (hr.mono (by omega)) hj (zc (pv' 0) zi)))) zU)
  (zm (zcC 3 za9.nd (zfo zi))
  (zm (zbJ (zbK (zD (i_A (zN hr)) (pv' 0) zk)) (zaa 4 za9.nd)
   (zo (zam (zK (zd8 (zb4 hr)) (zD (i_A (zN hr)) (pv' 4) zk) (zD (i_A (zN hr)) (pv' 1) zk)) (zo (zdN 3 (zst G_law_changed (hr.mono (by omega)) hj (zc (pv' 4) (zc (zbF s_A (pv' 1) (zcI zk) zd7) (zc (pv' 2) zi)))))) (zo (zdN 3 (pv' 4))))))
  (zjJ 3 (zo (zI (zT (zc (zD (i_A (zN hr)) (pv' 0) zk) (zc (zD (i_A (zN hr)) (pv' 0) zk) (zc (zaj zcv z_tuple YA (zc (pv' 3) zi)) zi)))))))))),?_⟩)
 ·obtain ⟨t,p,nd,ws,ks,c,rfl,_⟩:=h
  rfl
 obtain ⟨t,p,nd,ws,ks,c,rfl,hw,hc,hn,hR,hpl,q⟩:=h; simp [zag,zP,zaz,zt,zC,tC',zax,tB',zQ,zv,zau,zdC,zbB,zdW,zba,zdY,zaX,zbz,zJ,zO,zgt,zaM,zE,zF,zV,zfJ,zfK]
 by_cases hp0:p=[]
 ·subst hp0
  cases hn; exact .inr ⟨rfl,_,hR,q⟩
 refine .inl ⟨hp0,?_⟩
 obtain ⟨l,p,rfl⟩:∃ l p',p=l :: p':=by
  cases p with
  | nil=>exact yN rfl hp0
  | cons l p=>exact ⟨l,p,rfl⟩
 have hfew:=hw.few
 refine zeZ (fun i Γ=>∃ s4,Γ=[.val (trD t),.val (plc (l :: p)),.val (.adr fv),.own (.lst ((t.kds.take i).map fun k=>trD (if k.lab=l then zcc k p ws ks else k))),s4]) ⟨.emp,rfl⟩ ?_ ?_
 ·rintro i d Γ hd ⟨s4,rfl⟩
  rw [yH] at hd
  cases hcc:t.kds[i]? with
  | none=>rw [hcc] at hd; cases hd
  | some k =>
   rw [hcc] at hd; cases hd; have hm:=yf hcc; have hk:=hw.kid k hm; rw [Yf,hcc]; simp [zag,zP,zaz,zt,zC,tC',zax,tB',zQ,zv,zau,zdC,zbB,zdW,zba,zdY,zaX,zbz,zJ,zO,zgt,zaM,zE,zF,zV,zfJ,zfK,ix0]
   have hsz:min i t.kds.length<sizeLine:=zaS (by omega)
   by_cases e:k.lab=l
   ·refine .inr ⟨e,?_⟩
    rw [zti]
    have hn':zr k p=some nd:=by
     have:=zaK hw.nd hm
     rw [e] at this
     simpa [zr,this] using hn
    obtain ⟨m,rfl⟩:=hk.pos
    exact ⟨k,p,nd,ws,ks,c,rfl,hk,hc,hn',hR,by simp at hpl; omega,hsz,by rw [yM e]; rfl⟩
   ·exact .inl ⟨e,hsz,by rw [yK e]⟩
 ·rintro Γ ⟨s4,rfl⟩
  rw [show List.take (List.map trD t.kds).length t.kds=t.kds from yh (by rw [yE]; exact yD _)]
  simp [zag,zP,zaz,zt,zC,tC',zax,tB',zQ,zv,zau,zdC,zbB,zdW,zba,zdY,zaX,zbz,zJ,zO,zgt,zaM,zE,zF,zV,zfJ,zfK,ix0,ix1]
  have e:trD (zcc t (l :: p) ws ks)=D.tup [D.str t.lab,plc t.wds,D.tup (List.map (fun k=>trD (if k.lab=l then zcc k p ws ks else k)) t.kds)]:=by
   rw [zai]
   show D.tup [D.str t.lab,plc t.wds,D.tup ((t.kds.map fun k=>if k.lab=l then zcc k p ws ks else k).map trD)]=_
   rw [ym]; rfl
  rw [e] at q; exact q
end
def zkr {Q:Res->Prop} {a b:D} {ks:List Tr} (hn:(labs ks).Nodup) (hp:∀ x ∈ ks,zu x.lab=true) (hq:Q (Res.val (D.tup [a,b,D.tup ((zc9 ks).map trD)]))) :
  ∃ x:List D,x.length=ks.length/\(∀ (i:Nat) (x_1 k_1:D),(ks.map trD)[i]?=some x_1->x[i]?=some k_1->zjA zcP [x_1] fun r=>r=Res.val k_1)/\∃ x_1,zuc x x_1/\Q (Res.val (D.tup [a,b,D.tup (zhD x_1 (ks.map trD))])):=by
 refine ⟨ks.map (fun x=>keyD x.lab),by simp,fun i x y h1 h2=>?_,ltP (ks.map fun x=>zbm x.lab),?_,?_⟩
 ·rw [yH] at h1 h2
  cases hc:ks[i]? with
  | none=>rw [hc] at h1; cases h1
  | some z =>
   rw [hc] at h1 h2; cases h1; cases h2; exact zfM ⟨z,rfl,hp z (yf hc),rfl⟩
 ·refine Yd ⟨_,zqA ks,?_⟩
  rfl
 ·rw [zkJ trD (.node [] [] []) ks (zeC _),zkO hn hp]
  exact hq
section
set_option maxHeartbeats 400000
def zer:FnScope ["_law_node","_law_kid_here","_law_kids"] ["_law_node","_law_kid_here"] (zl za1):=sc0
def zhT (d:Df K mg "_law_with" za1 ["_law_node","_law_kid_here"]) (G_law_key:Fn P w K mg base 1 "_law_key" ["_law_label_here"] zbp) (z_list:mg "list"=none) (z_sorted:mg "sorted"=none) (z_tuple:mg "tuple"=none) (lo:LamOf K mg base "_law_with" "_law_with.<locals>.<lambda>"):Fn P w K mg base 5 "_law_with" ["_law_node","_law_kid_here"] zcW:=by
 refine d.okL lo zer (fun ds Q h=>?_) (fun f cdv A outer s H E la hr ds Q h=>⟨_,(zm (zH 2 zer.nd (zbf (ziQ (k:=1) (N:=["_law_one"]) (ps:=["_law_one"]) (sp:=zjA zcP) la ⟨rfl,rfl,rfl,by decide +kernel,rfl,by decide +kernel,by decide +kernel⟩ (zgx _)
   (fun f c A outer s H E hr ds Q h=>⟨_,(zaG G_law_key (hr.mono (by decide)) (zc (zD (i_A (zN hr)) (pv' 0) zk) zi)),?lam1⟩) (fun _ _ _ us hl=>match us,hl with | [_],_=>rfl) (hr.mono (by decide)) z_sorted (zc (zbf (zse zsL (zbf (zfp (zmm rfl) z_list PyProof.Rows.boot_list (zc (zD (i_A (zN hr)) (pv' 0) zk) zi))) (zbf (zfo (zc (pv' 1) zi))))) zi))))
  (zo (zI (zT (zc (zD (i_A (zN hr)) (pv' 0) zk) (zc (zD (i_A (zN hr)) (pv' 0) zk) (zc (zaj zcv z_tuple YA (zc (pv' 2) zi)) zi))))))),?_⟩)
 case lam1 =>
  obtain ⟨d,k,rfl,⟨t,rfl,hp,rfl⟩,hq⟩:=h
  simp [zag,zP,zal,zt,zC,tC',zbr,zax,zQ,zv,zau,zdC,zbB,zJ,zkG,zpq,zE,zF,zV,zcT,zbr,zbp]; exact ⟨hp,hq⟩
 ·obtain ⟨t,k,rfl,_⟩:=h
  rfl
 obtain ⟨t,k,rfl,hn,hp,hl,hq⟩:=h; simp [zag,zP,zal,zt,zC,tC',zbr,zax,zQ,zv,zau,zdC,zbB,zJ,zkG,zpq,zE,zF,zV,zcT,zbr]
 refine ⟨_,_,rfl,rfl,small (by simp; omega),?_⟩
 simp [OD.toD]
 have e0:List.map trD t.kds ++ [trD k]=(t.kds ++ [k]).map trD:=by simp
 rw [e0]; rw [zai] at hq
 refine ⟨by omega,?_⟩
 have e1:t.kds.length+1=(t.kds ++ [k]).length:=by simp
 rw [e1]; exact zkr hn hp hq
def zhE:FnScope ["_law_node","_law_label_here"] ["_law_node","_law_label_here"] (zl zcz):=sc0
def zhW (d:Df K mg "_law_less" zcz ["_law_node","_law_label_here"]) (z_tuple:mg "tuple"=none):Fn P w K mg base 1 "_law_less" ["_law_node","_law_label_here"] zcX:=by
 refine d.ok zhE (fun ds Q h=>?_) (fun f cdv A outer s H E hr ds Q h=>⟨_,(zo (zI (zT (zc (zD (i_A (zN hr)) (pv' 0) zk) (zc (zD (i_A (zN hr)) (pv' 0) zk) (zc (zaj zcv z_tuple YA (zc (zbf (zc3 (fsc:=zl zcz) (N:=["_law_node","_law_label_here"]) (N':=["_law_kid_here","_law_label_here"]) (src:=[none,some 1]) (by refine ⟨rfl,?_,?_,?_,rfl,rfl⟩ <;> decide +kernel) (zbK (zD (i_A (zN hr)) (pv' 0) zk)) (fun _ _ _ _ _ _=>(zaa 0 (show (["_law_kid_here","_law_label_here"]:List Str).Nodup by decide +kernel))) (fun _ _ _ _ _ _=>(zdm (zK (zh1 (zb4 hr)) (zD (i_A (zN hr)) (pv' 0) zk) (pv' 1)))) (fun _ _ _ _ _ _=>(pv' 0)))) zi)) zi)))))),?_⟩)
 ·obtain ⟨t,l,rfl,_⟩:=h
  rfl
 obtain ⟨t,l,rfl,hl,hq⟩:=h; simp [zP,zt,zC,tC',zbr,zax,tB',zQ,zv,zau,zbB,zbz,zaW,zE,zF,zV,zbr]
 refine ⟨small (by omega),?_⟩
 refine zdb (fun i acc Γ=>∃ s0,acc=(((t.kds.take i).filter fun k=>decide (k.lab≠l)).map trD)/\Γ=[s0,.val (.str l)]) ⟨.emp,rfl,rfl⟩ ?_ ?_
 ·rintro i d acc Γ hd ⟨s0,rfl,rfl⟩
  rw [yH] at hd
  cases hcc:t.kds[i]? with
  | none=>rw [hcc] at hd; cases hd
  | some k =>
   rw [hcc] at hd; cases hd; rw [Yf,hcc]; simp [zP,zt,zC,tC',zbr,zax,tB',zQ,zv,zau,zbB,zbz,zaW,zE,zF,zV,zbr,JC,ix0]
   by_cases e:k.lab=l
   ·exact .inl e
   ·exact .inr ⟨e,by simp [e]⟩
 ·rintro acc Γ ⟨s0,rfl,rfl⟩
  rw [show List.take (List.map trD t.kds).length t.kds=t.kds from yh (by rw [yE]; exact yD _)]
  rw [zai] at hq; exact hq
end
def za7 (T:Cs):Sp':=fun ds Q=>∃ t p d c n,ds=[trD t,plc p,d]/\Wf c n t/\c<=200/\zq5 p/\((d=.non/\(p=[]\/zr t p=none))\/(∃ k,d=trD k/\zu k.lab=true/\∀ nd,zr t p=some nd->(zn k.lab nd.kds).isSome=true))/\Q (.val (.bl true))
instance {T:Cs}:MSp (za7 T):=⟨fun _ _ _ h ⟨t,p,d,c,n,e,z1,z2,z3,z4,q⟩=>⟨t,p,d,c,n,e,z1,z2,z3,z4,h _ q⟩⟩
def zpV (n:Nat) (p:Pl):Pln (n+1) (plc p):=.tup fun d hd=>by
 obtain ⟨l,_,rfl⟩:=yS.mp hd; exact .str n l
section
variable {T:Cs}
def za8:FnScope ["_law_tree_here","_law_place_here","_law_node","_law_error","e"] ["_law_tree_here","_law_place_here","_law_node"] (zl zb1):=sc0
def zfa (d:Df K mg "_law_refused" zb1 ["_law_tree_here","_law_place_here","_law_node"]) (cf:CF K T) (G_with_kid:FnX P w K mg base 4 "with_kid" ["tree","place","node"] (zbs T)) (G_without:FnX P w K mg base 4 "without" ["tree","place"] (zbL T)) (G_law_same:Fn P w K mg base 25 "_law_same" ["_law_found","_law_due"] (zaA 24)) (z_ValueError:mg "ValueError"=none) (z_isinstance:mg "isinstance"=none) (m_MendError:mg "MendError"=some (.ref T.MendError)) (m_NoAct:mg "NoAct"=some (.ref T.NoAct)) (m_NoDay:mg "NoDay"=some (.ref T.NoDay)) (m_NoFit:mg "NoFit"=some (.ref T.NoFit)) (m_NoName:mg "NoName"=some (.ref T.NoName)) (m_NoPlace:mg "NoPlace"=some (.ref T.NoPlace)) (m_NoRow:mg "NoRow"=some (.ref T.NoRow)) (m_NoText:mg "NoText"=some (.ref T.NoText)) (m_Twice:mg "Twice"=some (.ref T.Twice)):Fn P w K mg base 26 "_law_refused" ["_law_tree_here","_law_place_here","_law_node"] (za7 T):=by
 refine d.ok za8 (fun ds Q h=>?_) (fun f cdv A outer s H E hr ds Q h=>⟨_,(zm (zH 3 za8.nd zci)
  (zm (zpO 4 (zbh (zik (zK zqj (pv' 2) zci) (zbh (zfE (zkp G_without (hr.mono (by decide)) (zc (pv' 0) (zc (pv' 1) zi))))) (zbh (zfE (zkp G_with_kid (hr.mono (by decide)) (zc (pv' 0) (zc (pv' 1) (zc (pv' 2) zi))))))))
   (fun _=>(zo (zH 3 za8.nd (pv' 4)))) m_MendError za8.nd)
  (zm (zam (PW'.pt (zdl (zc2 (zaE (zw (zbG K rfl) z_isinstance ya (zc (pv' 3) (zc (zcj m_NoPlace) zi))))) (zdM (zc2 (zaE (zw (zbG K rfl) z_isinstance ya (zc (pv' 3) (zc (zfs z_ValueError ztt) zi)))))))) (zo (zI zca)) zU)
  (zm (zam (PW'.pt (zdl (zaE (zw (zbG K rfl) z_isinstance ya (zc (pv' 3) (zc (zcj m_NoText) zi)))) (zdl (zaE (zw (zbG K rfl) z_isinstance ya (zc (pv' 3) (zc (zcj m_NoFit) zi)))) (zdM (zaE (zw (zbG K rfl) z_isinstance ya (zc (pv' 3) (zc (zcj m_NoName) zi)))))))) (zo (zI zca)) zU)
  (zm (zam (PW'.pt (zdl (zaE (zw (zbG K rfl) z_isinstance ya (zc (pv' 3) (zc (zcj m_Twice) zi)))) (zdl (zaE (zw (zbG K rfl) z_isinstance ya (zc (pv' 3) (zc (zcj m_NoDay) zi)))) (zdl (zaE (zw (zbG K rfl) z_isinstance ya (zc (pv' 3) (zc (zcj m_NoAct) zi)))) (zdM (zaE (zw (zbG K rfl) z_isinstance ya (zc (pv' 3) (zc (zcj m_NoRow) zi))))))))) (zo (zI zca)) zU)
  (zo (zI (zaG G_law_same (hr.mono (by decide)) (zc (znq (pv' 3)) (zc (pv' 1) zi)))))))))),?_⟩)
 ·obtain ⟨t,p,d,c,n,rfl,_⟩:=h
  rfl
 obtain ⟨t,p,d,c,n,rfl,hw,hc,hp,h,q⟩:=h
 have hs:zaA 24 [plc p,plc p] fun r=>Q (Res.val r.toD):=⟨_,rfl,zpV _ _,q⟩
 have hlk:List.lookup ("place":Str) [(("place":Str),plc p)]=some (plc p):=by simp [List.lookup]
 rcases h with ⟨rfl,hd⟩ | ⟨k,rfl,hl,hd⟩
 ·simp [zag,zP,zaz,zal,zt,zC,tC',zax,tB',zde,zkg,zQ,zv,zbB,zJ,zO,zhu,zgo,zff,zpp,zkE,zE,zF,zV,zmt]
  refine ⟨t,p,c,n,rfl,hw,hc,hp,fun nd ab h0 hn _=>?_,fun _=>⟨cf.exm,cf.xis,.inr ⟨cf.kN,cf.xis,.inr ⟨cf.kV,cf.xis,.inl ⟨cf.k1,cf.xis,.inl ⟨cf.k2,cf.xis,.inl ⟨cf.k3,cf.xis,.inl ⟨cf.k4,cf.xis,.inl ⟨cf.k5,cf.xis,.inl ⟨cf.k6,cf.xis,.inl ⟨cf.k7,cf.xfl,cf.na,_,hlk,hs⟩⟩⟩⟩⟩⟩⟩⟩⟩⟩⟩
  rcases hd with z | z
  ·exact yN z h0
  ·rw [z] at hn; cases hn
 ·simp [zag,zP,zaz,zal,zt,zC,tC',zax,tB',zde,zkg,zQ,zv,zbB,zJ,zO,zhu,zgo,zff,zpp,zkE,zE,zF,zV,zmt,zcw]
  refine ⟨t,p,k,c,n,rfl,hw,hc,hp,hl,fun nd hn hk=>?_,fun _=>⟨cf.exm,cf.xis,.inr ⟨cf.kN,cf.xis,.inr ⟨cf.kV,cf.xis,.inl ⟨cf.k1,cf.xis,.inl ⟨cf.k2,cf.xis,.inl ⟨cf.k3,cf.xis,.inl ⟨cf.k4,cf.xis,.inl ⟨cf.k5,cf.xis,.inl ⟨cf.k6,cf.xis,.inl ⟨cf.k7,cf.xfl,cf.na,_,hlk,hs⟩⟩⟩⟩⟩⟩⟩⟩⟩⟩⟩
  have:=hd nd hn
  rw [hk] at this; cases this
end
def zou (T:Cs):Sp':=zjB
def zeN:D->D->D->Prop:=fun d x e=>∃ t k,d=trD t/\x=trD k/\(labs (t.kds ++ [k])).Nodup/\(∀ x ∈ t.kds ++ [k],zu x.lab=true)/\t.kds.length<=62/\e=trD (.node t.lab t.wds (zc9 (t.kds ++ [k])))
def zeM:D->D->D->Prop:=fun d x e=>∃ t p,d=trD t/\x=plc p/\p≠[]/\t.kds.length<=400/\e=trD (.node t.lab t.wds (t.kds.filter fun k=>decide (k.lab≠zay p)))
instance:MSpG (fun xd f=>zac (fun d e=>zeN d xd e) f 10):=⟨fun d f=>inferInstance⟩
instance:MSpG (fun xd f=>zac (fun d e=>zeM d xd e) f 10):=⟨fun d f=>inferInstance⟩
instance {T:Cs}:MSpX (zbs T):=⟨fun _ _ _ _ _ h g ⟨t,p,k,c,n,e,z1,z2,z3,z4,q,x⟩=>⟨t,p,k,c,n,e,z1,z2,z3,z4,fun a b c=>h _ (q a b c),fun y=>g _ _ (x y)⟩⟩
instance {T:Cs}:MSpX (zbL T):=⟨fun _ _ _ _ _ h g ⟨t,p,c,n,e,z1,z2,z3,q,x⟩=>⟨t,p,c,n,e,z1,z2,z3,fun a b c d e=>h _ (q a b c d e),fun y=>g _ _ (x y)⟩⟩
instance {sp:zkd} {t:TA'} [MSpX sp] [MA t]:ME (zcU sp t):=⟨fun Γ _ _ h q=>MA.mono (t:=t) _ _ _ (fun _ _ z=>MSpX.mono _ _ _ _ _ (fun _ y=>h _ _ y) (fun _ _ y=>y) z) q⟩
def ztu (ms:List Int) {k:Int} (h0:0<=k) (h1:k<ms.length):∃ z:Int,atI (ms.map D.int) k=some (.int z):=by
 obtain ⟨n,rfl⟩:=Yv h0
 have hn:n<ms.length:=by omega
 exact ⟨ms[n],zdT (by rw [yH,yC hn]; rfl)⟩
def sel {A A' B B' X Y:Prop} (ha:A\/A') (hb:B\/B') (hx:X) (hy:B'->Y):(A/\X)\/(A'/\((B/\X)\/(B'/\Y))):=by
 rcases ha with a | a
 ·exact .inl ⟨a,hx⟩
 ·rcases hb with b | b
  ·exact .inr ⟨a,.inl ⟨b,hx⟩⟩
  ·exact .inr ⟨a,.inr ⟨b,hy b⟩⟩
open Classical in
def zs7 {ns:Nd} {q:Pl}:(zbd (ndD ns) (plc q)).isSome=true↔q ∈ keys ns:=by
 constructor
 ·intro h
  obtain ⟨v,hv⟩:=YH.mp h; obtain ⟨y,hy,e⟩:=yS.mp (zhe hv)
  injection e with e1 e2
  rw [<- zey e1]; exact yX hy
 ·intro h
  rw [zcG h]; rfl
def zsO {c:Nat} {t:Tr} {Q:D->Prop} (w:Wf c 9 t) (h:Q (.bl false)):zkh (trD t) (trD t) Q:=by
 obtain ⟨b,e,hb⟩:=zo1 w w 100 (by decide)
 rw [hb.mpr rfl] at e; exact ⟨true,e,h⟩
def zsU {l:List Nat} {ks:List Tr} (h:l ∈ labs ks):(zn l ks).isSome=true:=by
 obtain ⟨k,hk⟩:=zeP h; rw [hk]; rfl
def zqB (ns:Nd) (n:Nat) (p:Pl):(zy n ns p).kds.length<=(zaL ns p).length:=by
 cases n with
 | zero=>exact YB _
 | succ n =>
  show ((zaV ns p).map _).length<=_
  rw [yE]; exact Nat.le_of_eq (zhC (zeC _) _ _)
def zqo {ks:List Tr} {k:Tr} (h:(labs ks).Nodup) (hk:zn k.lab ks=none):(labs (ks ++ [k])).Nodup:=by
 unfold labs; rw [YQ,Yo]
 refine ⟨h,by simp,fun a ha b hb e=>?_⟩
 rw [show b=k.lab by simpa using hb] at e
 have:=zsU (l:=k.lab) (ks:=ks) (e ▸ ha)
 rw [hk] at this; cases this
def zwy (xs:List Int) (i:Nat):(zdR xs (some (6+(i:Int))) (some (6+(i:Int)+4))).length<=4:=by
 unfold zdR; rw [YJ,Yj]; unfold HT.sIx; simp
 rw [yK (by omega),yK (by omega)]
 omega
def ztk (xs:List Int):(zdR xs (some 6) (some 26)).length<=20:=by
 unfold zdR; rw [YJ,Yj]
 have e1:HT.sIx xs.length 0 (some 6)=min 6 xs.length:=by unfold HT.sIx; simp
 have e2:HT.sIx xs.length xs.length (some 26)=min 26 xs.length:=by unfold HT.sIx; simp
 rw [e1,e2]; omega
section
variable {T:Cs}
def zb9:FnScope ["_law_script","_law_nodes_here","_law_tree_here","_law_k","_law_cell","_law_place_here","_law_node","_law_due"] ["_law_script"] (zl ze8):=sc0
def zsF (d:Df K mg "law" ze8 ["_law_script"]) (cf:CF K T) (G_with_kid:FnX P w K mg base 4 "with_kid" ["tree","place","node"] (zbs T)) (G_without:FnX P w K mg base 4 "without" ["tree","place"] (zbL T)) (G_law_nodes:Fn P w K mg base 3 "_law_nodes" ["_law_cells"] zaP) (G_law_tree:Fn P w K mg base 15 "_law_tree" ["_law_nodes_here","_law_place_here"] (zan 10)) (G_law_place:Fn P w K mg base 2 "_law_place" ["_law_nodes_here","_law_cell"] zbc) (G_law_kid:Fn P w K mg base 16 "_law_kid" ["_law_cells","_law_cell"] zbM) (G_law_laid:FnM P w K mg base 5 "_law_laid" ["_law_nodes_here","_law_place_here","_law_node"] 0 (zaJ 4)) (G_law_gone:Fn P w K mg base 1 "_law_gone" ["_law_nodes_here","_law_place_here"] zbV) (G_law_same:Fn P w K mg base 25 "_law_same" ["_law_found","_law_due"] (zaA 24)) (D_law_changed:Df K mg "_law_changed" zbk ["_law_node","_law_place_here","_law_form"]) (G_law_changed:∀ (J:L2.Jt) (R:D->D->Prop) (f:Addr),FnV P w K mg base J 6 f R->FnJ P w K mg base J 16 "_law_changed" ["_law_node","_law_place_here","_law_form"] (zac R f 10)) (G_law_with:Fn P w K mg base 5 "_law_with" ["_law_node","_law_kid_here"] zcW) (G_law_less:Fn P w K mg base 1 "_law_less" ["_law_node","_law_label_here"] zcX) (G_law_refused:Fn P w K mg base 26 "_law_refused" ["_law_tree_here","_law_place_here","_law_node"] (za7 T)) (z_len:mg "len"=none) (z_min:mg "min"=none) (z_range:mg "range"=none) (lo:LamOf K mg base "law" "law.<locals>.<lambda>"):Fn P w K mg base 27 "law" ["_law_script"] (zou T):=by
 refine d.okL lo zb9 (fun ds Q h=>?_) (fun f cdv A outer s H E la hr ds Q h=>⟨_,(zm (zcC 1 zb9.nd (zsf G_law_nodes (hr.mono (by decide)) (zc (zbF s_A (pv' 0) (zcI zk) (zcI zk)) zi)))
  (zm (zH 2 zb9.nd (zez (zaG G_law_tree (hr.mono (by decide)) (zc (pv' 1) (zc (zT zi) zi)))))
  (zm (zbJ (zjN z_range (zc zk (zc (zw (ztn rfl) z_min PyProof.Rows.boot_min (zc (zw zbg z_len YF (zc (pv' 0) zi)) (zc zk zi))) zi))) (zaa 3 zb9.nd)
   (zm (zH 4 zb9.nd (zD (i_A (zN hr)) (pv' 0) (pv' 3)))
  (zm (zH 5 zb9.nd (zez (zaG G_law_place (hr.mono (by decide)) (zc (pv' 1) (zc (zB zbw (pv' 4) zk) zi)))))
  (zo (zam (PW'.pt (zfW (zK zsI (zB zcl (pv' 4) zk) zk) (zeb (zK zsI (zw zbg z_len YF (zc (pv' 5) zi)) zk)))) (zm (zH 6 zb9.nd (zaG G_law_kid (hr.mono (by decide)) (zc (zbF s_A (pv' 0) (zcI (pv' 3)) (zcI (zB zaR (pv' 3) zk))) (zc (zB zbw (pv' 4) zk) zi))))
  (zo (zam (zhN (PW'.pt (zdl (zK (zf5 (zN hr)) (pv' 5) (pv' 1)) (zdM (zK (zsM (zN hr)) (zB zaR (pv' 5) (zT (zc (zD (i_A (zN hr)) (pv' 6) zk) zi))) (pv' 1)))))) (zo (zam (zc2 (zaE (zaG G_law_refused (hr.mono (by decide)) (zc (pv' 2) (zc (pv' 5) (zc (pv' 6) zi)))))) (zo (zI zca)) zU)) (zm (zH 7 zb9.nd (zgL 6 (kl:=5) (x:="_law_node") (R:=zeN) (sp:=fun xd f=>zac (fun d e=>zeN d xd e) f 10) la D_law_changed (fun J xd f V=>G_law_changed J _ f V) (zoF rfl rfl rfl rfl (by decide +kernel) (by decide +kernel))
   (fun f c c' A outer s H E hr ds Q h=>⟨_,(zaG G_law_with (hr.mono (by decide)) (zc (pv' 0) (zc (pv' 1) zi))),?lam1⟩) (fun _ _ _ _ _=>rfl) (hr.mono (by decide)) (pv' 2) (pv' 5) rfl rfl (zjn rfl)))
  (zm (zH 2 zb9.nd (zoB G_with_kid (hr.mono (by decide)) (zc (pv' 2) (zc (pv' 5) (zc (pv' 6) zi)))))
  (zm (zuV 1 (ziJ (ziS G_law_laid (hr.mono (by decide)) (zk7 1 (zc (zB zaR (pv' 5) (zT (zc (zD (i_A (zN hr)) (pv' 6) zk) zi))) (zc (pv' 6) zi))))))
  (zo (zam (zK (zh1 (zb4 hr)) (pv' 2) (pv' 7)) (zo (zI zca)) zU)))))))) (zo (zam (zhN (PW'.pt (zdl (zK (zf5 (zN hr)) (pv' 5) (pv' 1)) (zdM (zK (zd8 (zb4 hr)) (pv' 5) (zT zi)))))) (zo (zam (zc2 (zaE (zaG G_law_refused (hr.mono (by decide)) (zc (pv' 2) (zc (pv' 5) (zc zci zi)))))) (zo (zI zca)) zU)) (zm (zH 7 zb9.nd (zgL 5 (kl:=5) (x:="_law_place_here") (R:=zeM) (sp:=fun xd f=>zac (fun d e=>zeM d xd e) f 10) la D_law_changed (fun J xd f V=>G_law_changed J _ f V) (zoF rfl rfl rfl rfl (by decide +kernel) (by decide +kernel))
   (fun f c c' A outer s H E hr ds Q h=>⟨_,(zaG G_law_less (hr.mono (by decide)) (zc (pv' 0) (zc (zD (i_A (zN hr)) (pv' 1) zbv) zi))),?lam2⟩) (fun _ _ _ _ _=>rfl) (hr.mono (by decide)) (pv' 2) (zbF s_A (pv' 5) zd7 (zcI zbv)) rfl rfl (zjn rfl)))
  (zm (zH 2 zb9.nd (zoB G_without (hr.mono (by decide)) (zc (pv' 2) (zc (pv' 5) zi))))
  (zm (zcC 1 zb9.nd (znf (zsf G_law_gone (hr.mono (by decide)) (zc (pv' 1) (zc (pv' 5) zi)))))
  (zo (zam (zK (zh1 (zb4 hr)) (pv' 2) (pv' 7)) (zo (zI zca)) zU))))))))))))
  (zo (zI (zez (zaG G_law_same (hr.mono (by decide)) (zc (pv' 2) (zc (zaG G_law_tree (hr.mono (by decide)) (zc (pv' 1) (zc (zT zi) zi))) zi))))))))),?_⟩)
 case lam1 =>
  obtain ⟨d,x,e,rfl,⟨t,k,rfl,rfl,hn,hp,hl,rfl⟩,hq⟩:=h
  simp [zag,zP,zaz,zal,zt,zC,tC',zax,tB',zde,zdh,zkg,zQ,zv,zau,zbB,zdW,zba,zdY,zaX,zfv,zJ,zO,zdD,zcN,zaM,zbQ,zjx,zdf,zcU,zE,zF,zV,zce,tBr,brN,zdg,zdc,zcV,zeo]; exact ⟨t,k,rfl,hn,hp,hl,hq⟩
 case lam2 =>
  obtain ⟨d,x,e,rfl,⟨t,p,rfl,rfl,h0,hl,rfl⟩,hq⟩:=h
  simp [zag,zP,zaz,zal,zt,zC,tC',zax,tB',zde,zdh,zkg,zQ,zv,zau,zbB,zdW,zba,zdY,zaX,zfv,zJ,zO,zdD,zcN,zaM,zbQ,zjx,zdf,zcU,zE,zF,zV,zce,tBr,brN,zdg,zdc,zcV,zeo]; exact ⟨_,zgl h0,t,zay p,rfl,hl,hq⟩
 ·obtain ⟨ns,rfl,_⟩:=h
  rfl
 obtain ⟨cs,rfl,hl,hq⟩:=h; simp [zag,zP,zaz,zal,zt,zC,tC',zax,tB',zde,zdh,zkg,zQ,zv,zau,zbB,zdW,zba,zdY,zaX,zfv,zJ,zO,zdD,zcN,zaM,zbQ,zjx,zdf,zcU,zE,zF,zV,zce,tBr,brN,zdg,zdc,zcV,zeo,zaP]
 refine ⟨zdR cs (some 6) (some 26),by rw [zek],by have:=ztk cs; omega,fun ns o hlen=>?_⟩
 have hlen21:ns.length<=21:=by have:=ztk cs; omega
 refine ⟨ns,[],rfl,o.ok,o.ok.nil,by decide,zi6 _,⟨by split <;> omega,by split <;> omega⟩,?_⟩
 refine zeZ (fun i Γ=>∃ (ns:Nd) (s3 s4 s5 s6 s7:Slot),Γ=[.val (.lst (cs.map .int)),.own (.dit (ndD ns)),.val (trD (zy 9 ns [])),s3,s4,s5,s6,s7]/\NW ns/\(∀ q,(zaL ns q).length<=21+i)/\ns.length<=21+5 * i)
  ⟨ns,_,_,_,_,_,rfl,o,fun q=>yq (zeg ns q) hlen21,hlen21⟩ ?_ ?_
 ·rintro i d Γ hd ⟨ns,s3,s4,s5,s6,s7,rfl,o,hb,hm⟩
  have hi:i<((if 48<(cs.length:Int) then 48 else (cs.length:Int))-6).toNat:=by simpa using (yG.mp hd).1
  rw [yH,Ys hi] at hd; cases hd
  have hi42:i<42/\6+i<cs.length:=by
   split at hi <;> omega
  obtain ⟨c,hc⟩:=ztu cs (k:=6+(i:Int)) (by omega) (by omega)
  simp [zag,zP,zaz,zal,zt,zC,tC',zax,tB',zde,zdh,zkg,zQ,zv,zau,zbB,zdW,zba,zdY,zaX,zfv,zJ,zO,zdD,zcN,zaM,zbQ,zjx,zdf,zcU,zE,zF,zV,zce,tBr,brN,zdg,zdc,zcV,zeo,zbc,zbM]; refine ⟨_,hc,?_⟩; simp [zop]
  refine ⟨ns,rfl,o.ok,fun p hp=>⟨Imm.plc p,?_⟩⟩
  have w1:=zbH o 9 [] o.ok.nil (by simp)
  have w9:Wf 63 9 (zy 9 ns []):=w1
  have keep:∃ ns_2,(ndD ns=ndD ns_2/\trD (zy 9 ns [])=trD (zy 9 ns_2 []))/\NW ns_2/\(∀ q:Pl,(zaL ns_2 q).length<=21+(i+1))/\List.length ns_2<=21+5 * (i+1):=⟨ns,⟨rfl,rfl⟩,o,fun q=>by have:=hb q; omega,by omega⟩
  have isf:=fun q:Pl=>zs7 (ns:=ns) (q:=q)
  have none_of:∀ {q:Pl},q ∉ keys ns->zr (zy 9 ns []) q=none:=fun {q} hk=>by
   cases e:zr (zy 9 ns []) q with
   | none=>rfl
   | some x=>exact yN ((znG o.ok).mp (by rw [e]; rfl)) hk
  refine sel (by omega) (by omega) (zbu _ _ ?_) (fun h6=>⟨zdR cs (some (6+(i:Int))) (some (6+(i:Int)+4)),by rw [zek],zwy cs i,fun k wk=>zbu _ _ ?_⟩)
  ·by_cases hk:p ∈ keys ns
   ·rw [(isf p).mpr hk]
    refine .inl ⟨rfl,?_⟩
    by_cases h0:p=[]
    ·exact .inr ⟨h0,_,p,_,63,9,rfl,w9,by decide,hp,.inl ⟨rfl,.inl h0⟩,.inr ⟨rfl,keep⟩⟩
    ·have hab:=zen o.ok (o.ok.up p hk)
     have hnd:=zen o.ok hk; have gt:=zlP o h0 hab; have on:=zlQ o h0
     have w2:Wf 63 9 (zy 9 (zcJ ns p) []):=zbH on 9 [] on.ok.nil (by simp)
     have hf:=(w9.at hab).2.few
     refine .inl ⟨h0,Imm.plc p,fun f=>?_⟩
     rw [zcu]
     refine ⟨_,_,_,_,_,63,rfl,w9.up (yD _) (by decide),by decide,hab,⟨_,p,rfl,rfl,h0,by omega,rfl⟩,by rw [List.length_dropLast]; have:=hp.1; omega,?_⟩
     refine ⟨_,p,63,9,rfl,w9,by decide,hp,fun nd' ab' _ hn' hab'=>?_,fun z=>?_⟩
     ·rw [hab] at hab'
      cases hab'; refine ⟨ns,p,rfl,o.ok,hp.1,_,rfl,?_,?_⟩
      ·intro q hq
       obtain ⟨x,_,rfl⟩:=yS.mp hq; exact Imm.plc _
      ·show zkh (trD _) (trD _) _
       have gt':zcc (zy 9 ns []) p.dropLast (zy (9-p.dropLast.length) ns p.dropLast).wds ((zy (9-p.dropLast.length) ns p.dropLast).kds.filter fun k=>decide (k.lab≠zay p))=zy 9 (zcJ ns p) []:=gt
       rw [gt,gt']
       refine zsO w2 (.inl ⟨rfl,zcJ ns p,⟨rfl,rfl⟩,on,fun q=>by have:=hb q; have:=zi8 (ns:=ns) (p:=p) q; omega,?_⟩)
       have:(zcJ ns p).length<=ns.length:=JF _ _
       omega
     ·rcases z with z | z
      ·exact h0 z
      ·rw [hnd] at z; cases z
   ·rw [Bool.eq_false_iff.mpr fun z=>hk ((isf p).mp z)]
    exact .inr ⟨rfl,_,p,_,63,9,rfl,w9,by decide,hp,.inl ⟨rfl,.inr (none_of hk)⟩,.inr ⟨rfl,keep⟩⟩
  ·by_cases hk:p ∈ keys ns
   ·rw [(isf p).mpr hk]
    have hnd:=zen o.ok hk; have wn:=(w9.at hnd).2
    refine .inl ⟨rfl,small (by have:=hp.1; omega),zm7 _ _ ?_⟩
    by_cases hk2:p ++ [k.lab] ∈ keys ns
    ·rw [(isf _).mpr hk2]
     refine .inr ⟨rfl,_,p,_,63,9,rfl,w9,by decide,hp,.inr ⟨k,rfl,wk.lab,fun nd' hn'=>?_⟩,.inr ⟨rfl,keep⟩⟩
     have h1:(wd (zy 9 ns []) (p ++ [k.lab])).isSome=true:=by rw [zcd o.ok]; exact zaq.mp hk2
     rw [zgp,hn'] at h1; exact zsU (zkv.mp h1)
    ·rw [Bool.eq_false_iff.mpr fun z=>hk2 ((isf _).mp z)]
     have hkn:zn k.lab (zy (9-p.length) ns p).kds=none:=by
      cases e:zn k.lab (zy (9-p.length) ns p).kds with
      | none=>rfl
      | some x =>
       refine yN (zaq.mpr ?_) hk2; rw [<- zcd o.ok,zgp,hnd]
       show (wd (zy (9-p.length) ns p) [k.lab]).isSome=true
       rw [zbe,e]; rfl
     have hlen:=zqB ns (9-p.length) p; have hbp:=hb p; have hcn:=wk.cn
     have hnw:=zsR o wk hk (by omega) hk2 hb (by omega) (by omega) (by omega)
     have lt:=zlA o wk hk (by omega) hk2 hnw hnd hkn
     have w2:Wf 63 9 (zy 9 (zc6 ns (ent k (p ++ [k.lab]))) []):=zbH hnw 9 [] hnw.ok.nil (by simp)
     refine .inl ⟨rfl,zi6 k,fun f=>?_⟩
     refine ⟨_,p,_,_,_,63,rfl,w9.up (yD _) (by decide),by decide,hnd,⟨_,k,rfl,rfl,zqo wn.nd hkn,fun x hx=>?_,by omega,rfl⟩,by have:=hp.1; omega,?_⟩
     ·rcases ye.mp hx with z | z
      ·exact wn.plab x z
      ·rw [yd.mp z]; exact wk.lab
     ·refine ⟨_,p,k,63,9,rfl,w9,by decide,hp,wk.lab,fun nd' hn' hk'=>?_,fun z=>?_⟩
      ·rw [hnd] at hn'
       cases hn'
       refine ⟨small (by have:=hp.1; omega),?_⟩
       show zaJ 4 (OD.dit (ndD ns)) [plc (p ++ [k.lab]),trD k] _
       refine ⟨ns,_,k,63,rfl,rfl,wk.wf.up (yD _) (by decide),by decide,by simp; omega,by omega,?_⟩
       show zkh (trD _) (trD _) _
       rw [lt]
       refine zsO w2 (.inl ⟨rfl,_,⟨rfl,rfl⟩,hnw,fun q=>by have:=zlw o wk hk2 hb (by omega) q; omega,?_⟩)
       have h1:=zeL (ent k (p ++ [k.lab])) ns; rw [ze1 wk.wf] at h1; omega
      ·have:=z _ hnd
       rw [hkn] at this; cases this
   ·rw [Bool.eq_false_iff.mpr fun z=>hk ((isf p).mp z)]
    exact .inr ⟨rfl,_,p,_,63,9,rfl,w9,by decide,hp,.inr ⟨k,rfl,wk.lab,fun nd' hn'=>by rw [none_of hk] at hn'; cases hn'⟩,.inr ⟨rfl,keep⟩⟩
 ·rintro Γ ⟨ns,s3,s4,s5,s6,s7,rfl,o,hb,hm⟩
  simp [zag,zP,zaz,zal,zt,zC,tC',zax,tB',zde,zdh,zkg,zQ,zv,zau,zbB,zdW,zba,zdY,zaX,zfv,zJ,zO,zdD,zcN,zaM,zbQ,zjx,zdf,zcU,zE,zF,zV,zce,tBr,brN,zdg,zdc,zcV,zeo]
  have w9:Wf 63 9 (zy 9 ns []):=zbH o 9 [] o.ok.nil (by simp)
  exact ⟨ns,[],rfl,o.ok,o.ok.nil,by decide,_,rfl,((M84.wf_dp w9).pln).up (by decide),.bl true,hq⟩
end
end K06
namespace PL
open PySem L2
def ar1 {A B C D E F:Sort _} {p:A->B->C->D->E->F->List Value->Prop} (h:∀ a b c d e f x0,p a b c d e f [x0]):∀ a b c d e f us,us.length=1->p a b c d e f us:=fun a b c d e f us hl=>match us,hl with | [x0],_=>h a b c d e f x0
def ar2 {A B C D E F:Sort _} {p:A->B->C->D->E->F->List Value->Prop} (h:∀ a b c d e f x0 x1,p a b c d e f [x0,x1]):∀ a b c d e f us,us.length=2->p a b c d e f us:=fun a b c d e f us hl=>match us,hl with | [x0,x1],_=>h a b c d e f x0 x1
def ar3 {A B C D E F:Sort _} {p:A->B->C->D->E->F->List Value->Prop} (h:∀ a b c d e f x0 x1 x2,p a b c d e f [x0,x1,x2]):∀ a b c d e f us,us.length=3->p a b c d e f us:=fun a b c d e f us hl=>match us,hl with | [x0,x1,x2],_=>h a b c d e f x0 x1 x2
def Dn (K:W.Frag) (x:Str) (st:Stmt):Prop:=∃ f fd,Fun K x x st f fd/\W.nsIn K mainGlobals x=some (some (.ref f))
section
variable {x:Str} {st:Stmt}
def Dn.mk {f:Addr} {oc:Value} {od an:Option Addr} {osl:Array (Option Value)} {kV doc pm cdv ct:Value} (a:W.nsIn K mainGlobals x=some (some (.ref f))) (l:K.lookup f=some ⟨oc,od,.func (W.fnOf x x (zbA st) (zak st) (zl st) .none kV doc pm an cdv ct),osl⟩) (c:W.codeIn K cdv x=true) (k:W.keepIn K (.ref f)=true):Dn K x st:=⟨f,_,zg7 l c k,a⟩
def Dn.df {h:Heap} {mg:Str->Option Value} (D:Dn K x st) (X:K.In h) (G:h.Ns mainGlobals mg) (ps:List Str) (hb:∀ (kV doc pm:Value) (an:Option Addr) (cdv ct:Value) (us:List Value),us.length=ps.length->bindArgs (W.fnOf x x (zbA st) (zak st) (zl st) .none kV doc pm an cdv ct) ⟨us,[]⟩=pure (ps.zip us)):Df K mg x st ps:=by
 obtain ⟨f,fd,F,a⟩:=D; exact ⟨f,fd,F,F.binds hb,W.mg_of X G a⟩
end
end PL
namespace K06
open PySem L2 Lb PL MT M04 MS M70 M71 M72 M74 M76 M25 M06
section
def zjF:FnScope ["self","place"] ["self","place"] (zl zas):=sc0
def zg3 {f C M N:Addr} {bm:List Value} {fd:FuncData} (F:Fun K "__init__" "NoPlace.__init__" zas f fd) (B:BIn K M) (hm:mg "MendError"=some (.ref M)) (cl:XCl K C N bm) (xs:X1.XSet K C) (na:zcS K C "place"):FnOk P w K mg base CX0 1 f fd ["self","place"] (ztD C "place" za4):=by
 refine F.ok zjF (fun vs H Q E h=>?_) (fun cdv A outer s H vs Q E hr h=>?_)
 ·obtain ⟨a,v,rfl,_⟩:=h
  rfl
 ·obtain ⟨a,v,rfl,ha,hv,k⟩:=h
  refine ⟨_,ziI (zhO (znw (X:=(zdy CX0 P w K mg base _ _ _ f cdv A outer s H E).nox) B rfl hm (zck (pv 0) (zck (znp 1300 (by decide) (pv 1)) ziT rfl) rfl)) rfl) (zkZ (zpN (pv 0) (pv 1) rfl)),?_⟩
  exact ⟨_,rfl,_,rfl,rep_tup hr hv,fun z=>⟨a,C,N,bm,z,rfl,ha,cl,_,rfl,_,rfl,a,C,rfl,ha,xs,na,fun dx hdx=>k dx hdx⟩⟩
end
def tab_mem {T:List (Addr × Str)} {b:Addr} {q:Str} (h:T.lookup b=some q):b ∈ T.map (·.1):=by
 induction T with
 | nil=>cases h
 | cons x r ih =>
  obtain ⟨a,s⟩:=x
  by_cases e:b=a
  ·subst e; simp
  ·have e':(b == a)=false:=beq_eq_false_iff_ne.mpr e
   rw [yY,e'] at h; exact yL _ (ih h)
def all_mk {l:W.OpenLaw} {w:World} {K:W.Frag} {h:Heap} {mg:Str->Option Value} {fa f19 f20 f25  :Addr} (X:K.In h) (G:h.Ns mainGlobals mg) (hfa:mg "law"=some (.ref fa))
  {C_MendError C_NoPlace C_NoText C_NoFit C_NoName C_Twice C_NoDay C_NoAct C_NoRow N_MendError N_NoPlace j_NoPlace:Addr}
  {nm_MendError qn_MendError:Str} {bs_MendError bm_MendError sb_MendError:List Value} {hd_MendError ab_MendError:Bool} {sn_MendError:List Str} {co_MendError:Option Bool} {dd_MendError:Option Addr} {ka_MendError kb_MendError kc_MendError kd_MendError ke_MendError:Option Value} {ni_MendError:String} {cn_MendError:Value} {dn_MendError:Option Addr} {es_MendError:Array DictEntry} {ep_MendError:Nat} {sk_MendError:Array (Option Value)}
  {nm_NoPlace qn_NoPlace:Str} {bs_NoPlace bm_NoPlace sb_NoPlace:List Value} {hd_NoPlace ab_NoPlace:Bool} {sn_NoPlace:List Str} {co_NoPlace:Option Bool} {dd_NoPlace:Option Addr} {ka_NoPlace kb_NoPlace kc_NoPlace kd_NoPlace ke_NoPlace:Option Value} {ni_NoPlace:String} {cn_NoPlace:Value} {dn_NoPlace:Option Addr} {es_NoPlace:Array DictEntry} {ep_NoPlace:Nat} {sk_NoPlace:Array (Option Value)}
  {jd_NoPlace jn_NoPlace:Option Addr} {js_NoPlace:Array (Option Value)} {jk_NoPlace jo_NoPlace jm_NoPlace je_NoPlace jt_NoPlace:Value}
  {od19 an19 od20 an20 od25 an25:Option Addr} {sl19 sl20 sl25:Array (Option Value)} {oc19 kV19 dc19 pm19 ct19 oc20 kV20 dc20 pm20 ct20 oc25 kV25 dc25 pm25 ct25:Value}
  {x1:Str} {t1:Tok}
  {cc19 PT19 cc20 PT20 cc25 PT25:Addr}
  (D1:Dn K "figures_of" zch)
  (D2:Dn K "kid_with" zdJ)
  (D3:Dn K "_law_label" zc1)
  (D4:Dn K "_law_word" zdG)
  (D5:Dn K "_law_key" zew)
  (D6:Dn K "_law_gone" zcA)
  (D7:Dn K "_law_less" zcz)
  (D8:Dn K "label_rank" zcg)
  (D9:Dn K "node_at" zeu)
  (D10:Dn K "_law_words" zb0)
  (D11:Dn K "_law_place" zcZ)
  (D12:Dn K "label_before" zbI)
  (D13:Dn K "node_or_refusal" za0)
  (D14:Dn K "with_node" zbZ)
  (D15:Dn K "_law_nodes" zc0)
  (D16:Dn K "with_kid" zcy)
  (D17:Dn K "without" zdk)
  (D18:Dn K "_law_laid" zdI)
  (a19:W.nsIn K mainGlobals "_law_with"=some (some (.ref f19)))
  (l19:K.lookup f19=some ⟨oc19,od19,.func (W.fnOf "_law_with" "_law_with" (zbA za1) (zak za1) (zl za1) .none kV19 dc19 pm19 an19 (.ref cc19) ct19),sl19⟩)
  (c19:W.codeIn K (.ref cc19) "_law_with"=true)
  (k19:W.keepIn K (.ref f19)=true)
  (a20:W.nsIn K mainGlobals "_law_tree"=some (some (.ref f20)))
  (l20:K.lookup f20=some ⟨oc20,od20,.func (W.fnOf "_law_tree" "_law_tree" (zbA zaF) (zak zaF) (zl zaF) .none kV20 dc20 pm20 an20 (.ref cc20) ct20),sl20⟩)
  (c20:W.codeIn K (.ref cc20) "_law_tree"=true)
  (k20:W.keepIn K (.ref f20)=true)
  (D21:Dn K "_law_kid" zev)
  (D22:Dn K "_law_changed" zbk)
  (D23:Dn K "_law_same" zdH)
  (D24:Dn K "_law_refused" zb1)
  (a25:W.nsIn K mainGlobals "law"=some (some (.ref f25)))
  (l25:K.lookup f25=some ⟨oc25,od25,.func (W.fnOf "law" "law" (zbA ze8) (zak ze8) (zl ze8) .none kV25 dc25 pm25 an25 (.ref cc25) ct25),sl25⟩)
  (c25:W.codeIn K (.ref cc25) "law"=true)
  (k25:W.keepIn K (.ref f25)=true)
  (z1:W.nsIn K mainGlobals "ValueError"=some none)
  (z2:W.nsIn K mainGlobals "dict"=some none)
  (z3:W.nsIn K mainGlobals "int"=some none)
  (z4:W.nsIn K mainGlobals "isinstance"=some none)
  (z5:W.nsIn K mainGlobals "len"=some none)
  (z6:W.nsIn K mainGlobals "list"=some none)
  (z7:W.nsIn K mainGlobals "min"=some none)
  (z8:W.nsIn K mainGlobals "range"=some none)
  (z9:W.nsIn K mainGlobals "sorted"=some none)
  (z10:W.nsIn K mainGlobals "str"=some none)
  (z11:W.nsIn K mainGlobals "tuple"=some none)
  (z12:W.nsIn K mainGlobals "zip"=some none)
  (g1:W.nsIn K mainGlobals "SMALL_LETTERS"=some (some (.str x1 t1)))
  (e1:x1=st zrf)
  (aC_MendError:W.nsIn K mainGlobals "MendError"=some (some (.ref C_MendError)))
  (hdC_MendError:W.hasDictIn K C_MendError=true)
  (ty_MendError:W.typeIn K (.ref C_MendError)=some (.type "type"))
  (aC_NoPlace:W.nsIn K mainGlobals "NoPlace"=some (some (.ref C_NoPlace)))
  (hdC_NoPlace:W.hasDictIn K C_NoPlace=true)
  (ty_NoPlace:W.typeIn K (.ref C_NoPlace)=some (.type "type"))
  (aC_NoText:W.nsIn K mainGlobals "NoText"=some (some (.ref C_NoText)))
  (hdC_NoText:W.hasDictIn K C_NoText=true)
  (ty_NoText:W.typeIn K (.ref C_NoText)=some (.type "type"))
  (aC_NoFit:W.nsIn K mainGlobals "NoFit"=some (some (.ref C_NoFit)))
  (hdC_NoFit:W.hasDictIn K C_NoFit=true)
  (ty_NoFit:W.typeIn K (.ref C_NoFit)=some (.type "type"))
  (aC_NoName:W.nsIn K mainGlobals "NoName"=some (some (.ref C_NoName)))
  (hdC_NoName:W.hasDictIn K C_NoName=true)
  (ty_NoName:W.typeIn K (.ref C_NoName)=some (.type "type"))
  (aC_Twice:W.nsIn K mainGlobals "Twice"=some (some (.ref C_Twice)))
  (hdC_Twice:W.hasDictIn K C_Twice=true)
  (ty_Twice:W.typeIn K (.ref C_Twice)=some (.type "type"))
  (aC_NoDay:W.nsIn K mainGlobals "NoDay"=some (some (.ref C_NoDay)))
  (hdC_NoDay:W.hasDictIn K C_NoDay=true)
  (ty_NoDay:W.typeIn K (.ref C_NoDay)=some (.type "type"))
  (aC_NoAct:W.nsIn K mainGlobals "NoAct"=some (some (.ref C_NoAct)))
  (hdC_NoAct:W.hasDictIn K C_NoAct=true)
  (ty_NoAct:W.typeIn K (.ref C_NoAct)=some (.type "type"))
  (aC_NoRow:W.nsIn K mainGlobals "NoRow"=some (some (.ref C_NoRow)))
  (hdC_NoRow:W.hasDictIn K C_NoRow=true)
  (ty_NoRow:W.typeIn K (.ref C_NoRow)=some (.type "type"))
  (bC_MendError:K.lookup C_MendError=some (excClassObj nm_MendError qn_MendError C_MendError N_MendError bs_MendError bm_MendError hd_MendError sn_MendError sb_MendError ab_MendError co_MendError dd_MendError ka_MendError kb_MendError kc_MendError kd_MendError ke_MendError ni_MendError))
  (lN_MendError:K.lookup N_MendError=some ⟨cn_MendError,dn_MendError,.dict es_MendError ep_MendError,sk_MendError⟩)
  (sB_MendError:skB es_MendError=true)
  (kC_MendError:W.keepIn K (.ref C_MendError)=true)
  (bC_NoPlace:K.lookup C_NoPlace=some (excClassObj nm_NoPlace qn_NoPlace C_NoPlace N_NoPlace bs_NoPlace bm_NoPlace hd_NoPlace sn_NoPlace sb_NoPlace ab_NoPlace co_NoPlace dd_NoPlace ka_NoPlace kb_NoPlace kc_NoPlace kd_NoPlace ke_NoPlace ni_NoPlace))
  (lN_NoPlace:K.lookup N_NoPlace=some ⟨cn_NoPlace,dn_NoPlace,.dict es_NoPlace ep_NoPlace,sk_NoPlace⟩)
  (sB_NoPlace:skB es_NoPlace=true)
  (kC_NoPlace:W.keepIn K (.ref C_NoPlace)=true)
  (iB:W.nsIn K N_MendError "__init__"=some none)
  (B1:W.specialIn K (.ref C_MendError) "__getattribute__"=some (some (.builtin "type.__getattribute__")))
  (B2:W.readsIn K C_MendError (.type "type")=true)
  (B3:W.findCls K (.ref C_MendError) (.type "type") "__init__"=some (.val (.builtin "ValueError.__init__")))
  (hn:W.specialIn K (.builtin "object.__class__") "__get__"=some (some (.builtin "getset_descriptor.__get__")))
  (htk:W.takesIn K (.builtin "object.__class__")=some true)
  (eb_NoPlace:bm_NoPlace=.ref C_MendError :: vbm)
  (en_NoPlace:ni_NoPlace="ValueError.__new__")
  (iI_NoPlace:W.nsIn K N_NoPlace "__init__"=some (some (.ref j_NoPlace)))
  (lI_NoPlace:K.lookup j_NoPlace=some ⟨.type "function",jd_NoPlace,.func (W.fnOf "__init__" "NoPlace.__init__" (zbA zas) (zak zas) (zl zas) .none jk_NoPlace jo_NoPlace jm_NoPlace jn_NoPlace je_NoPlace jt_NoPlace),js_NoPlace⟩)
  (cI_NoPlace:W.codeIn K je_NoPlace "NoPlace.__init__"=true)
  (kI_NoPlace:W.keepIn K (.ref j_NoPlace)=true)
  (sa_NoPlace:W.findIn K (.ref C_NoPlace) "__setattr__"=some (some (.builtin "object.__setattr__")))
  (na_NoPlace:W.findIn K (.ref C_NoPlace) "place"=some none)
  (ga_NoPlace:W.findIn K (.ref C_NoPlace) "__getattribute__"=some (some (.builtin "BaseException.__getattribute__")))
  (gr_NoPlace:W.findIn K (.ref C_NoPlace) "__getattr__"=some none)
  (mb_NoPlace:W.mroIn K C_NoPlace (.type "BaseException")=some true)
  (ha_NoPlace:W.findIn K (.ref C_NoPlace) "__class__"=some (some (.builtin "object.__class__")))
  (hm_NoPlace:W.mroIn K C_NoPlace (.type "object")=some true)
  (xm_NoPlace:hd_NoPlace=true)
  (mM:W.mroIn K C_NoPlace (.ref C_MendError)=some true)
  (mbM:W.mroIn K C_MendError (.type "BaseException")=some true)
  (mV:W.mroIn K C_NoPlace (.type "ValueError")=some true)
  (q_NoText:W.mroIn K C_NoPlace (.ref C_NoText)=some false)
  (r_NoText:(Value.ref C_NoPlace == Value.ref C_NoText)=false)
  (q_NoFit:W.mroIn K C_NoPlace (.ref C_NoFit)=some false)
  (r_NoFit:(Value.ref C_NoPlace == Value.ref C_NoFit)=false)
  (q_NoName:W.mroIn K C_NoPlace (.ref C_NoName)=some false)
  (r_NoName:(Value.ref C_NoPlace == Value.ref C_NoName)=false)
  (q_Twice:W.mroIn K C_NoPlace (.ref C_Twice)=some false)
  (r_Twice:(Value.ref C_NoPlace == Value.ref C_Twice)=false)
  (q_NoDay:W.mroIn K C_NoPlace (.ref C_NoDay)=some false)
  (r_NoDay:(Value.ref C_NoPlace == Value.ref C_NoDay)=false)
  (q_NoAct:W.mroIn K C_NoPlace (.ref C_NoAct)=some false)
  (r_NoAct:(Value.ref C_NoPlace == Value.ref C_NoAct)=false)
  (q_NoRow:W.mroIn K C_NoPlace (.ref C_NoRow)=some false)
  (r_NoRow:(Value.ref C_NoPlace == Value.ref C_NoRow)=false)
  (hL19:W.codeHdIn K cc19 PT19=true)
  (nL19:K.lookup PT19=none)
  (tL19:([(PT19,"_law_with.<locals>.<lambda>"),(PT20,"_law_tree.<locals>.<lambda>"),(PT25,"law.<locals>.<lambda>")]:List (Addr × Str)).lookup PT19=some "_law_with.<locals>.<lambda>")
  (hL20:W.codeHdIn K cc20 PT20=true)
  (nL20:K.lookup PT20=none)
  (tL20:([(PT19,"_law_with.<locals>.<lambda>"),(PT20,"_law_tree.<locals>.<lambda>"),(PT25,"law.<locals>.<lambda>")]:List (Addr × Str)).lookup PT20=some "_law_tree.<locals>.<lambda>")
  (hL25:W.codeHdIn K cc25 PT25=true)
  (nL25:K.lookup PT25=none)
  (tL25:([(PT19,"_law_with.<locals>.<lambda>"),(PT20,"_law_tree.<locals>.<lambda>"),(PT25,"law.<locals>.<lambda>")]:List (Addr × Str)).lookup PT25=some "law.<locals>.<lambda>")
  :
  (∀ b q,([(PT19,"_law_with.<locals>.<lambda>"),(PT20,"_law_tree.<locals>.<lambda>"),(PT25,"law.<locals>.<lambda>")]:List (Addr × Str)).lookup b=some q->(∃ c,W.codeHdIn K c b=true)/\K.lookup b=none) /\
  ∃ fd:FuncData,(∀ (s:Shared) (v:Value),BindsTo s fd ⟨[v],[]⟩ [("_law_script",v)])/\∀ base:Heap,K.In base->base.Ns mainGlobals mg->(∀ b q,([(PT19,"_law_with.<locals>.<lambda>"),(PT20,"_law_tree.<locals>.<lambda>"),(PT25,"law.<locals>.<lambda>")]:List (Addr × Str)).lookup b=some q->base.objs[b]?=some (zd5 q))->FnOk l.prog w K mg base CX0 27 fa fd ["_law_script"] (ziB K zjB):=by
 subst e1
 have d1:=D1.df X G ["label"] <| ar1 fun _ _ _ _ _ _ _=>rfl
 have d2:=D2.df X G ["node","label"] <| ar2 fun _ _ _ _ _ _ _ _=>rfl
 have d3:=D3.df X G ["_law_cell"] <| ar1 fun _ _ _ _ _ _ _=>rfl
 have d4:=D4.df X G ["_law_cell"] <| ar1 fun _ _ _ _ _ _ _=>rfl
 have d5:=D5.df X G ["_law_label_here"] <| ar1 fun _ _ _ _ _ _ _=>rfl
 have d6:=D6.df X G ["_law_nodes_here","_law_place_here"] <| ar2 fun _ _ _ _ _ _ _ _=>rfl
 have d7:=D7.df X G ["_law_node","_law_label_here"] <| ar2 fun _ _ _ _ _ _ _ _=>rfl
 have d8:=D8.df X G ["label"] <| ar1 fun _ _ _ _ _ _ _=>rfl
 have d9:=D9.df X G ["tree","place"] <| ar2 fun _ _ _ _ _ _ _ _=>rfl
 have d10:=D10.df X G ["_law_cell"] <| ar1 fun _ _ _ _ _ _ _=>rfl
 have d11:=D11.df X G ["_law_nodes_here","_law_cell"] <| ar2 fun _ _ _ _ _ _ _ _=>rfl
 have d12:=D12.df X G ["one","other"] <| ar2 fun _ _ _ _ _ _ _ _=>rfl
 have d13:=D13.df X G ["tree","place"] <| ar2 fun _ _ _ _ _ _ _ _=>rfl
 have d14:=D14.df X G ["tree","place","node"] <| ar3 fun _ _ _ _ _ _ _ _ _=>rfl
 have d15:=D15.df X G ["_law_cells"] <| ar1 fun _ _ _ _ _ _ _=>rfl
 have d16:=D16.df X G ["tree","place","node"] <| ar3 fun _ _ _ _ _ _ _ _ _=>rfl
 have d17:=D17.df X G ["tree","place"] <| ar2 fun _ _ _ _ _ _ _ _=>rfl
 have d18:=D18.df X G ["_law_nodes_here","_law_place_here","_law_node"] <| ar3 fun _ _ _ _ _ _ _ _ _=>rfl
 have F19:=zg7 (st:=za1) l19 c19 k19; have m19:=W.mg_of X G a19
 have b19:=F19.binds (ps:=["_law_node","_law_kid_here"]) <| ar2 fun _ _ _ _ _ _ _ _=>rfl
 have d19:Df K mg "_law_with" za1 ["_law_node","_law_kid_here"]:=⟨f19,_,F19,b19,m19⟩
 have F20:=zg7 (st:=zaF) l20 c20 k20; have m20:=W.mg_of X G a20
 have b20:=F20.binds (ps:=["_law_nodes_here","_law_place_here"]) <| ar2 fun _ _ _ _ _ _ _ _=>rfl
 have d20:Df K mg "_law_tree" zaF ["_law_nodes_here","_law_place_here"]:=⟨f20,_,F20,b20,m20⟩
 have d21:=D21.df X G ["_law_cells","_law_cell"] <| ar2 fun _ _ _ _ _ _ _ _=>rfl
 have d22:=D22.df X G ["_law_node","_law_place_here","_law_form"] <| ar3 fun _ _ _ _ _ _ _ _ _=>rfl
 have d23:=D23.df X G ["_law_found","_law_due"] <| ar2 fun _ _ _ _ _ _ _ _=>rfl
 have d24:=D24.df X G ["_law_tree_here","_law_place_here","_law_node"] <| ar3 fun _ _ _ _ _ _ _ _ _=>rfl
 have F25:=zg7 (st:=ze8) l25 c25 k25; have m25:=W.mg_of X G a25
 have b25:=F25.binds (ps:=["_law_script"]) <| ar1 fun _ _ _ _ _ _ _=>rfl
 have d25:Df K mg "law" ze8 ["_law_script"]:=⟨f25,_,F25,b25,m25⟩
 have z_ValueError:=W.mg_none_of X G z1; have z_dict:=W.mg_none_of X G z2; have z_int:=W.mg_none_of X G z3; have z_isinstance:=W.mg_none_of X G z4; have z_len:=W.mg_none_of X G z5; have z_list:=W.mg_none_of X G z6; have z_min:=W.mg_none_of X G z7; have z_range:=W.mg_none_of X G z8; have z_sorted:=W.mg_none_of X G z9; have z_str:=W.mg_none_of X G z10; have z_tuple:=W.mg_none_of X G z11; have z_zip:=W.mg_none_of X G z12; have g_SMALL_LETTERS:=W.mg_of X G g1
 subst eb_NoPlace en_NoPlace xm_NoPlace
 have m_MendError:=W.mg_of X G aC_MendError; have m_NoPlace:=W.mg_of X G aC_NoPlace; have m_NoText:=W.mg_of X G aC_NoText; have m_NoFit:=W.mg_of X G aC_NoFit; have m_NoName:=W.mg_of X G aC_NoName; have m_Twice:=W.mg_of X G aC_Twice; have m_NoDay:=W.mg_of X G aC_NoDay; have m_NoAct:=W.mg_of X G aC_NoAct; have m_NoRow:=W.mg_of X G aC_NoRow
 have B:BIn K C_MendError:=⟨B1,B2,B3⟩
 have xcl_NoPlace:=zrn bC_NoPlace bC_MendError lN_MendError sB_MendError iB kC_NoPlace; have xin_NoPlace:=zrl lN_NoPlace sB_NoPlace iI_NoPlace lI_NoPlace
 have xget_NoPlace:X1.XGet K C_NoPlace:=⟨ga_NoPlace,gr_NoPlace,mb_NoPlace⟩
 have xis_NoPlace:X1.XIs K C_NoPlace:=⟨xget_NoPlace,zjm hdC_NoPlace,ha_NoPlace,hn,htk,hm_NoPlace⟩
 have xfl_NoPlace:XFl K C_NoPlace:=⟨xget_NoPlace,hdC_NoPlace⟩
 have xset_NoPlace:X1.XSet K C_NoPlace:=⟨sa_NoPlace,zrm bC_NoPlace,hm_NoPlace⟩
 have FI_NoPlace:=zg7 (st:=zas) lI_NoPlace cI_NoPlace kI_NoPlace
 have bI_NoPlace:=FI_NoPlace.binds (ps:=["self","place"]) <| ar2 fun _ _ _ _ _ _ _ _=>rfl
 have cf:CF K ⟨C_MendError,C_NoPlace,C_NoText,C_NoFit,C_NoName,C_Twice,C_NoDay,C_NoAct,C_NoRow⟩:=⟨xis_NoPlace,ztd hdC_MendError ty_MendError mbM mM,znQ,zsW rfl mV,zc8 hdC_NoText ty_NoText q_NoText (.inr r_NoText),zc8 hdC_NoFit ty_NoFit q_NoFit (.inr r_NoFit),zc8 hdC_NoName ty_NoName q_NoName (.inr r_NoName),zc8 hdC_Twice ty_Twice q_Twice (.inr r_Twice),zc8 hdC_NoDay ty_NoDay q_NoDay (.inr r_NoDay),zc8 hdC_NoAct ty_NoAct q_NoAct (.inr r_NoAct),zc8 hdC_NoRow ty_NoRow q_NoRow (.inr r_NoRow),xfl_NoPlace,na_NoPlace⟩
 have e:=hfa.symm.trans m25; cases e
 refine ⟨fun b q e=>?_,?_⟩
 ·have:=tab_mem e
  simp only [yW,List.map_nil,yP,yx,or_false] at this
  rcases this with rfl | rfl | rfl
  ·exact ⟨⟨_,hL19⟩,nL19⟩
  ·exact ⟨⟨_,hL20⟩,nL20⟩
  ·exact ⟨⟨_,hL25⟩,nL25⟩
 refine ⟨W.fnOf "law" "law" (zbA ze8) (zak ze8) (zl ze8) .none kV25 dc25 pm25 an25 (.ref cc25) ct25,fun s v=>.of_eq rfl,fun base _ _ hmk=>?_⟩
 have X_NoPlace:XcI l.prog w K mg base 1 "NoPlace" C_NoPlace "place" za4:=⟨N_NoPlace,j_NoPlace,_,_,["self","place"],xcl_NoPlace,xin_NoPlace,zg3 FI_NoPlace B m_MendError xcl_NoPlace xset_NoPlace na_NoPlace,bI_NoPlace,m_NoPlace⟩
 have lo_law_with:LamOf K mg base "_law_with" "_law_with.<locals>.<lambda>":=⟨⟨cc19,PT19,fun f fd oc od sl m lk=>by
  rw [m19] at m; cases m; rw [l19] at lk; cases lk
  rfl,hL19,hmk _ _ tL19⟩,by decide +kernel⟩
 have lo_law_tree:LamOf K mg base "_law_tree" "_law_tree.<locals>.<lambda>":=⟨⟨cc20,PT20,fun f fd oc od sl m lk=>by
  rw [m20] at m; cases m; rw [l20] at lk; cases lk
  rfl,hL20,hmk _ _ tL20⟩,by decide +kernel⟩
 have lo_law:LamOf K mg base "law" "law.<locals>.<lambda>":=⟨⟨cc25,PT25,fun f fd oc od sl m lk=>by
  rw [m25] at m; cases m; rw [l25] at lk; cases lk
  rfl,hL25,hmk _ _ tL25⟩,by decide +kernel⟩
 have G_figures_of:Fn l.prog w K mg base 1 "figures_of" ["label"] zbj:=zf3 d1 g_SMALL_LETTERS
 have G_kid_with:Fn l.prog w K mg base 1 "kid_with" ["node","label"] zaC:=zhZ d2 
 have G_law_label:Fn l.prog w K mg base 1 "_law_label" ["_law_cell"] zab:=zgT d3 z_str
 have G_law_word:Fn l.prog w K mg base 1 "_law_word" ["_law_cell"] zaY:=zhS d4 z_range
 have G_law_key:Fn l.prog w K mg base 1 "_law_key" ["_law_label_here"] zbp:=zjS d5 z_int z_len
 have G_law_gone:Fn l.prog w K mg base 1 "_law_gone" ["_law_nodes_here","_law_place_here"] zbV:=zhY d6 z_dict z_len
 have G_law_less:Fn l.prog w K mg base 1 "_law_less" ["_law_node","_law_label_here"] zcX:=zhW d7 z_tuple
 have G_label_rank:Fn l.prog w K mg base 2 "label_rank" ["label"] zbW:=zf2 d8 G_figures_of z_int z_len
 have G_node_at:Fn l.prog w K mg base 2 "node_at" ["tree","place"] zar:=zjQ d9 G_kid_with
 have G_law_words:Fn l.prog w K mg base 2 "_law_words" ["_law_cell"] zaO:=zgQ d10 G_law_word z_range z_tuple
 have G_law_place:Fn l.prog w K mg base 2 "_law_place" ["_law_nodes_here","_law_cell"] zbc:=zgR d11 G_law_label z_len z_list
 have G_label_before:Fn l.prog w K mg base 3 "label_before" ["one","other"] zaB:=zeD d12 G_label_rank
 have G_node_or_refusal:FnX l.prog w K mg base 3 "node_or_refusal" ["tree","place"] (zav ⟨C_MendError,C_NoPlace,C_NoText,C_NoFit,C_NoName,C_Twice,C_NoDay,C_NoAct,C_NoRow⟩):=zdn d13 cf G_node_at m_NoPlace X_NoPlace
 have G_with_node:Fn l.prog w K mg base 3 "with_node" ["tree","place","node"] zbb:=zgP d14 G_node_at z_len z_range z_tuple
 have G_law_nodes:Fn l.prog w K mg base 3 "_law_nodes" ["_law_cells"] zaP:=zgS d15 G_law_label G_law_words z_len
 have G_with_kid:FnX l.prog w K mg base 4 "with_kid" ["tree","place","node"] (zbs ⟨C_MendError,C_NoPlace,C_NoText,C_NoFit,C_NoName,C_Twice,C_NoDay,C_NoAct,C_NoRow⟩):=zhR d16 cf G_label_before G_kid_with G_node_or_refusal G_with_node z_len z_tuple m_NoPlace X_NoPlace
 have G_without:FnX l.prog w K mg base 4 "without" ["tree","place"] (zbL ⟨C_MendError,C_NoPlace,C_NoText,C_NoFit,C_NoName,C_Twice,C_NoDay,C_NoAct,C_NoRow⟩):=zjP d17 cf G_node_at G_node_or_refusal G_with_node z_tuple m_NoPlace X_NoPlace
 have G_law_laid:FnM l.prog w K mg base 5 "_law_laid" ["_law_nodes_here","_law_place_here","_law_node"] 0 (zaJ 4):=zhX d18  4
 have G_law_with:Fn l.prog w K mg base 5 "_law_with" ["_law_node","_law_kid_here"] zcW:=zhT d19 G_law_key z_list z_sorted z_tuple lo_law_with
 have G_law_tree:Fn l.prog w K mg base 15 "_law_tree" ["_law_nodes_here","_law_place_here"] (zan 10):=zhU d20 G_law_key z_len z_sorted z_tuple lo_law_tree 10
 have G_law_kid:Fn l.prog w K mg base 16 "_law_kid" ["_law_cells","_law_cell"] zbM:=zjR d21 G_law_label G_law_nodes G_law_tree z_len
 have G_law_changed:=fun (J:L2.Jt) (R:D->D->Prop) (f:Addr) (V:FnV l.prog w K mg base J 6 f R)=>zfb V d22 z_tuple 10
 have G_law_same:Fn l.prog w K mg base 25 "_law_same" ["_law_found","_law_due"] (zaA 24):=zhV d23 z_isinstance z_len z_list z_str z_tuple z_zip 24
 have G_law_refused:Fn l.prog w K mg base 26 "_law_refused" ["_law_tree_here","_law_place_here","_law_node"] (za7 ⟨C_MendError,C_NoPlace,C_NoText,C_NoFit,C_NoName,C_Twice,C_NoDay,C_NoAct,C_NoRow⟩):=zfa d24 cf G_with_kid G_without G_law_same z_ValueError z_isinstance m_MendError m_NoAct m_NoDay m_NoFit m_NoName m_NoPlace m_NoRow m_NoText m_Twice
 have G_law:Fn l.prog w K mg base 27 "law" ["_law_script"] (zou ⟨C_MendError,C_NoPlace,C_NoText,C_NoFit,C_NoName,C_Twice,C_NoDay,C_NoAct,C_NoRow⟩):=zsF (T:=⟨C_MendError,C_NoPlace,C_NoText,C_NoFit,C_NoName,C_Twice,C_NoDay,C_NoAct,C_NoRow⟩) d25 cf G_with_kid G_without G_law_nodes G_law_tree G_law_place G_law_kid G_law_laid G_law_gone G_law_same d22 G_law_changed G_law_with G_law_less G_law_refused z_len z_min z_range lo_law
 exact zsS m25 l25 base G_law
end K06
namespace PySem.W.Fast
def tw12042110026156296993:=yy
def tw7244642258606189000:=yy
def tw7170959952562324228:=yy
def tw8599228128834137357:=yy
def tw11152667847034580739:=yy
def tw5531036025974574266:=yy
def tw17628280044502828913:=yy
def tw3039472555514564195:=yy
def tw4589834499145852611:=yy
def tw6337024637318695219:=yy
def tw8230715953839129770:=yy
def tw5521162962194039189:=yy
def tw1576592132676457253:=yy
def tw10125064991381191592:=yy
def tw4393686403037174860:=yy
def tw6429999267435970925:=yy
def tw8487055050364478458:=yy
def tw3229674062854231509:=yy
def tw15723400265380337347:=yy
def tw18386367312813444204:=yy
def tw17522560240219643926:=yy
def tw14519141463802875028:=yy
def tw18360611959116893815:=yy
def tw6059347789695490812:=yy
def tw16096299159391689090:=yy
def tw792617352133017223:=yy
def tw11769890535267104332:=yy
def tw5845112627360464082:=yy
def tw496073076268798307:=yy
def tw4046311203566132797:=yy
def tw829225042617975807:=yy
def tw12673100380854496164:=yy
def tw18222369903259610109:=yy
def tw8784197616213085794:=yy
def tw15464922943190628166:=yy
def tw16767279272893571673:=yy
def tw3609995314752440534:=yy
def tw15791089684024902389:=yy
def tw4979942837896522225:=yy
def tw14956401383450194521:=yy
def tw10173253074345410819:=yy
def tw12758662110162222372:=yy
def tw3219124089848270060:=yy
def tw2069219473957776501:=yy
def tw767697965727308784:=yy
def tw5742087107704014076:=yy
def tw1040829848547035069:=yy
def tw10132652902893757306:=yy
def tw8874525665750829679:=yy
def tw4321847824421161595:=yy
def tw12523280728592797524:=yy
def tw18337807071353111150:=yy
def tw10304835939601364418:=yy
def tw13188980656527052657:=yy
def tw14400408712608822750:=yy
def tw8272108311909229493:=yy
def tw5145154670019190248:=yy
def tw15319628285597142522:=yy
def tw16823023264120410332:=yy
def tw13645902459868974068:=yy
def tw435071889939794615:=yy
def tw17468747178915712363:=yy
def tw5545474023531073003:=yy
def tw747430948848698033:=yy
def tw6008079787876734956:=yy
def tw10632112901142423020:=yy
def tw1458450490681038285:=yy
def tw16812242332846974301:=yy
def tw17182017265197087678:=yy
def tw6551174776098381108:=yy
def tw17044985169158607153:=yy
def tw8831217309103228412:=yy
def tw8877736685613096549:=yy
def tw10712136702921497656:=yy
def tw9834276045148426024:=yy
def tw7766047846386015736:=yy
def tw7494606070059596280:=yy
def tw12638223677730134344:=yy
def tw16005723048215966795:=yy
def tw6697703320834157786:=yy
def tw11420264999623343538:=yy
def tw12007820261584281085:=yy
def tw6836713449418529576:=yy
def tw14407043762171740487:=yy
def tw15346437476263410642:=yy
def tw11133007687677586990:=yy
def tw3695437991896159619:=yy
def tw14203713461025964440:=yy
def tw10332174012582019329:=yy
def tw8698694150054631660:=yy
def tw1174244081234984053:=yy
def tw9662766466918150300:=yy
def tw16463183008145846324:=yy
def tw10979997504237385655:=yy
def tw9610859843452390578:=yy
def tw14174626497530261819:=yy
def tw2417514795349034261:=yy
def tw3802675583349207318:=yy
def tw9182207895668174839:=yy
def tw16421320974860037098:=yy
def tw8650184485416125506:=yy
def tw4668215023166993414:=yy
def tw17881868262284197635:=yy
def tw9044046363902156613:=yy
def tw7482753239553567749:=yy
def tw9691685391713755445:=yy
def tw3134702695215254985:=yy
def tw14561563579105015344:=yy
def tw12047333372257643278:=yy
def tw5862861320787341335:=yy
def tw4153004594661448954:=yy
def tw8319267623193413062:=yy
def tw18226769310854496469:=yy
def tw16754432920431939152:=yy
def tw9237357717877871491:=yy
def tw3928913128461830045:=yy
def tw6724310780757916845:=yy
def tw7084315183435264950:=yy
def tw12230326821710357948:=yy
def tw5483319225972737307:=yy
def tw14627203803254756728:=yy
def tw1266021431618864625:=yy
def tw3886762426807325236:=yy
def tw17250523867117827069:=yy
def tw9513576905784449442:=yy
def tw16383544752761049041:=yy
def tw11454700535747883848:=yy
def tw6265077128900234301:=yy
def tw4470514886830639793:=yy
def tw1840313690578283:=yy
end PySem.W.Fast
open PySem PySem.W PyProof.Rows
set_option maxRecDepth 100000 in
set_option maxHeartbeats 0 in
theorem PySem.Challenge.cw_codemend_k06_kids_in_and_out_holds : PySem.Challenge.rw_codemend_k06_kids_in_and_out.Holds := by
 w_on; o_law; k_head; (case hw=>w_witness2)
 k_fill
 refine PL.walk_lawT (l:=PySem.Challenge.rw_codemend_k06_kids_in_and_out) (k:=27) (x:="_law_script") [(281,"_law_with.<locals>.<lambda>"),(236,"_law_tree.<locals>.<lambda>"),(300,"law.<locals>.<lambda>")] rfl rfl ⟨rfl,by decide,by decide,rfl⟩ (fun w h Y=>PySem.W.km_in_of Y) (fun w h Y b q e=>PySem.W.km_tabs_of Y b (K06.tab_mem e)) ?F
 case F =>
  intro w mg fa h KX G hmg
  refine' K06.all_mk KX G hmg ?q0 ?q1 ?q2 ?q3 ?q4 ?q5 ?q6 ?q7 ?q8 ?q9 ?qa ?qb ?qc ?qd ?qe ?qf ?qg ?qh ?qi ?qj ?qk ?ql ?qm ?qn ?qo ?qp ?qq ?qr ?qs ?qt ?qu ?qv ?qw ?qx ?qy ?qz ?q10 ?q11 ?q12 ?q13 ?q14 ?q15 ?q16 ?q17 ?q18 ?q19 ?q1a ?q1b ?q1c ?q1d ?q1e ?q1f ?q1g ?q1h ?q1i ?q1j ?q1k ?q1l ?q1m ?q1n ?q1o ?q1p ?q1q ?q1r ?q1s ?q1t ?q1u ?q1v ?q1w ?q1x ?q1y ?q1z ?q20 ?q21 ?q22 ?q23 ?q24 ?q25 ?q26 ?q27 ?q28 ?q29 ?q2a ?q2b ?q2c ?q2d ?q2e ?q2f ?q2g ?q2h ?q2i ?q2j ?q2k ?q2l ?q2m ?q2n ?q2o ?q2p ?q2q ?q2r ?q2s ?q2t ?q2u ?q2v ?q2w ?q2x ?q2y ?q2z ?q30 ?q31 ?q32 ?q33 ?q34 ?q35 ?q36 ?q37 ?q38 ?q39 ?q3a ?q3b ?q3c ?q3d ?q3e ?q3f ?q3g ?q3h ?q3i ?q3j ?q3k
  (case q0|q1|q2|q3|q4|q5|q6|q7|q8|q9|qa|qb|qc|qd|qe|qf|qg|qh=>apply PL.Dn.mk<;>k_is)
  (case qi|qj|qk|ql|qm|qn|qo|qp=>k_is)
  (case qq|qr|qs|qt=>apply PL.Dn.mk<;>k_is)
  (case qu|qv|qw|qx|qy|qz|q10|q11|q12|q13|q14|q15|q16|q17|q18|q19|q1a=>k_is)
  (case q1b=>decide +kernel)
  (case q1c|q1d|q1e|q1f|q1g|q1h|q1i|q1j|q1k|q1l|q1m|q1n|q1o|q1p|q1q|q1r|q1s|q1t|q1u|q1v|q1w|q1x|q1y|q1z|q20|q21|q22|q23|q24=>k_is)
  (case q25=>rfl)
  (case q26|q27|q28=>k_is)
  (case q29=>rfl)
  (case q2a|q2b|q2c|q2d|q2e|q2f|q2g=>k_is)
  (case q2h|q2i=>rfl)
  (case q2j|q2k|q2l|q2m|q2n|q2o|q2p|q2q|q2r|q2s|q2t=>k_is)
  (case q2u=>rfl)
  (case q2v|q2w|q2x|q2y=>k_is)
  (case q2z=>rfl)
  (case q30=>k_is)
  (case q31=>rfl)
  (case q32=>k_is)
  (case q33=>rfl)
  (case q34=>k_is)
  (case q35=>rfl)
  (case q36=>k_is)
  (case q37=>rfl)
  (case q38=>k_is)
  (case q39=>rfl)
  (case q3a=>k_is)
  (case q3b=>rfl)
  (case q3c|q3d=>kernel_rfl)
  (case q3e=>exact rfl)
  (case q3f|q3g=>kernel_rfl)
  (case q3h=>exact rfl)
  (case q3i|q3j=>kernel_rfl)
  (case q3k=>exact rfl)
