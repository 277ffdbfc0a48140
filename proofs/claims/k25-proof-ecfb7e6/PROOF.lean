import PyProof.Rows.All
import Wide.All
import OpenK.AllK
import Wide.FinOn
import Lean
import PyProof.EqAt
import PyProof.EqKinds
import PyProof.TupleCall
import KE.KRevIter
import PyProof.StationsW
import PyProof.ExcClass2
import PyProof.ExcInit
import PyProof.ExcBaseAll.ValueError
import PyProof.ExcArgsOwn
import OpenK.KMake
import KE.KIsAll
import PyProof.InstStoreFacts
import PyProof.FString2
import KE.KTryMore
import PyProof.NsDelKeeps
import PyProof.Rows.StrSplitJoin
import PyProof.StrLawsTight
import PyProof.ListMulRoad
import PyProof.ZipIter
import PyProof.TupleIter
import PyProof.WalksMore
import KE.KSortAsk
import KE.KSortTup
import KE.KDictLaws
import PyProof.NeKinds
import PyProof.EnumFor
import PyProof.EnumMake
import PyProof.DictItems
import PyProof.Draws
import PyProof.Rows.CallKwBuiltin
import PySem.Challenge.RW_codemend_k25_whole_apart_ones
noncomputable section
set_option Elab.async false
set_option linter.all false
set_option maxRecDepth 100000
namespace L2
open PySem PySem.Spec PyProof.Rows
abbrev Key:=Sum Int Str
def zlj:Key->Value->Bool
 | .inl k,v=>Value.isInt k v
 | .inr x,v=>Value.isStrOf x v
def zwB (w:World):Key->Int
 | .inl k=>hashInt k
 | .inr x=>hashStr w x
theorem zan:∀ {k:Key} {v:Value},zlj k v=true->(∃ i t,k=Sum.inl i/\v=Value.int i t)\/(∃ x t,k=Sum.inr x/\v=Value.str x t)
 | .inl i,v,h=>by
  obtain ⟨t,e⟩:=Value.isInt_shape (k:=i) (v:=v) h; exact .inl ⟨i,t,rfl,e⟩
 | .inr x,v,h=>by
  obtain ⟨t,e⟩:=Value.isStrOf_shape (x:=x) (v:=v) h; exact .inr ⟨x,t,rfl,e⟩
theorem zmH (i:Int) (t:Tok):zlj (.inl i) (.int i t)=true:=by simp [zlj,Value.isInt]
theorem zmG (x:Str) (t:Tok):zlj (.inr x) (.str x t)=true:=by simp [zlj,Value.isStrOf]
theorem ztg (a b:Int):decide ((Sum.inl a:Key)=Sum.inl b)=(a == b):=by
 by_cases e:a=b
 ·subst e; simp
 ·have h:¬ (Sum.inl a:Key)=Sum.inl b:=fun q=>e (Sum.inl.inj q)
  rw [decide_eq_false h]; exact (beq_eq_false_iff_ne.mpr e).symm
theorem ztd (a b:Str):decide ((Sum.inr a:Key)=Sum.inr b)=decide (a=b):=by
 by_cases e:a=b
 ·subst e; simp
 ·have h:¬ (Sum.inr a:Key)=Sum.inr b:=fun q=>e (Sum.inr.inj q)
  rw [decide_eq_false h,decide_eq_false e]
theorem ztf (a:Int) (b:Str):decide ((Sum.inl a:Key)=Sum.inr b)=false:=decide_eq_false (fun q=>nomatch q)
theorem zte (a:Str) (b:Int):decide ((Sum.inr a:Key)=Sum.inl b)=false:=decide_eq_false (fun q=>nomatch q)
def zaS (prog:Program) (w:World):PySem.KeyKind prog w Key where
 is:=zlj
 hash:=zwB w
 inj:=fun v a b ha hb=>by
  rcases zan ha with ⟨i,t,rfl,rfl⟩ | ⟨x,t,rfl,rfl⟩
  ·rcases zan hb with ⟨j,u,rfl,e⟩ | ⟨y,u,rfl,e⟩
   ·injection e with e1 _; rw [e1]
   ·exact nomatch e
  ·rcases zan hb with ⟨j,u,rfl,e⟩ | ⟨y,u,rfl,e⟩
   ·exact nomatch e
   ·injection e with e1 _; rw [e1]
 byValue:=fun k v h=>by
  rcases zan h with ⟨i,t,rfl,rfl⟩ | ⟨x,t,rfl,rfl⟩ <;> rfl
 pyHash:=fun hv h=>by
  rcases zan hv with ⟨i,t,rfl,rfl⟩ | ⟨x,t,rfl,rfl⟩
  ·exact wpAny_pyHash_int h
  ·exact wpAny_pyHash_str h
 eqBool:=fun hu hv h=>by
  rcases zan hu with ⟨i,t,rfl,rfl⟩ | ⟨x,t,rfl,rfl⟩
  ·rcases zan hv with ⟨j,u,rfl,rfl⟩ | ⟨y,u,rfl,rfl⟩
   ·rw [ztg] at h; exact wpAny_eqBool_int h
   ·rw [ztf] at h; exact SeqAt.EqAt.int_str i t y u _ _ _ _ h
  ·rcases zan hv with ⟨j,u,rfl,rfl⟩ | ⟨y,u,rfl,rfl⟩
   ·rw [zte] at h; exact SeqAt.EqAt.str_int x t j u _ _ _ _ h
   ·rw [ztd] at h; exact wpAny_eqBool_str h
 «strs»:=fun k x t v h=>by
  rcases zan h with ⟨i,u,rfl,e⟩ | ⟨y,u,rfl,e⟩
  ·exact nomatch e
  ·injection e with e1 _
   subst e1
   cases v <;> rfl
theorem zjy (prog:Program) (w:World) (i:Int) (t:Tok):(zaS prog w).is (.inl i) (.int i t)=true:=zmH i t
theorem zjx (prog:Program) (w:World) (x:Str) (t:Tok):(zaS prog w).is (.inr x) (.str x t)=true:=zmG x t
end L2
namespace L2
open PySem PySem.Spec PyProof.Rows
inductive V where
 | non | bl (b:Bool) | int (i:Int) | str (x:Str) | byt (b:Array UInt8) | flt (b:UInt64) | ref (a:Addr) | ty (n:String)
 deriving DecidableEq
def zao:V->Value->Prop
 | .non,u=>u=Value.none
 | .bl b,u=>u=Value.bool b
 | .int i,u=>∃ t,u=Value.int i t
 | .str x,u=>∃ t,u=Value.str x t
 | .byt b,u=>∃ t,u=Value.bytes b t
 | .flt b,u=>∃ t,u=Value.float b t
 | .ref a,u=>u=Value.ref a
 | .ty n,u=>u=Value.type n
abbrev zae:List V->List Value->Prop:=Paired zao
theorem zae.length {xs:List V} {us:List Value} (r:zae xs us):xs.length=us.length:=Paired.length r
theorem zae.get:∀ {xs:List V} {us:List Value} {i:Nat} {x:V},zae xs us->xs[i]?=some x->∃ u,us[i]?=some u/\zao x u
 | _,_,_,_,.nil,e=>by simp at e
 | _,_,0,_,.cons r _,e=>by simp at e; subst e; exact ⟨_,rfl,r⟩
 | _,_,i+1,x,.cons _ t,e=>by
  obtain ⟨u,h1,h2⟩:=zae.get (i:=i) (x:=x) t (by simpa using e)
  exact ⟨u,by simpa using h1,h2⟩
theorem zae.append:∀ {xs ys:List V} {us ws:List Value},zae xs us->zae ys ws->zae (xs ++ ys) (us ++ ws)
 | _,_,_,_,.nil,s=>s
 | _,_,_,_,.cons r t,s=>.cons r (zae.append t s)
theorem zae.take:∀ {xs:List V} {us:List Value} (n:Nat),zae xs us->zae (xs.take n) (us.take n)
 | _,_,0,_=>.nil
 | _,_,_+1,.nil=>.nil
 | _,_,n+1,.cons r t=>.cons r (zae.take n t)
theorem zae.drop:∀ {xs:List V} {us:List Value} (n:Nat),zae xs us->zae (xs.drop n) (us.drop n)
 | _,_,0,r=>r
 | _,_,_+1,.nil=>.nil
 | _,_,n+1,.cons _ t=>zae.drop n t
def zi0:Option V->Option Value->Prop
 | some v,some u=>zao v u
 | none,none=>True
 | _,_=>False
def KV {κ:Type}:List (κ × V)->List (κ × Value)->Prop:=Paired fun (p:κ × V) (q:κ × Value)=>p.1=q.1/\zao p.2 q.2
def kV:Key->V
 | .inl i=>.int i
 | .inr x=>.str x
inductive HO where
 | lst (xs:List V)
 | tup (xs:List V)
 | dK (kvs:List (Key × V)) | dT (kvs:List (List Key × V))
 | dE (kvs:List (List Key × V)) (ep:Nat)
 | set (S:Int->Bool) (n:Nat)
 | ins (C dx:Addr) (fs:List (Str × V))
 | own (x:Addr)
 | xd (fs:List (Str × V))
 | met (f x:Addr)
 | rng (lo hi:Int)
 | frz (o:Obj) (u:HO)
 | tbl (ps:Array Value)
 | ext (φ:Heap->Prop)
abbrev zvy:HO:=.ext fun _=>True
def zb3:List V ⊕ Obj->HO
 | .inl xs=>.tup xs
 | .inr o=>.frz o zvy
abbrev Hp:=Addr->Option HO
def upd (H:Hp) (a:Addr) (o:HO):Hp:=fun b=>if b=a then some o else H b
theorem zj {H:Hp} {a:Addr} {o:HO}:upd H a o a=some o:=by unfold upd; rw [if_pos rfl]
theorem zq {H:Hp} {a b:Addr} {o:HO} (h:b≠a):upd H a o b=H b:=by unfold upd; rw [if_neg h]
theorem zeg {H:Hp} {a:Addr} {o u:HO}:upd (upd H a o) a u=upd H a u:=by
 funext b; unfold upd; split <;> rfl
theorem zs6 {H:Hp} {a b:Addr} {o u:HO} (h:H a=some o) (h':H b=some u) (d:o≠u):a≠b:=by
 intro e; subst e; rw [h] at h'; exact d (Option.some.inj h')
theorem zI {H:Hp} {a b:Addr} {o:HO} (h:H a=some o) (h':H b=none):a≠b:=by
 intro e; subst e; rw [h] at h'; cases h'
section
variable (P:Program) (w:World)
def zaP (H:Hp) (h:Heap) (a:Addr):HO->Prop
 | .lst xs=>xs.length<=sizeLine/\∃ (its:List Value) (n:Nat),zae xs its/\h.get? a=some { cls:=.type "list",data:=.seq its.toArray n }
 | .tup xs=>xs.length<=sizeLine/\∃ its:List Value,zae xs its/\IsTup h a its.toArray
 | .dK kvs=>kvs.length<=sizeLine/\(a == sysModules)=false/\∃ vs,KV kvs vs/\h.DictOf (zaS P w) a vs
 | .dT kvs=>kvs.length<=sizeLine/\(a == sysModules)=false/\∃ xs:List (List Key × Addr × Value),
   Paired (fun (p:List Key × V) (q:List Key × Addr × Value)=>p.1=q.1/\H q.2.1=some (.tup (p.1.map kV))/\zao p.2 q.2.2) kvs xs /\
   ∃ o es ep,h.get? a=some o/\o.ExactDict/\o.data=.dict es ep/\es.toList=xs.map (entryOfKey (tupleKind (zaS P w)))/\(xs.map (·.1)).Nodup
 | .dE kvs ep=>kvs.length<=sizeLine/\(a == sysModules)=false/\∃ xs:List (List Key × Addr × Value),
   Paired (fun (p:List Key × V) (q:List Key × Addr × Value)=>p.1=q.1/\H q.2.1=some (.tup (p.1.map kV))/\zao p.2 q.2.2) kvs xs /\
   ∃ o es,h.get? a=some o/\o.ExactDict/\o.data=.dict es ep/\es.toList=xs.map (entryOfKey (tupleKind (zaS P w)))/\(xs.map (·.1)).Nodup
 | .set S n=>h.SetOf (intKind P w) a S n
 | .ins C dx fs=>H dx=some (.own a)/\fs.length<=1000/\dx≠a/\h.get? a=some (W.instObj C dx) /\
   ∃ mA,h.Ns1 dx mA/\(∀ f,zi0 (fs.lookup f) (mA f))/\PySem.Within mA (fs.map (·.1))
 | .own _=>∃ o,h.get? a=some o
 | .xd fs=>∃ mA,h.Ns1 a mA/\∀ f,zi0 (fs.lookup f) (mA f)
 | .rng lo hi=>∃ t u v,h.get? a=some { cls:=.type "range",data:=.fields #[.int lo t,.int hi u,.int 1 v] }
 | .frz o u=>h.get? a=some o/\zaP H h a u
 | .tbl ps=>∃ ts:Array Value,h.get? a=some { cls:=.none,data:=.fields ts }/\TriplesOk ts.toList/\∀ pos cv,codeAmong pos ts.toList=some cv->∃ c oc vs t q t0,cv=.ref c/\H c=some (zb3 (.inr oc))/\oc.data=.fields vs/\vs[1]?=some (.str q t)/\ps[0]?=some (.str q t0)
 | .met f x=>h.get? a=some (W.methodObj (.ref f) (.ref x))
 | .ext φ=>φ h/\(∃ o,h.get? a=some o)/\∀ h1 h2:Heap,φ h1->(∀ o,h1.get? a=some o->h2.get? a=some o)->φ h2
def HOk (H:Hp) (h:Heap):Prop:=∀ a o,H a=some o->zaP P w H h a o
end
section
variable {P:Program} {w:World} {H H':Hp} {h h':Heap} {a:Addr} {o:HO}
theorem zaP.lt (x:zaP P w H h a o):a<h.objs.size:=by
 cases o with
 | lst xs=>obtain ⟨_,_,_,_,e⟩:=x; exact Heap.lt_size e
 | tup xs=>obtain ⟨_,_,_,p⟩:=x; exact p.lt
 | dK kvs=>obtain ⟨_,_,_,_,o,_,_,e,_⟩:=x; exact Heap.lt_size e
 | dT kvs=>obtain ⟨_,_,_,_,o,_,_,e,_⟩:=x; exact Heap.lt_size e
 | dE kvs ep=>obtain ⟨_,_,_,_,o,_,e,_⟩:=x; exact Heap.lt_size e
 | set S n=>obtain ⟨o,_,_,_,e,_⟩:=x; exact Heap.lt_size e
 | ins C dx fs=>obtain ⟨_,_,_,e,_⟩:=x; exact Heap.lt_size e
 | own y=>obtain ⟨_,e⟩:=x; exact Heap.lt_size e
 | xd fs=>obtain ⟨_,⟨_,_,_,e,_⟩,_⟩:=x; exact Heap.lt_size e
 | rng lo hi=>obtain ⟨_,_,_,e⟩:=x; exact Heap.lt_size e
 | frz ob u=>obtain ⟨e,_⟩:=x; exact Heap.lt_size e
 | tbl ps=>obtain ⟨_,e,_⟩:=x; exact Heap.lt_size e
 | met f y=>exact Heap.lt_size (show h.get? a=some _ from x)
 | ext φ=>obtain ⟨_,⟨_,e⟩,_⟩:=x; exact Heap.lt_size e
theorem Paired.mapP {α β:Type} {F G:α->β->Prop}:∀ {l₁:List α} {l₂:List β},Paired F l₁ l₂->(∀ a b,F a b->G a b)->Paired G l₁ l₂
 | _,_,.nil,_=>.nil
 | _,_,.cons r t,f=>.cons (f _ _ r) (Paired.mapP t f)
theorem zaP.stay (x:zaP P w H h a o) (k:∀ b u,(b=a\/H b=some (.own a))->h.get? b=some u->h'.get? b=some u)
  (ho:∀ b,H b=some (.own a)->H' b=some (.own a)) (ht:∀ b xs,H b=some (zb3 xs)->H' b=some (zb3 xs)):zaP P w H' h' a o:=by
 induction o with
 | lst xs=>obtain ⟨z,its,n,r,e⟩:=x; exact ⟨z,its,n,r,k _ _ (.inl rfl) e⟩
 | tup xs=>obtain ⟨z,its,r,ob,e,c⟩:=x; exact ⟨z,its,r,ob,k _ _ (.inl rfl) e,c⟩
 | dK kvs=>obtain ⟨z,y,vs,r,ob,es,ep,e,c⟩:=x; exact ⟨z,y,vs,r,ob,es,ep,k _ _ (.inl rfl) e,c⟩
 | dT kvs =>
  obtain ⟨z,y,xs,r,ob,es,ep,e,c⟩:=x
  exact ⟨z,y,xs,Paired.mapP r fun p q z=>⟨z.1,ht _ (.inl _) z.2.1,z.2.2⟩,ob,es,ep,k _ _ (.inl rfl) e,c⟩
 | dE kvs ep =>
  obtain ⟨z,y,xs,r,ob,es,e,c⟩:=x
  exact ⟨z,y,xs,Paired.mapP r fun p q z=>⟨z.1,ht _ (.inl _) z.2.1,z.2.2⟩,ob,es,k _ _ (.inl rfl) e,c⟩
 | set S n=>obtain ⟨ob,es,ep,t,e,c⟩:=x; exact ⟨ob,es,ep,t,k _ _ (.inl rfl) e,c⟩
 | ins C dx fs =>
  obtain ⟨d,z,ne,e,mA,⟨od,es,ep,e2,c⟩,r⟩:=x
  exact ⟨ho _ d,z,ne,k _ _ (.inl rfl) e,mA,⟨od,es,ep,k _ _ (.inr d) e2,c⟩,r⟩
 | own y=>obtain ⟨ob,e⟩:=x; exact ⟨ob,k _ _ (.inl rfl) e⟩
 | xd fs=>obtain ⟨mA,⟨od,es,ep,e,c⟩,r⟩:=x; exact ⟨mA,⟨od,es,ep,k _ _ (.inl rfl) e,c⟩,r⟩
 | rng lo hi=>obtain ⟨t,u,v,e⟩:=x; exact ⟨t,u,v,k _ _ (.inl rfl) e⟩
 | frz ob u ih=>obtain ⟨e,q⟩:=x; exact ⟨k _ _ (.inl rfl) e,ih q⟩
 | tbl ps=>obtain ⟨ts,e,t,c⟩:=x; exact ⟨ts,k _ _ (.inl rfl) e,t,fun pos cv z=>let ⟨c,oc,vs,t,q,t0,z1,z2,z3⟩:=c pos cv z; ⟨c,oc,vs,t,q,t0,z1,ht _ _ z2,z3⟩⟩
 | met f y =>
  have e:h.get? a=some (W.methodObj (.ref f) (.ref y)):=x
  show h'.get? a=some (W.methodObj (.ref f) (.ref y))
  exact k a _ (.inl rfl) e
 | ext φ=>obtain ⟨p,⟨o,e⟩,st⟩:=x; exact ⟨st _ _ p fun o q=>k _ _ (.inl rfl) q,⟨o,k _ _ (.inl rfl) e⟩,st⟩
theorem HOk.lt (x:HOk P w H h) (e:H a=some o):a<h.objs.size:=(x a o e).lt
theorem HOk.fresh (x:HOk P w H h) (e:h.objs.size<=a):H a=none:=by
 cases q:H a with
 | none=>rfl
 | some u=>exact absurd (Nat.lt_of_lt_of_le (x.lt q) e) (Nat.lt_irrefl _)
theorem HOk.kept (x:HOk P w H h) (k:∀ b u,h.get? b=some u->h'.get? b=some u):HOk P w H h':=fun a o e =>
 (x a o e).stay (fun b u _ q=>k b u q) (fun _ q=>q) fun _ _ q=>q
theorem HOk.laid (x:HOk P w H h) (k:∀ b u,h.get? b=some u->h'.get? b=some u) (hp:h.objs.size<=a) (new:zaP P w (upd H a o) h' a o):HOk P w (upd H a o) h':=fun b u e=>by
 have hn:=x.fresh hp
 by_cases hb:b=a
 ·subst hb; rw [zj] at e; cases e; exact new
 ·rw [zq hb] at e
  exact (x b u e).stay (fun c v _ q=>k c v q) (fun c q=>by rw [zq (zI q hn)]; exact q) fun c xs q=>by rw [zq (zI q hn)]; exact q
end
def Rd (H:Hp) (a:Addr) (u:HO):Prop:=H a=some u\/∃ o,H a=some (.frz o u)
theorem Rd.ok {P:Program} {w:World} {H:Hp} {h:Heap} {a:Addr} {u:HO} (r:Rd H a u) (x:HOk P w H h):zaP P w H h a u:=by
 rcases r with r | ⟨o,r⟩
 ·exact x a u r
 ·obtain ⟨_,q⟩:=x a _ r
  exact q
def Mut:Option HO->Prop
 | some (.lst _)=>True
 | some (.dK _)=>True
 | some (.dT _)=>True
 | some (.dE _ _)=>True
 | some (.set _ _)=>True
 | some (.ins _ _ _)=>True
 | some (.ext _)=>True
 | _=>False
section
variable {P:Program} {w:World} {H:Hp} {h h':Heap} {x e:Addr} {o':HO}
theorem HOk.write (ok:HOk P w H h) (mu:Mut (H x)) (he:e=x\/H e=some (.own x)) (k:∀ b u,b≠e->h.get? b=some u->h'.get? b=some u) (heo:∃ u,h'.get? e=some u)
  (new:zaP P w (upd H x o') h' x o'):HOk P w (upd H x o') h':=fun b u q=>by
 have nown:∀ c y,H c=some (.own y)->c≠x:=fun c y r z=>by subst z; rw [r] at mu; exact mu
 have ntup:∀ c xs,H c=some (zb3 xs)->c≠x:=fun c xs r z=>by subst z; rw [r] at mu; cases xs <;> exact mu
 by_cases hb:b=x
 ·subst hb; rw [zj] at q; cases q; exact new
 ·rw [zq hb] at q
  by_cases hbe:b=e
  ·have q':H b=some (.own x):=by
    rcases he with z | z
    ·exact absurd (hbe.trans z) hb
    ·rw [hbe]; exact z
   rw [q] at q'; cases q'
   obtain ⟨v,hv⟩:=heo
   exact ⟨v,by rw [hbe]; exact hv⟩
  ·refine (ok b u q).stay (fun c v hc r=>k c v ?_ r) (fun c r=>by rw [zq (nown c b r)]; exact r) fun c xs r=>by rw [zq (ntup c xs r)]; exact r
   rcases hc with rfl | hc
   ·exact hbe
   ·rintro rfl
    rcases he with z | z
    ·exact nown c b hc z
    ·rw [hc] at z; cases z; exact hb rfl
end
structure Un (fs ex:List Addr) (H H':Hp) (h h':Heap):Prop where
 keep:∀ b o,h.get? b=some o->H b=none->b ∉ fs->b ∉ ex->h'.get? b=some o
 slot:∀ b o,h.get? b=some o->H b=none->b ∈ fs->b ∉ ex->∃ sl,h'.get? b=some { o with slots:=sl }
 free:∀ b o,h.get? b=some o->H b=none->b ∉ ex->H' b=none
 there:∀ b o,h.get? b=some o->b ∉ ex->∃ o',h'.get? b=some o'
 tups:∀ b xs,H b=some (.tup xs)->H' b=some (.tup xs)
 frzs:∀ b o u,H b=some (.frz o u)->H' b=some (.frz o u)
 tbls:∀ b ps,H b=some (.tbl ps)->∃ more,H' b=some (.tbl (ps ++ more))
section
variable {fs fs' ex ex':List Addr} {H H1 H2:Hp} {h h1 h2 h':Heap} {a x e:Addr} {o:HO}
theorem Un.any (u:Un fs ex H H1 h h1) {b:Addr} {ob:Obj} (q:h.get? b=some ob) (n:H b=none) (hx:b ∉ ex):∃ sl,h1.get? b=some { ob with slots:=sl }:=by
 by_cases hb:b ∈ fs
 ·exact u.slot b ob q n hb hx
 ·exact ⟨ob.slots,u.keep b ob q n hb hx⟩
theorem Un.kept (k:∀ b u,h.get? b=some u->h'.get? b=some u):Un fs ex H H h h' :=
 ⟨fun b ob q _ _ _=>k b ob q,fun b ob q _ _ _=>⟨ob.slots,k b ob q⟩,fun _ _ _ n _=>n,fun b ob q _=>⟨ob,k b ob q⟩,fun _ _ q=>q,fun _ _ _ q=>q,fun _ ps q=>⟨#[],by rw [q]; simp⟩⟩
theorem Un.refl:Un fs ex H H h h:=Un.kept fun _ _ q=>q
theorem Un.laid (k:∀ b u,h.get? b=some u->h'.get? b=some u) (hp:h.objs.size<=a) (hn:H a=none):Un fs ex H (upd H a o) h h' where
 keep:=fun b u q _ _ _=>k b u q
 slot:=fun b u q _ _ _=>⟨u.slots,k b u q⟩
 free:=fun b u q n _=>by rw [zq (Nat.ne_of_lt (Nat.lt_of_lt_of_le (Heap.lt_size q) hp))]; exact n
 there:=fun b u q _=>⟨u,k b u q⟩
 tups:=fun b xs q=>by rw [zq (zI q hn)]; exact q
 frzs:=fun b u xs q=>by rw [zq (zI q hn)]; exact q
 tbls:=fun b ps q=>⟨#[],by rw [zq (zI q hn),q]; simp⟩
theorem Un.write (mu:Mut (H x)) (he:e=x\/H e=some (.own x)) (k:∀ b u,b≠e->h.get? b=some u->h'.get? b=some u) (heo:∃ u,h'.get? e=some u):Un fs ex H (upd H x o) h h':=by
 have hx:∀ b,H b=none->b≠x:=fun b n z=>by subst z; rw [n] at mu; exact mu
 have hb:∀ b,H b=none->b≠e:=fun b n z=>by
  subst z
  rcases he with r | r
  ·exact hx b n r
  ·rw [n] at r; cases r
 have hm:∀ b u,H b=some u->¬ Mut (some u)->b≠x:=fun b u q nm z=>by subst z; rw [q] at mu; exact nm mu
 refine ⟨fun b u q n _ _=>k b u (hb b n) q,fun b u q n _ _=>⟨u.slots,k b u (hb b n) q⟩,fun b u q n _=>by rw [zq (hx b n)]; exact n,fun b u q _=>?_,
  fun b xs q=>by rw [zq (hm b _ q fun z=>z)]; exact q,fun b u xs q=>by rw [zq (hm b _ q fun z=>z)]; exact q,fun b ps q=>⟨#[],by rw [zq (hm b _ q fun z=>z),q]; simp⟩⟩
 by_cases hbe:b=e
 ·subst hbe; exact heo
 ·exact ⟨u,k b u hbe q⟩
end
def zrD (g h:Heap) (L:Addr):List (Addr × Obj):=(List.range h.objs.size).filterMap fun a=>if a=L\/(g.get? a).isSome=true then none else (h.get? a).map fun o=>(a,o)
def zdp (g h:Heap) (L d:Addr):List (Addr × Obj):=(zrD g h L).filter fun p=>decide (p.1≠d)
end L2
namespace L2
open PySem PySem.Spec PyProof.Rows
def zeI (q:Str):Obj:=⟨.str q 0,none,.freed,#[]⟩
def zlu (base:Heap) (H:Hp):Prop:=∀ P q,base.objs[P]?=some (zeI q)->∃ ps,H P=some (.tbl ps)/\ps[0]?=some (.str q 0)
theorem zlu.un {base:Heap} {H H':Hp} (t:zlu base H) (u:∀ b ps,H b=some (.tbl ps)->∃ more,H' b=some (.tbl (ps ++ more))):zlu base H':=fun P q e=>by
 obtain ⟨ps,e1,e2⟩:=t P q e; obtain ⟨more,e3⟩:=u P ps e1; refine ⟨_,e3,?_⟩
 rw [Array.getElem?_append_left (by rw [Array.getElem?_eq_some_iff] at e2; exact e2.1)]
 exact e2
def zud:Obj:=⟨.none,none,.freed,#[]⟩
def zou (o:Obj):Option HO->Obj
 | some (.tbl ps)=>match (ps[0]?:Option Value) with
  | some (.str q 0)=>zeI q
  | _=>zud
 | some _=>zud
 | none=>match o.data with
  | .freed=>zud
  | _=>o
def nrm (h:Heap) (H:Hp):Heap:=⟨h.objs.mapIdx fun a o=>zou o (H a),h.life⟩
theorem zot (h:Heap) (H:Hp):(nrm h H).objs.size=h.objs.size:=by unfold nrm; simp
theorem zkh (h:Heap) (H:Hp) (b:Addr):(nrm h H).objs[b]?=(h.objs[b]?).map fun o=>zou o (H b):=by unfold nrm; simp
theorem zfR {h:Heap} {b:Addr} {o:Obj} (e:h.objs[b]?=some o) (n:o.data≠.freed):h.get? b=some o:=by
 unfold Heap.get?
 rw [e]; obtain ⟨c,d,dt,sl⟩:=o
 cases dt <;> first | rfl | exact absurd rfl n
theorem zdH {h:Heap} {b:Addr} {o:Obj} (e:h.get? b=some o):h.objs[b]?=some o/\o.data≠.freed:=by
 unfold Heap.get? at e
 cases q:h.objs[b]? with
 | none=>rw [q] at e; cases e
 | some u =>
  rw [q] at e; obtain ⟨c,d,dt,sl⟩:=u
  cases dt <;> first | (cases e; exact ⟨rfl,fun z=>nomatch z⟩) | cases e
theorem zqZ {h:Heap} {H:Hp} {b:Addr} {o:Obj} (e:h.get? b=some o) (n:H b=none):(nrm h H).get? b=some o:=by
 obtain ⟨e1,e2⟩:=zdH e; refine zfR ?_ e2; rw [zkh,e1,n]
 show some (zou o none)=some o
 obtain ⟨c,d,dt,sl⟩:=o
 cases dt <;> first | rfl | exact absurd rfl e2
theorem zsZ {h:Heap} {H:Hp} {b:Addr} {o:Obj} (e:(nrm h H).get? b=some o):h.get? b=some o/\H b=none:=by
 obtain ⟨e1,e2⟩:=zdH e; rw [zkh] at e1
 cases q:h.objs[b]? with
 | none=>rw [q] at e1; cases e1
 | some u =>
  rw [q] at e1
  have e3:zou u (H b)=o:=Option.some.inj e1
  cases z:H b with
  | some t =>
   rw [z] at e3
   exfalso
   unfold zou at e3; split at e3
   ·split at e3 <;> exact e2 (by rw [<- e3]; rfl)
   ·exact e2 (by rw [<- e3]; rfl)
   ·rename_i y; cases y
  | none =>
   rw [z] at e3; refine ⟨?_,rfl⟩; obtain ⟨c,d,dt,sl⟩:=u; unfold zou at e3
   cases dt <;> first | (cases e3; exact zfR q fun y=>nomatch y) | exact absurd (show o.data=.freed by rw [<- e3]; rfl) e2
theorem zos (h:Heap) (H:Hp):zlu (nrm h H) H:=fun P q e=>by
 rw [zkh] at e
 cases z:h.objs[P]? with
 | none=>rw [z] at e; cases e
 | some u =>
  rw [z] at e
  have e3:zou u (H P)=zeI q:=Option.some.inj e
  cases y:H P with
  | none =>
   rw [y] at e3
   exfalso
   obtain ⟨c,d,dt,sl⟩:=u; unfold zou zeI zud at e3
   cases dt <;> cases e3
  | some t =>
   rw [y] at e3; unfold zou at e3; split at e3
   ·rename_i ps hps
    cases hps; split at e3
    ·rename_i q' hq
     cases e3; exact ⟨_,rfl,hq⟩
    ·cases e3
   ·cases e3
   ·rename_i hh; cases hh
structure Mod (K:W.Frag) (mg:Str->Option Value) (base:Heap):Prop where
 kin:K.In base
 glob:base.Ns mainGlobals mg
 blt:∃ mb,base.Ns builtinsNs mb/\∀ x:Str,x≠"__name__"->mb x=bootBuiltins x
 nolimit:base.NoLimit
 bm:∃ bm ob,mg "__builtins__"=some (.ref bm)/\bm≠builtinsNs/\base.get? bm=some ob/\ob.cls=.type "module"/\ob.dict=some builtinsNs/\ob.data=.plain
/-- the context: a def's body (or a comprehension's block) running. base: fixed through the whole law; s₀, H₀: the entry; outer: the frames whose slots others may change (a def's callers); stack: all frames that run;
   ex: iterators that were made ahead of the entry and are walked here (a comprehension's); fn: the names whose cells were made at the entry (a def: all; a comprehension's block: its own); calm: not within an except suite; pn: pins that every state bears; xe: what is wanted of an exception that leaves the code -/
structure Cx where
 prog:Program
 w:World
 K:W.Frag
 mg:Str->Option Value
 base:Heap
 A:Around
 N:List Str
 s₀:Shared
 H₀:Hp
 env:Env
 outer:List Env
 stack:List Env
 ex:List Addr
 fn:Str->Bool
 calm:Bool
 pn:List (Addr × Obj)
 xe:Value->Shared->Prop
def frs (l:List Env):List Addr:=l.filterMap (·.frame)
abbrev Cx.fs (X:Cx):List Addr:=frs X.outer
def Vis (sc:Scope) (x:Str):Prop:=sc.names.lookup x=some .local\/sc.names.lookup x=some .cell\/sc.names.lookup x=some .free
def Loc (sc:Scope) (x:Str):Prop:=sc.names.lookup x=some .local\/sc.names.lookup x=some .cell
def zwQ (env:Env) (h:Heap) (m:Str->Option Value) (x:Str) (u:Value):Prop :=
 (env.kindOf x=some .local/\m x=some u)\/((env.kindOf x=some .cell\/env.kindOf x=some .free)/\∃ c,env.cells.lookup x=some c/\h.IsCell c (some u))
structure Cx.Ok (X:Cx):Prop where
 mod:Mod X.K X.mg X.base
 kind:X.env.scope.kind=.function
 glob:X.env.globals=mainGlobals
 blt:X.env.builtins=builtinsNs
 above:X.s₀.heap.objs.size<=X.env.locals
 inj:∀ x y c,X.env.cells.lookup x=some c->X.env.cells.lookup y=some c->x=y
 has:∀ x,(X.env.kindOf x=some .cell\/X.env.kindOf x=some .free)->∃ c,X.env.cells.lookup x=some c
 cab:∀ x c,X.fn x=true->X.env.cells.lookup x=some c->X.s₀.heap.objs.size<=c
 hd:X.calm=true->X.A.handled=none
 frames:X.A.frames=some X.stack
 stk:X.stack=X.outer\/(X.stack=X.env :: X.outer/\X.env.frame=some X.env.locals)
 exf:∀ b ∈ X.ex,b≠X.env.locals/\∀ x c,X.env.cells.lookup x=some c->c≠b
 bs:∀ b o,X.base.get? b=some o->X.s₀.heap.get? b=some o/\X.H₀ b=none
 bsz:X.base.objs.size<=X.s₀.heap.objs.size
 noex:∀ b o,X.base.get? b=some o->b ∉ X.ex
 exfs:∀ b ∈ X.ex,b ∉ X.fs
 funs:X.s₀.heap.FunFrames X.base X.outer
 frf:∀ b ∈ X.fs,X.H₀ b=none
 tab:zlu X.base X.H₀
structure Inv (X:Cx) (pins:List (Addr × Obj)) (σ:List (Option V)) (H:Hp) (s:Shared):Prop where
 ok:X.Ok
 os:s.os=X.s₀.os
 bare:AllBare s.gens
 base:Un X.fs X.ex X.H₀ H X.s₀.heap s.heap
 loc:∃ m,s.heap.Ns X.env.locals m/\∀ (i:Nat) (x:Str) (v:V),X.N[i]?=some x->σ[i]?=some (some v)->Vis X.env.scope x->∃ u,zao v u/\zwQ X.env s.heap m x u
 cell:∀ x c,X.env.cells.lookup x=some c->∃ v,s.heap.IsCell c v
 free:H X.env.locals=none
 freeC:∀ x c,X.env.cells.lookup x=some c->H c=none
 pin:∀ p ∈ X.pn ++ pins,s.heap.get? p.1=some p.2/\H p.1=none/\p.1≠X.env.locals/\p.1 ∉ X.fs/\∀ v,p.2.data≠.cell v
 hok:HOk X.prog X.w H s.heap
 len:σ.length=X.N.length
section
variable {X:Cx} {pins:List (Addr × Obj)} {σ:List (Option V)} {H H':Hp} {s:Shared} {h':Heap}
theorem Cx.Ok.nofr (ok:X.Ok) {b:Addr} {o:Obj} (e:X.base.get? b=some o):b ∉ X.fs:=fun hb=>by
 have:=(ok.funs.mem hb).1
 rw [e] at this; cases this
theorem Inv.bs (I:Inv X pins σ H s):∀ b o,X.base.get? b=some o->s.heap.get? b=some o/\H b=none:=fun b o e =>
 ⟨I.base.keep b o (I.ok.bs b o e).1 (I.ok.bs b o e).2 (I.ok.nofr e) (I.ok.noex b o e),I.base.free b o (I.ok.bs b o e).1 (I.ok.bs b o e).2 (I.ok.noex b o e)⟩
theorem Inv.bk (I:Inv X pins σ H s):∀ b o,X.base.get? b=some o->s.heap.get? b=some o:=fun b o e=>(I.bs b o e).1
theorem Inv.mod (I:Inv X pins σ H s):Mod X.K X.mg X.base:=I.ok.mod
theorem Inv.kIn (I:Inv X pins σ H s):X.K.In s.heap:=I.ok.mod.kin.keeps I.bk
theorem Inv.lt (I:Inv X pins σ H s):X.env.locals<s.heap.objs.size:=let ⟨_,hn,_⟩:=I.loc; hn.lt
theorem Inv.sz (I:Inv X pins σ H s):X.s₀.heap.objs.size<=s.heap.objs.size:=Nat.le_trans I.ok.above (Nat.le_of_lt I.lt)
theorem Inv.nofs (I:Inv X pins σ H s) {a:Addr} (h:s.heap.objs.size<=a):a ∉ X.fs:=fun hb=>by
 obtain ⟨_,o,ho,_⟩:=I.ok.funs.mem hb; exact absurd (Nat.lt_of_lt_of_le (Heap.lt_size ho) (Nat.le_trans I.sz h)) (Nat.lt_irrefl _)
theorem Inv.cne (I:Inv X pins σ H s):∀ x c,X.env.cells.lookup x=some c->c≠X.env.locals:=fun x c e z=>by
 obtain ⟨v,o,ho,hd⟩:=I.cell x c e
 obtain ⟨m,⟨o',es,ep,ho',hd',_⟩,_⟩:=I.loc
 rw [z,ho'] at ho; cases ho; rw [hd'] at hd; cases hd
theorem Inv.funs (I:Inv X pins σ H s):s.heap.FunFrames X.base X.outer:=by
 have all:∀ (l:List Env),(∀ b ∈ frs l,b ∈ X.fs)->X.s₀.heap.FunFrames X.base l->s.heap.FunFrames X.base l:=by
  intro l
  induction l with
  | nil=>intro _ _; trivial
  | cons env r ih =>
   intro hs hl
   obtain ⟨hk,⟨L,o,hf,hn,ho,hd⟩,hr⟩:=hl
   have hL:L ∈ X.fs:=hs L (by unfold frs; rw [List.filterMap_cons,hf]; exact List.mem_cons_self)
   obtain ⟨sl,e⟩:=I.base.slot L o ho (I.ok.frf L hL) hL fun z=>I.ok.exfs L z hL
   exact ⟨hk,⟨L,_,hf,hn,e,hd⟩,ih (fun b hb=>hs b (by unfold frs; rw [List.filterMap_cons,hf]; exact List.mem_cons_of_mem _ hb)) hr⟩
 exact all X.outer (fun _ hb=>hb) I.ok.funs
theorem Inv.stack (I:Inv X pins σ H s):s.heap.FunFrames X.base X.stack:=by
 rcases I.ok.stk with e | ⟨e,hf⟩
 ·rw [e]; exact I.funs
 ·rw [e]
  obtain ⟨m,hn,_⟩:=I.loc
  refine .cons (by rw [I.ok.kind]; decide) hf hn ?_ I.funs
  exact Heap.get?_none_of_le (Nat.le_trans I.ok.bsz I.ok.above)
theorem Inv.stkSub (I:Inv X pins σ H s):∀ b ∈ frs X.stack,b ∈ X.env.locals :: X.fs:=fun b hb=>by
 rcases I.ok.stk with e | ⟨e,hf⟩
 ·rw [e] at hb; exact List.mem_cons_of_mem _ hb
 ·rw [e] at hb
  unfold frs at hb; rw [List.filterMap_cons,hf] at hb; exact hb
theorem Inv.stkFree (I:Inv X pins σ H s):∀ b ∈ frs X.stack,H b=none:=fun b hb=>by
 rcases List.mem_cons.mp (I.stkSub b hb) with e | hb
 ·rw [e]; exact I.free
 ·obtain ⟨_,o,ho,_⟩:=I.ok.funs.mem hb
  exact I.base.free b o ho (I.ok.frf b hb) fun z=>I.ok.exfs b z hb
theorem Inv.step {g':Array GenState} {t':Nat} {d':Drawn} {ch:List Addr} (I:Inv X pins σ H s)
  (hch:∀ b ∈ ch,(b ∈ X.ex\/X.s₀.heap.objs.size<=b)/\b≠X.env.locals/\(∀ x c,X.env.cells.lookup x=some c->c≠b)/\∀ p ∈ X.pn ++ pins,p.1≠b)
  (keep:∀ b o,b≠X.env.locals->b ∉ X.fs->b ∉ ch->s.heap.get? b=some o->H b=none->h'.get? b=some o)
  (slot:∀ b o,b≠X.env.locals->b ∈ X.fs->b ∉ ch->s.heap.get? b=some o->H b=none->∃ sl,h'.get? b=some { o with slots:=sl }) (free:∀ b o,b ∉ ch->s.heap.get? b=some o->H b=none->H' b=none)
  (there:∀ b o,b ∉ ch->s.heap.get? b=some o->∃ o',h'.get? b=some o')
  (tups:∀ b xs,H b=some (.tup xs)->H' b=some (.tup xs)) (frzs:∀ b o u,H b=some (.frz o u)->H' b=some (.frz o u)) (tbls:∀ b ps,H b=some (.tbl ps)->∃ more,H' b=some (.tbl (ps ++ more)))
  (ns:∀ m,s.heap.Ns X.env.locals m->h'.Ns X.env.locals m) (hok:HOk X.prog X.w H' h') (hg:AllBare g') :
  Inv X pins σ H' { s with heap:=h',gens:=g',drawn:=d',toks:=t' }:=by
 have neL:∀ b o,X.s₀.heap.get? b=some o->b≠X.env.locals:=fun b o e=>Nat.ne_of_lt (Nat.lt_of_lt_of_le (Heap.lt_size e) I.ok.above)
 have neC:∀ b o,X.s₀.heap.get? b=some o->b ∉ X.ex->b ∉ ch:=fun b o e hx hb=>by
  rcases (hch b hb).1 with z | z
  ·exact hx z
  ·exact absurd (Nat.lt_of_lt_of_le (Heap.lt_size e) z) (Nat.lt_irrefl _)
 have cellK:∀ x c,X.env.cells.lookup x=some c->∀ v,s.heap.IsCell c v->h'.IsCell c v:=fun x c e v ⟨o,ho,hd⟩=>by
  have nch:c ∉ ch:=fun z=>(hch c z).2.2.1 x c e rfl
  by_cases hc:c ∈ X.fs
  ·obtain ⟨sl,q⟩:=slot c o (I.cne x c e) hc nch ho (I.freeC x c e)
   exact ⟨_,q,hd⟩
  ·exact ⟨o,keep c o (I.cne x c e) hc nch ho (I.freeC x c e),hd⟩
 refine ⟨I.ok,I.os,hg,⟨fun b o e n hb hx=>?_,fun b o e n hb hx=>?_,fun b o e n hx=>?_,fun b o e hx=>?_,fun b xs e=>tups b xs (I.base.tups b xs e),fun b o xs e=>frzs b o xs (I.base.frzs b o xs e),fun b ps e=>?_⟩,?_,fun x c e=>?_,?_,fun x c e=>?_,fun p hp=>?_,hok,I.len⟩
 ·exact keep b o (neL b o e) hb (neC b o e hx) (I.base.keep b o e n hb hx) (I.base.free b o e n hx)
 ·obtain ⟨sl,e1⟩:=I.base.slot b o e n hb hx
  obtain ⟨sl',e2⟩:=slot b _ (neL b o e) hb (neC b o e hx) e1 (I.base.free b o e n hx); exact ⟨sl',e2⟩
 ·obtain ⟨o',e1⟩:=I.base.there b o e hx
  exact free b o' (neC b o e hx) e1 (I.base.free b o e n hx)
 ·obtain ⟨o',e1⟩:=I.base.there b o e hx
  exact there b o' (neC b o e hx) e1
 ·obtain ⟨m1,e1⟩:=I.base.tbls b ps e
  obtain ⟨m2,e2⟩:=tbls b _ e1
  exact ⟨m1 ++ m2,by rw [e2,Array.append_assoc]⟩
 ·obtain ⟨m,hn,hl⟩:=I.loc
  refine ⟨m,ns m hn,fun i x v e1 e2 e3=>?_⟩
  obtain ⟨u,r,l⟩:=hl i x v e1 e2 e3; refine ⟨u,r,?_⟩
  rcases l with l | ⟨k,c,e,z⟩
  ·exact .inl l
  ·exact .inr ⟨k,c,e,cellK x c e _ z⟩
 ·obtain ⟨v,z⟩:=I.cell x c e
  exact ⟨v,cellK x c e v z⟩
 ·obtain ⟨m,⟨o,_,_,ho,_⟩,_⟩:=I.loc
  exact free _ o (fun z=>(hch _ z).2.1 rfl) ho I.free
 ·obtain ⟨v,o,ho,hd⟩:=I.cell x c e
  exact free c o (fun z=>(hch c z).2.2.1 x c e rfl) ho (I.freeC x c e)
 ·obtain ⟨e,n,ne,nf,d⟩:=I.pin p hp
  have nch:p.1 ∉ ch:=fun z=>(hch p.1 z).2.2.2 p hp rfl
  exact ⟨keep p.1 p.2 ne nf nch e n,free p.1 p.2 nch e n,ne,nf,d⟩
theorem Inv.un {t':Nat} (I:Inv X pins σ H s) (u:Un X.fs [] H H' s.heap h') (hok:HOk X.prog X.w H' h'):Inv X pins σ H' { s with heap:=h',toks:=t' }:=by
 obtain ⟨m,⟨o,es,ep,ho,r⟩,_⟩:=id I.loc
 obtain ⟨sl,hL⟩:=u.any ho I.free (by simp)
 exact I.step (g':=s.gens) (d':=s.drawn) (ch:=[]) (fun _ z=>nomatch z) (fun b o _ hb _ e n=>u.keep b o e n hb (by simp)) (fun b o _ hb _ e n=>u.slot b o e n hb (by simp)) (fun b o _ e n=>u.free b o e n (by simp)) (fun b o _ e=>u.there b o e (by simp)) u.tups u.frzs u.tbls (fun m' hm=>by
  obtain ⟨o',es',ep',ho',r'⟩:=hm
  rw [ho] at ho'; cases ho'
  exact ⟨_,es',ep',hL,r'⟩) hok I.bare
theorem Inv.call {g':Array GenState} {t':Nat} {d':Drawn} {ch:List Addr} (I:Inv X pins σ H s) (u:Un (frs X.stack) ch H H' s.heap h') (hok:HOk X.prog X.w H' h') (hg:AllBare g')
  (hch:∀ b ∈ ch,(b ∈ X.ex\/X.s₀.heap.objs.size<=b)/\b≠X.env.locals/\(∀ x c,X.env.cells.lookup x=some c->c≠b)/\∀ p ∈ X.pn ++ pins,p.1≠b) :
  Inv X pins σ H' { s with heap:=h',gens:=g',drawn:=d',toks:=t' }:=by
 obtain ⟨m,⟨o,es,ep,ho,r⟩,_⟩:=id I.loc
 obtain ⟨sl,hL⟩:=u.any ho I.free fun z=>(hch _ z).2.1 rfl
 exact I.step (ch:=ch) hch (fun b o hL hb hc e n=>u.keep b o e n (fun z=>(List.mem_cons.mp (I.stkSub b z)).elim hL hb) hc) (fun b o _ _ hc e n=>u.any e n hc) (fun b o hc e n=>u.free b o e n hc) (fun b o hc e=>u.there b o e hc) u.tups u.frzs u.tbls (fun m' hm=>by
  obtain ⟨o',es',ep',ho',r'⟩:=hm
  rw [ho] at ho'; cases ho'
  exact ⟨_,es',ep',hL,r'⟩) hok hg
theorem Inv.turned {t':Nat} {it:Addr} (I:Inv X pins σ H s) (k:∀ b o,b≠it->s.heap.get? b=some o->h'.get? b=some o) (hn:H it=none) (hL:it≠X.env.locals)
  (h1:it ∈ X.ex\/X.s₀.heap.objs.size<=it) (h2:∀ x c,X.env.cells.lookup x=some c->c≠it) (h3:∀ p ∈ X.pn ++ pins,p.1≠it):Inv X pins σ H { s with heap:=h',toks:=t' }:=by
 have nit:∀ b u,H b=some u->b≠it:=fun b u e z=>by rw [z,hn] at e; cases e
 refine I.step (g':=s.gens) (d':=s.drawn) (ch:=[it]) (fun b hb=>?_) (fun b o _ _ hc e _=>k b o (fun z=>hc (by simp [z])) e) (fun b o _ _ hc e _=>⟨o.slots,k b o (fun z=>hc (by simp [z])) e⟩) (fun _ _ _ _ n=>n)
  (fun b o hc e=>⟨o,k b o (fun z=>hc (by simp [z])) e⟩) (fun _ _ e=>e) (fun _ _ _ e=>e) (fun b ps e=>⟨#[],by rw [e]; simp⟩) (fun m hm=>?_) (fun b u e=>?_) I.bare
 ·have e:b=it:=by simpa using hb
  subst e; exact ⟨h1,hL,h2,h3⟩
 ·obtain ⟨o,es,ep,ho,r⟩:=hm
  exact ⟨o,es,ep,k _ o (Ne.symm hL) ho,r⟩
 ·refine (I.hok b u e).stay (fun c v hc q=>k c v ?_ q) (fun _ q=>q) fun _ _ q=>q
  rcases hc with z | z
  ·rw [z]; exact nit b u e
  ·exact nit c _ z
theorem Inv.tok (I:Inv X pins σ H s) (t:Nat):Inv X pins σ H { s with toks:=t }:=I.un (h':=s.heap) (t':=t) Un.refl I.hok
theorem Inv.kept {t':Nat} (I:Inv X pins σ H s) (k:∀ b u,s.heap.get? b=some u->h'.get? b=some u):Inv X pins σ H { s with heap:=h',toks:=t' }:=I.un (Un.kept k) (I.hok.kept k)
theorem Inv.laid {a:Addr} {o:HO} {t':Nat} (I:Inv X pins σ H s) (k:∀ b u,s.heap.get? b=some u->h'.get? b=some u) (hp:s.heap.objs.size<=a) (new:zaP X.prog X.w (upd H a o) h' a o) :
  Inv X pins σ (upd H a o) { s with heap:=h',toks:=t' }:=I.un (Un.laid k hp (I.hok.fresh hp)) (I.hok.laid k hp new)
theorem Inv.write {x e:Addr} {o:HO} {t':Nat} (I:Inv X pins σ H s) (mu:Mut (H x)) (he:e=x\/H e=some (.own x)) (k:∀ b u,b≠e->s.heap.get? b=some u->h'.get? b=some u) (heo:∃ u,h'.get? e=some u)
  (new:zaP X.prog X.w (upd H x o) h' x o):Inv X pins σ (upd H x o) { s with heap:=h',toks:=t' }:=I.un (Un.write mu he k heo) (I.hok.write mu he k heo new)
theorem Inv.pins_of {pins':List (Addr × Obj)} (I:Inv X pins σ H s) (h:∀ p ∈ pins',s.heap.get? p.1=some p.2/\H p.1=none/\p.1≠X.env.locals/\p.1 ∉ X.fs/\∀ v,p.2.data≠.cell v):Inv X pins' σ H s :=
 ⟨I.ok,I.os,I.bare,I.base,I.loc,I.cell,I.free,I.freeC,fun p hp=>(List.mem_append.mp hp).elim (fun z=>I.pin p (List.mem_append_left _ z)) (h p),I.hok,I.len⟩
theorem zki {N:List Str} (hN:N.Nodup) {i j:Nat} {x:Str} (a:N[i]?=some x) (b:N[j]?=some x):i=j:=by
 obtain ⟨h1,e1⟩:=List.getElem?_eq_some_iff.mp a; obtain ⟨h2,e2⟩:=List.getElem?_eq_some_iff.mp b; exact (List.getElem_inj hN).mp (e1.trans e2.symm)
theorem zhK {M:Model} {A:Around} {E:Value->Shared->Prop} {i:Nat} {x:Str} {v:V} {u:Value} {Q:Unit->Shared->Prop} (I:Inv X pins σ H s) (hN:X.N.Nodup) (hi:X.N[i]?=some x) (hx:Loc X.env.scope x) (r:zao v u)
  (h:∀ s',Inv X pins (σ.set i (some v)) H s'->(∃ a,Heap.SameBut a s.heap s'.heap/\(a=X.env.locals\/X.env.cells.lookup x=some a))->Q () s') (hf:X.fn x=true\/X.env.scope.names.lookup x=some .local:=by first | exact .inl rfl | exact .inr rfl | assumption):wpAny M A (storeName X.env x u) Q E s:=by
 obtain ⟨m,hn,hl⟩:=id I.loc
 have hcls:(X.env.scope.kind == .class || (X.env.scope.kind == .module && X.env.locals != X.env.globals))=false:=by rw [I.ok.kind]; rfl
 have hiσ:i<σ.length:=by rw [I.len]; exact (List.getElem?_eq_some_iff.mp hi).1
 have cne:=I.cne
 have tracked:∀ {a:Addr} {h':Heap},(∃ o,s.heap.get? a=some o/\H a=none)->Heap.SameBut a s.heap h'->HOk X.prog X.w H h':=fun {a h'} ha hs b ob e=>by
  obtain ⟨_,_,hfree⟩:=ha
  refine (I.hok b ob e).stay (fun c w' hc q=>(hs.2 c ?_).trans q) (fun _ q=>q) fun _ _ q=>q
  rintro rfl
  rcases hc with rfl | hc
  ·rw [hfree] at e; cases e
  ·rw [hfree] at hc; cases hc
 rcases hx with hk | hk
 ·refine wpAny_storeName_local hk hn (fun h' hn' hs=>?_) hcls
  obtain ⟨oL,_,_,hoL,_⟩:=id hn
  refine h _ ⟨I.ok,I.os,I.bare,⟨fun b o e n hb hx=>?_,fun b o e n hb hx=>?_,I.base.free,fun b o e hx=>?_,I.base.tups,I.base.frzs,I.base.tbls⟩,⟨_,hn',fun j y v' e1 e2 e3=>?_⟩,fun y c e=>?_,I.free,I.freeC,fun p hp=>?_,tracked ⟨oL,hoL,I.free⟩ hs,by simpa using I.len⟩ ⟨_,hs,.inl rfl⟩
  ·exact (hs.2 b (Nat.ne_of_lt (Nat.lt_of_lt_of_le (Heap.lt_size e) I.ok.above))).trans (I.base.keep b o e n hb hx)
  ·obtain ⟨sl,e1⟩:=I.base.slot b o e n hb hx
   exact ⟨sl,(hs.2 b (Nat.ne_of_lt (Nat.lt_of_lt_of_le (Heap.lt_size e) I.ok.above))).trans e1⟩
  ·obtain ⟨o',e1⟩:=I.base.there b o e hx
   exact ⟨o',(hs.2 b (Nat.ne_of_lt (Nat.lt_of_lt_of_le (Heap.lt_size e) I.ok.above))).trans e1⟩
  ·by_cases hj:j=i
   ·subst hj
    rw [hi] at e1; cases e1
    rw [List.getElem?_set_self hiσ] at e2; cases e2
    exact ⟨u,r,.inl ⟨hk,by simp⟩⟩
   ·rw [List.getElem?_set_ne (Ne.symm hj)] at e2
    obtain ⟨u',r',q⟩:=hl j y v' e1 e2 e3; refine ⟨u',r',?_⟩
    rcases q with ⟨k,e⟩ | ⟨k,c,e,z⟩
    ·refine .inl ⟨k,?_⟩
     have:y≠x:=fun e=>hj (zki hN e1 (e ▸ hi))
     simp [this,e]
    ·exact .inr ⟨k,c,e,z.sameBut hs (cne y c e)⟩
  ·obtain ⟨w',z⟩:=I.cell y c e
   exact ⟨w',z.sameBut hs (cne y c e)⟩
  ·obtain ⟨e,n,ne,nf,d⟩:=I.pin p hp
   exact ⟨(hs.2 p.1 ne).trans e,n,ne,nf,d⟩
 ·have hfn:X.fn x=true:=by
   rcases hf with z | z
   ·exact z
   ·rw [z] at hk; cases hk
  obtain ⟨c,hc⟩:=I.ok.has x (.inl hk); obtain ⟨w',z⟩:=I.cell x c hc
  refine wpAny_storeName_cell I.ok.kind hk hc z (fun h' hc' hs=>?_)
  obtain ⟨oc,hoc,hocd⟩:=id z
  refine h { s with heap:=h' } ⟨I.ok,I.os,I.bare,⟨fun b o e n hb hx=>?_,fun b o e n hb hx=>?_,I.base.free,fun b o e hx=>?_,I.base.tups,I.base.frzs,I.base.tbls⟩,⟨m,hn.sameBut hs (Ne.symm (cne x c hc)),fun j y v' e1 e2 e3=>?_⟩,fun y c' e=>?_,I.free,I.freeC,fun p hp=>?_,tracked ⟨oc,hoc,I.freeC x c hc⟩ hs,by simpa using I.len⟩ ⟨c,hs,.inr hc⟩
  ·exact (hs.2 b (Nat.ne_of_lt (Nat.lt_of_lt_of_le (Heap.lt_size e) (I.ok.cab x c hfn hc)))).trans (I.base.keep b o e n hb hx)
  ·obtain ⟨sl,e1⟩:=I.base.slot b o e n hb hx
   exact ⟨sl,(hs.2 b (Nat.ne_of_lt (Nat.lt_of_lt_of_le (Heap.lt_size e) (I.ok.cab x c hfn hc)))).trans e1⟩
  ·obtain ⟨o',e1⟩:=I.base.there b o e hx
   exact ⟨o',(hs.2 b (Nat.ne_of_lt (Nat.lt_of_lt_of_le (Heap.lt_size e) (I.ok.cab x c hfn hc)))).trans e1⟩
  ·by_cases hj:j=i
   ·subst hj
    rw [hi] at e1; cases e1
    rw [List.getElem?_set_self hiσ] at e2; cases e2; exact ⟨u,r,.inr ⟨.inl hk,c,hc,hc'⟩⟩
   ·rw [List.getElem?_set_ne (Ne.symm hj)] at e2
    obtain ⟨u',r',q⟩:=hl j y v' e1 e2 e3; refine ⟨u',r',?_⟩
    rcases q with q | ⟨k,c',e,z'⟩
    ·exact .inl q
    ·refine .inr ⟨k,c',e,z'.sameBut hs ?_⟩
     rintro rfl
     exact hj (zki hN e1 (I.ok.inj _ _ _ e hc ▸ hi))
  ·by_cases hcc:c'=c
   ·subst hcc; exact ⟨_,hc'⟩
   ·obtain ⟨w2,z2⟩:=I.cell y c' e
    exact ⟨w2,z2.sameBut hs hcc⟩
  ·obtain ⟨e,n,ne,nf,d⟩:=I.pin p hp
   refine ⟨(hs.2 p.1 ?_).trans e,n,ne,nf,d⟩; intro q; rw [q,hoc] at e
   have q':oc=p.2:=Option.some.inj e
   exact d w' (by rw [<- q']; exact hocd)
theorem zgQ {M:Model} {A:Around} {E:Value->Shared->Prop} {i:Nat} {x:Str} {v:V} {u:Value} {Q:Unit->Shared->Prop} (I:Inv X pins σ H s) (hN:X.N.Nodup) (hi:X.N[i]?=some x) (hx:Loc X.env.scope x) (r:zao v u)
  (h:∀ s',Inv X pins (σ.set i (some v)) H s'->Q () s') (hf:X.fn x=true\/X.env.scope.names.lookup x=some .local:=by first | exact .inl rfl | exact .inr rfl | assumption):wpAny M A (storeName X.env x u) Q E s :=
 zhK I hN hi hx r (fun s' I' _=>h s' I') hf
theorem Inv.call' {s':Shared} {ch:List Addr} (I:Inv X pins σ H s) (ho:s'.os=s.os) (u:Un (frs X.stack) ch H H' s.heap s'.heap) (hok:HOk X.prog X.w H' s'.heap) (hg:AllBare s'.gens)
  (hch:∀ b ∈ ch,(b ∈ X.ex\/X.s₀.heap.objs.size<=b)/\b≠X.env.locals/\(∀ x c,X.env.cells.lookup x=some c->c≠b)/\∀ p ∈ X.pn ++ pins,p.1≠b):Inv X pins σ H' s':=by
 obtain ⟨h',g',d',t',o'⟩:=s'
 have e:o'=s.os:=ho
 subst e; exact I.call (g':=g') (t':=t') (d':=d') u hok hg hch
end
abbrev XK:=Value->Option Addr->Hp->Prop
abbrev St:=List (Option V)
abbrev VK:=V->Hp->Prop
abbrev TE:=St->Hp->VK->Prop
abbrev TT:=St->Hp->(Bool->Hp->Prop)->Prop
abbrev TA:=St->Hp->(List V->Hp->Prop)->Prop
structure Ends where
 nx:St->Hp->Prop
 rt:VK
 bk:St->Hp->Prop:=fun _ _=>False
 ct:St->Hp->Prop:=fun _ _=>False
abbrev TS:=Ends->St->Hp->Prop
def EP (X:Cx) (pins:List (Addr × Obj)) (σ:St) (Q:VK) (u:Value) (s':Shared):Prop:=∃ v H',Inv X pins σ H' s'/\zao v u/\Q v H'
def TP (X:Cx) (pins:List (Addr × Obj)) (σ:St) (Q:Bool->Hp->Prop) (b:Bool) (s':Shared):Prop:=∃ H',Inv X pins σ H' s'/\Q b H'
def AP (X:Cx) (pins:List (Addr × Obj)) (σ:St) (Q:List V->Hp->Prop) (us:List Value) (s':Shared):Prop:=∃ vs H',Inv X pins σ H' s'/\zae vs us/\Q vs H'
def SP (X:Cx) (pins:List (Addr × Obj)) (D:Ends) (f:Flow) (s':Shared):Prop :=
 match f with
 | .next=>∃ σ' H',Inv X pins σ' H' s'/\D.nx σ' H'
 | .brk=>∃ σ' H',Inv X pins σ' H' s'/\D.bk σ' H'
 | .cont=>∃ σ' H',Inv X pins σ' H' s'/\D.ct σ' H'
 | .ret u=>∃ v σ' H',Inv X pins σ' H' s'/\zao v u/\D.rt v H'
def PE (X:Cx) (e:Expr) (t:TE):Prop :=
 ∀ (pins:List (Addr × Obj)) (s:Shared) (σ:St) (H:Hp) (Q:VK),Inv X pins σ H s->t σ H Q->wpAny (model X.prog X.w) X.A (eval e X.env) (EP X pins σ Q) X.xe s
def PT (X:Cx) (e:Expr) (t:TT):Prop :=
 ∀ (pins:List (Addr × Obj)) (s:Shared) (σ:St) (H:Hp) (Q:Bool->Hp->Prop),Inv X pins σ H s->t σ H Q->wpAny (model X.prog X.w) X.A (isTrue e X.env (eval e X.env)) (TP X pins σ Q) X.xe s
def PW (X:Cx) (e:Expr) (t:TT):Prop :=
 ∀ (whole:Sem Value) (pins:List (Addr × Obj)) (s:Shared) (σ:St) (H:Hp) (Q:Bool->Hp->Prop),Inv X pins σ H s->t σ H Q->wpAny (model X.prog X.w) X.A (isTrue e X.env whole) (TP X pins σ Q) X.xe s
def PA (X:Cx) (es:List Expr) (t:TA):Prop :=
 ∀ (pos:Pos) (pins:List (Addr × Obj)) (s:Shared) (σ:St) (H:Hp) (Q:List V->Hp->Prop),Inv X pins σ H s->t σ H Q->wpAny (model X.prog X.w) X.A (spliced (backTo pos (starEach es X.env))) (AP X pins σ Q) X.xe s
def PS (X:Cx) (st:Stmt) (t:TS):Prop :=
 ∀ (pins:List (Addr × Obj)) (s:Shared) (σ:St) (H:Hp) (D:Ends),Inv X pins σ H s->t D σ H->wpAny (model X.prog X.w) X.A (exec st X.env) (SP X pins D) X.xe s
def PSs (X:Cx) (st:List Stmt) (t:TS):Prop :=
 ∀ (pins:List (Addr × Obj)) (s:Shared) (σ:St) (H:Hp) (D:Ends),Inv X pins σ H s->t D σ H->wpAny (model X.prog X.w) X.A (execs st X.env) (SP X pins D) X.xe s
theorem thn {α:Type} {t:Sem α} {Q Q':α->Shared->Prop} {M:Model} {A:Around} {E:Value->Shared->Prop} {s:Shared} (h:wpAny M A t Q E s) (hQ:∀ a s,Q a s->Q' a s):wpAny M A t Q' E s:=wpAny_mono h hQ fun _ _ x=>x
end L2
namespace L2
open PySem PySem.Spec PyProof.Rows
section
variable {X:Cx}
def zvQ (i:Nat):TE:=fun σ H Q=>∃ v,σ[i]?=some (some v)/\Q v H
def tC (v:V):TE:=fun _ H Q=>Q v H
theorem zdZ {i:Nat} {x:Str} {pos:Pos} (hN:X.N[i]?=some x) (hv:Vis X.env.scope x) (hd:(x == ("__debug__":Str))=false:=by decide) (hcd:(x == ("__classdict__":Str))=false:=by decide):PE X (.Name x pos) (zvQ i):=by
 intro pins s σ H Q I h; obtain ⟨v,e,h⟩:=h; obtain ⟨m,hn,hl⟩:=I.loc; obtain ⟨u,r,l⟩:=hl i x v hN e hv
 have fin:EP X pins σ Q u s:=⟨v,H,I,r,h⟩
 rcases l with ⟨hk,hm⟩ | ⟨hk,c,hc,hcell⟩
 ·exact wpAny_Name (wpAny_loadName_local I.ok.kind hk hn hm fin) hd
 ·rcases hk with hk | hk
  ·exact wpAny_Name (wpAny_loadName_cell I.ok.kind hk hc hcell fin) hd
  ·exact wpAny_Name (wpAny_loadName_free I.ok.kind hk hc hcell fin hcd) hd
theorem zmj {i j pos}:PE X (.Constant (.int i) j pos) (tC (.int i)):=fun _ _ _ H _ I h=>wpAny_Constant_int ⟨.int i,H,I.tok _,⟨_,rfl⟩,h⟩
theorem zuY {b j pos}:PE X (.Constant (.bool b) j pos) (tC (.bl b)):=fun _ _ _ H _ I h=>Constant_bool ⟨.bl b,H,I,rfl,h⟩
theorem zsK {j pos}:PE X (.Constant .none j pos) (tC .non):=fun _ _ _ H _ I h=>Constant_none ⟨.non,H,I,rfl,h⟩
theorem zsF {x j pos}:PE X (.Constant (.str x) j pos) (tC (.str x)):=fun _ _ _ H _ I h=>Calls.Constant_str ⟨.str x,H,I.tok _,⟨_,rfl⟩,h⟩
def Gl (X:Cx) (x:Str):Prop:=X.env.kindOf x=some .globalImplicit
theorem zjA {E:Value->Shared->Prop} {pins:List (Addr × Obj)} {s:Shared} {σ:St} {H:Hp} {x:Str} {u:Value} {pos:Pos} {Q:Value->Shared->Prop} (I:Inv X pins σ H s) (hg:Gl X x) (hm:X.mg x=some u) (h:Q u s)
  (hd:(x == ("__debug__":Str))=false:=by decide):wpAny (model X.prog X.w) X.A (eval (.Name x pos) X.env) Q E s :=
 Calls.Name_function_global I.ok.kind hg (Calls.loadGlobal_global (by rw [I.ok.glob]; exact I.mod.glob.keeps I.bk) hm h) hd
theorem zfI {E:Value->Shared->Prop} {pins:List (Addr × Obj)} {s:Shared} {σ:St} {H:Hp} {x:Str} {u:Value} {pos:Pos} {Q:Value->Shared->Prop} (I:Inv X pins σ H s) (hg:Gl X x) (hm:X.mg x=none) (hv:bootBuiltins x=some u) (h:Q u s)
  (hn:x≠"__name__":=by decide) (hd:(x == ("__debug__":Str))=false:=by decide):wpAny (model X.prog X.w) X.A (eval (.Name x pos) X.env) Q E s:=by
 obtain ⟨mb,h1,h2⟩:=I.mod.blt
 exact Calls.Name_function_global I.ok.kind hg (Calls.loadGlobal_builtin (by rw [I.ok.glob]; exact I.mod.glob.keeps I.bk) hm (by rw [I.ok.blt]; exact h1.keeps I.bk) ((h2 x hn).trans hv) h) hd
theorem zqD {x:Str} {v:V} {u:Value} {pos:Pos} (hg:Gl X x) (hm:X.mg x=some u) (r:zao v u) (hd:(x == ("__debug__":Str))=false:=by decide):PE X (.Name x pos) (tC v) :=
 fun _ _ _ H _ I h=>zjA I hg hm ⟨v,H,I,r,h⟩ hd
theorem zqK {x:Str} {v:V} {u:Value} {pos:Pos} (hg:Gl X x) (hm:X.mg x=none) (hv:bootBuiltins x=some u) (r:zao v u) (hn:x≠"__name__":=by decide) (hd:(x == ("__debug__":Str))=false:=by decide):PE X (.Name x pos) (tC v) :=
 fun _ _ _ H _ I h=>zfI I hg hm hv ⟨v,H,I,r,h⟩ hn hd
variable {a b:Expr} {ta tb:TE} {pos:Pos}
def tB (t:TE):TT:=fun σ H Q=>t σ H fun x H1=>∃ c,x=.bl c/\Q c H1
theorem zsw {e:Expr} {t:TE} (h:PE X e t) (he:∀ whole,isTrue e X.env whole=(do let v <- whole; standAt e.pos; holding [v] (truthy v)):=by intro _; rfl):PT X e (tB t):=by
 intro pins s σ H Q I hw
 refine isTrue_plain (thn (h pins s σ H _ I hw) fun v s1 ⟨x,H1,I1,r1,q1⟩=>?_) (he _)
 obtain ⟨d,rfl,q⟩:=q1; cases r1; exact wpAny_truthy_bool ⟨H1,I1,q⟩
variable {tA tB':TT} {zdp:List Expr}
def zwq (t u:TT):TT:=fun σ H Q=>t σ H fun c H1=>if c=true then u σ H1 Q else Q false H1
def tOr (t u:TT):TT:=fun σ H Q=>t σ H fun c H1=>if c=true then Q true H1 else u σ H1 Q
theorem zqe (ha:PT X a tA):PW X (.BoolOp .And [a] pos) tA:=by
 intro wh pins s σ H Q I h
 refine isTrue_and (thn (ha pins s σ H Q I h) fun c s1 e=>?_)
 cases c with
 | true=>exact isTrue_and_nil e
 | false=>exact e
theorem zst (ha:PT X a tA):PW X (.BoolOp .Or [a] pos) tA:=by
 intro wh pins s σ H Q I h
 refine isTrue_or (thn (ha pins s σ H Q I h) fun c s1 e=>?_)
 cases c with
 | false=>exact isTrue_or_nil e
 | true=>exact e
theorem zsu (ha:PT X a tA) (hb:PW X (.BoolOp .And (b :: zdp) pos) tB'):PW X (.BoolOp .And (a :: b :: zdp) pos) (zwq tA tB'):=by
 intro wh pins s σ H Q I h
 refine isTrue_and (thn (ha pins s σ H _ I h) fun c s1 ⟨H1,I1,q1⟩=>?_)
 cases c with
 | true=>exact hb wh pins s1 σ H1 Q I1 q1
 | false=>exact ⟨H1,I1,q1⟩
theorem zuU (ha:PT X a tA) (hb:PW X (.BoolOp .Or (b :: zdp) pos) tB'):PW X (.BoolOp .Or (a :: b :: zdp) pos) (tOr tA tB'):=by
 intro wh pins s σ H Q I h
 refine isTrue_or (thn (ha pins s σ H _ I h) fun c s1 ⟨H1,I1,q1⟩=>?_)
 cases c with
 | true=>exact ⟨H1,I1,q1⟩
 | false=>exact hb wh pins s1 σ H1 Q I1 q1
def zuD (ta tb:TE):TE:=fun σ H Q=>ta σ H fun x H1=>∃ c,x=.bl c/\if c=true then tb σ H1 Q else Q (.bl false) H1
def zwj (ta tb:TE):TE:=fun σ H Q=>ta σ H fun x H1=>∃ c,x=.bl c/\if c=true then Q (.bl true) H1 else tb σ H1 Q
def zuv (ta:TE):TE:=fun σ H Q=>ta σ H fun x H1=>∃ c,x=.bl c/\Q (.bl (!c)) H1
theorem zsI {op} {t:TE} (h:PE X a t):PE X (.BoolOp op [a] pos) t:=fun pins s σ H Q I hw=>BoolOp_one (h pins s σ H Q I hw)
theorem zsP (ha:PE X a ta) (hb:PE X (.BoolOp .And (b :: zdp) pos) tb):PE X (.BoolOp .And (a :: b :: zdp) pos) (zuD ta tb):=by
 intro pins s σ H Q I h
 refine BoolOp_and (thn (ha pins s σ H _ I h) fun v s1 ⟨x,H1,I1,r1,q1⟩=>?_)
 obtain ⟨c,rfl,q1⟩:=q1; cases r1; refine wpAny_truthy_bool ?_
 cases c with
 | true=>exact hb pins s1 σ H1 Q I1 q1
 | false=>exact ⟨.bl false,H1,I1,rfl,q1⟩
theorem pe_or (ha:PE X a ta) (hb:PE X (.BoolOp .Or (b :: zdp) pos) tb):PE X (.BoolOp .Or (a :: b :: zdp) pos) (zwj ta tb):=by
 intro pins s σ H Q I h
 refine BoolOp_or (thn (ha pins s σ H _ I h) fun v s1 ⟨x,H1,I1,r1,q1⟩=>?_)
 obtain ⟨c,rfl,q1⟩:=q1; cases r1; refine wpAny_truthy_bool ?_
 cases c with
 | false=>exact hb pins s1 σ H1 Q I1 q1
 | true=>exact ⟨.bl true,H1,I1,rfl,q1⟩
theorem zsJ (ha:PE X a ta):PE X (.UnaryOp .Not a pos) (zuv ta):=by
 intro pins s σ H Q I h
 refine UnaryOp_ (thn (ha pins s σ H _ I h) fun v s1 ⟨x,H1,I1,r1,q1⟩=>?_)
 obtain ⟨c,rfl,q1⟩:=q1; cases r1; exact not_of (wpAny_truthy_bool ⟨.bl (!c),H1,I1,rfl,q1⟩)
def tIf (t:TT) (ta tb:TE):TE:=fun σ H Q=>t σ H fun c H1=>if c=true then ta σ H1 Q else tb σ H1 Q
theorem zoe {c:Expr} (hc:PT X c tA) (ha:PE X a ta) (hb:PE X b tb):PE X (.IfExp c a b pos) (tIf tA ta tb):=by
 intro pins s σ H Q I h
 refine wpAny_IfExp (thn (hc pins s σ H _ I h) fun d s1 ⟨H1,I1,q1⟩=>?_)
 cases d with
 | true=>exact ha pins s1 σ H1 Q I1 q1
 | false=>exact hb pins s1 σ H1 Q I1 q1
end
end L2
namespace L2
open PySem PySem.Spec PyProof.Rows
def SqL (K:W.Frag) (H:Hp) (a:Addr) (xs:List V):Prop :=
 Rd H a (.lst xs) \/
  ∃ (o:Obj) (its:Array Value) (n:Nat),K.lookup a=some o/\o.cls=.type "list"/\o.dict=none/\o.data=.seq its n/\its.size<=sizeLine/\zae xs its.toList
def SqT (K:W.Frag) (H:Hp) (a:Addr) (xs:List V):Prop :=
 Rd H a (.tup xs) \/
  ∃ (o:Obj) (its:Array Value) (n:Nat),K.lookup a=some o/\o.cls=.type "tuple"/\o.data=.seq its n/\its.size<=sizeLine/\zae xs its.toList
def zwN:Value->Option V
 | .none=>some .non
 | .bool b=>some (.bl b)
 | .int i _=>some (.int i)
 | .str x _=>some (.str x)
 | .bytes b _=>some (.byt b)
 | .float b _=>some (.flt b)
 | .ref a=>some (.ref a)
 | .type n=>some (.ty n)
 | _=>none
theorem zao.abs {x:V} {u:Value} (r:zao x u):zwN u=some x:=by
 cases x with
 | non=>cases r; rfl
 | bl _=>cases r; rfl
 | int _=>obtain ⟨t,rfl⟩:=r; rfl
 | str _=>obtain ⟨t,rfl⟩:=r; rfl
 | byt _=>obtain ⟨t,rfl⟩:=r; rfl
 | flt _=>obtain ⟨t,rfl⟩:=r; rfl
 | ref _=>cases r; rfl
 | ty _=>cases r; rfl
theorem zao.inj {x y:V} {u:Value} (r:zao x u) (q:zao y u):x=y:=Option.some.inj (r.abs.symm.trans q.abs)
theorem zae.inj:∀ {xs ys:List V} {us:List Value},zae xs us->zae ys us->xs=ys
 | _,_,_,.nil,.nil=>rfl
 | _,_,_,.cons r t,.cons r' t'=>by rw [r.inj r',zae.inj t t']
section
variable {X:Cx} {pins:List (Addr × Obj)} {σ:St} {H:Hp} {s:Shared} {a:Addr} {xs ys:List V}
theorem SqL.of {K:W.Frag} (h:H a=some (.lst xs)):SqL K H a xs:=.inl (.inl h)
theorem SqT.of {K:W.Frag} (h:H a=some (.tup xs)):SqT K H a xs:=.inl (.inl h)
theorem Inv.list (I:Inv X pins σ H s) (h:SqL X.K H a xs):∃ its:List Value,zae xs its/\PlainL s.heap a its.toArray/\xs.length<=sizeLine:=by
 rcases h with h | ⟨o,its,n,hk,hc,hd,hs,hz,r⟩
 ·obtain ⟨z,its,n,r,e⟩:=h.ok I.hok
  exact ⟨its,r,⟨_,n,e,rfl,rfl,rfl⟩,z⟩
 ·refine ⟨its.toList,r,⟨o,n,I.kIn a o hk,hc,hd,by simpa using hs⟩,?_⟩
  have e:=r.length; simp only [Array.length_toList] at e; omega
theorem Inv.tuple (I:Inv X pins σ H s) (h:SqT X.K H a xs):∃ its:List Value,zae xs its/\IsTup s.heap a its.toArray/\xs.length<=sizeLine:=by
 rcases h with h | ⟨o,its,n,hk,hc,hs,hz,r⟩
 ·obtain ⟨z,its,r,p⟩:=h.ok I.hok
  exact ⟨its,r,p,z⟩
 ·refine ⟨its.toList,r,⟨o,I.kIn a o hk,hc,n,by simpa using hs⟩,?_⟩
  have e:=r.length; simp only [Array.length_toList] at e; omega
theorem Inv.list_inj (I:Inv X pins σ H s) (h:SqL X.K H a xs) (h':SqL X.K H a ys):xs=ys:=by
 obtain ⟨its,r,⟨o,n,e,_,_,d⟩,_⟩:=I.list h
 obtain ⟨its',r',⟨o',n',e',_,_,d'⟩,_⟩:=I.list h'
 rw [e] at e'; cases e'
 rw [d] at d'
 injection d' with d1 _
 have:its=its':=by simpa using congrArg Array.toList d1
 subst this; exact r.inj r'
theorem Inv.tuple_inj (I:Inv X pins σ H s) (h:SqT X.K H a xs) (h':SqT X.K H a ys):xs=ys:=by
 obtain ⟨its,r,⟨o,e,_,n,d⟩,_⟩:=I.tuple h
 obtain ⟨its',r',⟨o',e',_,n',d'⟩,_⟩:=I.tuple h'
 rw [e] at e'; cases e'
 rw [d] at d'
 injection d' with d1 _
 have:its=its':=by simpa using congrArg Array.toList d1
 subst this; exact r.inj r'
end
abbrev Cx.wish (X:Cx) (E:Value->Shared->Prop):Cx:={ X with xe:=E }
abbrev Cx.nox (X:Cx):Cx:=X.wish fun _ _=>False
theorem Cx.Ok.wish {X:Cx} (ok:X.Ok) (E:Value->Shared->Prop):(X.wish E).Ok :=
 ⟨ok.mod,ok.kind,ok.glob,ok.blt,ok.above,ok.inj,ok.has,ok.cab,ok.hd,ok.frames,ok.stk,ok.exf,ok.bs,ok.bsz,ok.noex,ok.exfs,ok.funs,ok.frf,ok.tab⟩
theorem Cx.Ok.unwish {X:Cx} {E:Value->Shared->Prop} (ok:(X.wish E).Ok):X.Ok :=
 ⟨ok.mod,ok.kind,ok.glob,ok.blt,ok.above,ok.inj,ok.has,ok.cab,ok.hd,ok.frames,ok.stk,ok.exf,ok.bs,ok.bsz,ok.noex,ok.exfs,ok.funs,ok.frf,ok.tab⟩
section
variable {X:Cx} {pins:List (Addr × Obj)} {σ:St} {H:Hp} {s:Shared} {E:Value->Shared->Prop}
theorem Inv.wish (I:Inv X pins σ H s) (E:Value->Shared->Prop):Inv (X.wish E) pins σ H s:=⟨I.ok.wish E,I.os,I.bare,I.base,I.loc,I.cell,I.free,I.freeC,I.pin,I.hok,I.len⟩
theorem Inv.unwish (I:Inv (X.wish E) pins σ H s):Inv X pins σ H s:=⟨I.ok.unwish,I.os,I.bare,I.base,I.loc,I.cell,I.free,I.freeC,I.pin,I.hok,I.len⟩
theorem SP.unwish {D:Ends} {f:Flow} {s':Shared} (h:SP (X.wish E) pins D f s'):SP X pins D f s':=by
 cases f with
 | next=>obtain ⟨σ',H',I,q⟩:=h; exact ⟨σ',H',I.unwish,q⟩
 | brk=>obtain ⟨σ',H',I,q⟩:=h; exact ⟨σ',H',I.unwish,q⟩
 | cont=>obtain ⟨σ',H',I,q⟩:=h; exact ⟨σ',H',I.unwish,q⟩
 | ret u=>obtain ⟨v,σ',H',I,r,q⟩:=h; exact ⟨v,σ',H',I.unwish,r,q⟩
theorem PE.nox {e:Expr} {t:TE} (h:PE X.nox e t):PE X e t:=fun pins s σ H Q I hw =>
 wpAny_mono (h pins s σ H Q (I.wish _) hw) (fun _ _ ⟨v,H',I',r,q⟩=>⟨v,H',I'.unwish,r,q⟩) fun _ _ z=>False.elim z
theorem PSs.nox {st:List Stmt} {t:TS} (h:PSs X.nox st t):PSs X st t:=fun pins s σ H D I hw =>
 wpAny_mono (h pins s σ H D (I.wish _) hw) (fun _ _ q=>q.unwish) fun _ _ z=>False.elim z
end
section
variable {X:Cx} {st:Stmt} {zdp:List Stmt} {t u:TS} {e:Expr} {te:TE} {pos:Pos}
def zuw:TS:=fun D σ H=>D.nx σ H
def zwh (t u:TS):TS:=fun D σ H=>t { D with nx:=u D } σ H
theorem zqk:PSs X [] zuw:=fun _ _ σ H _ I h=>wpAny_execs_nil ⟨σ,H,I,h⟩
theorem zdW (h1:PS X st t) (h2:PSs X zdp u):PSs X (st :: zdp) (zwh t u):=by
 intro pins s σ H D I h
 refine wpAny_execs_cons (thn (h1 pins s σ H { D with nx:=u D } I h) fun f s1 q=>?_)
 cases f with
 | next =>
  obtain ⟨σ',H',I',q⟩:=q; exact h2 pins s1 σ' H' D I' q
 | ret v=>exact q
 | brk=>exact q
 | cont=>exact q
theorem zes (h1:PS X st t):PSs X [st] t:=by
 intro pins s σ H D I h
 refine wpAny_execs_cons (thn (h1 pins s σ H D I h) fun f s1 q=>?_)
 cases f with
 | next=>exact wpAny_execs_nil q
 | ret v=>exact q
 | brk=>exact q
 | cont=>exact q
theorem Inv.quiet {pins:List (Addr × Obj)} {σ:St} {H:Hp} {s:Shared} (I:Inv X pins σ H s):interactive X.env=false:=by simp [interactive,I.ok.kind]
def zuB (te:TE):TS:=fun D σ H=>te σ H fun _ H1=>D.nx σ H1
theorem zjk (he:PE X e te) (hs:swapsWith e none pos.line X.env=pure false:=by rfl):PS X (.Expr e pos) (zuB te):=by
 intro pins s σ H D I h
 exact wpAny_Expr_any (thn (he pins s σ H _ I h) fun v s1 ⟨x,H1,I1,r1,q1⟩=>⟨σ,H1,I1,q1⟩) I.quiet hs
def zwi (te:TE):TS:=fun D σ H=>te σ H D.rt
theorem zmb (he:PE X e te):PS X (.Return (some e) pos) (zwi te):=by
 intro pins s σ H D I h
 exact wpAny_Return_some (thn (he pins s σ H _ I h) fun v s1 ⟨x,H1,I1,r1,q1⟩=>⟨x,σ,H1,I1,r1,q1⟩)
def zwm (c:TT) (t u:TS):TS:=fun D σ H=>c σ H fun b H1=>if b=true then t D σ H1 else u D σ H1
theorem zuV {c:Expr} {a b:List Stmt} {tc:TT} (hc:PT X c tc) (ha:PSs X a t) (hb:PSs X b u):PS X (.If c a b pos) (zwm tc t u):=by
 intro pins s σ H D I h
 refine wpAny_If (thn (hc pins s σ H _ I h) fun d s1 ⟨H1,I1,q1⟩=>?_)
 cases d with
 | true=>exact ha pins s1 σ H1 D I1 q1
 | false=>exact hb pins s1 σ H1 D I1 q1
end
abbrev TG:=V->St->Hp->(St->Hp->Prop)->Prop
abbrev TGs:=List V->St->Hp->(St->Hp->Prop)->Prop
def PG (X:Cx) (target:Expr) (t:TG):Prop :=
 ∀ (pins:List (Addr × Obj)) (s:Shared) (σ:St) (H:Hp) (v:V) (u:Value) (Q:St->Hp->Prop),Inv X pins σ H s->zao v u->t v σ H Q ->
  wpAny (model X.prog X.w) X.A (assign target X.env u) (fun _ s'=>∃ σ' H',Inv X pins σ' H' s'/\Q σ' H') X.xe s
def PGs (X:Cx) (ts:List Expr) (t:TGs):Prop :=
 ∀ (pins:List (Addr × Obj)) (s:Shared) (σ:St) (H:Hp) (vs:List V) (us:List Value) (Q:St->Hp->Prop),Inv X pins σ H s->zae vs us->t vs σ H Q ->
  wpAny (model X.prog X.w) X.A (assignInOrder ((assignEach ts X.env).map (·.2)) us) (fun _ s'=>∃ σ' H',Inv X pins σ' H' s'/\Q σ' H') X.xe s
abbrev TIp:=V->V->Hp->VK->Prop
def PIp (X:Cx) (op:Operator) (t:TIp):Prop :=
 ∀ (pins:List (Addr × Obj)) (s:Shared) (σ:St) (H:Hp) (x y:V) (v u:Value) (Q:VK),Inv X pins σ H s->zao x v->zao y u->t x y H Q ->
  wpAny (model X.prog X.w) X.A (inplaceOp op v u) (EP X pins σ Q) X.xe s
section
variable {X:Cx} {pos:Pos}
def zto (i:Nat):TG:=fun v σ H Q=>Q (σ.set i (some v)) H
theorem zqx {i:Nat} {x:Str} (hN:X.N.Nodup) (hi:X.N[i]?=some x) (hx:Loc X.env.scope x) (hf:X.fn x=true\/X.env.scope.names.lookup x=some .local:=by first | exact .inl rfl | exact .inr rfl | assumption):PG X (.Name x pos) (zto i):=by
 intro pins s σ H v u Q I r h
 exact wpAny_assign_Name (zgQ I hN hi hx r (fun s' I'=>⟨_,H,I',h⟩) hf)
def zwF:TGs:=fun vs σ H Q=>vs=[]/\Q σ H
def zvo (t:TG) (u:TGs):TGs:=fun vs σ H Q=>∃ v r,vs=v :: r/\t v σ H fun σ' H'=>u r σ' H' Q
theorem zqv:PGs X [] zwF:=by
 intro pins s σ H vs us Q I r h; obtain ⟨e,h⟩:=h; subst e; cases r; exact assignInOrder_nil ⟨σ,H,I,h⟩
theorem zob {e:Expr} {es:List Expr} {t:TG} {u:TGs} (h1:PG X e t) (h2:PGs X es u)
  (hs:(assignEach (e :: es) X.env).map (·.2)=assign e X.env :: (assignEach es X.env).map (·.2):=by rfl):PGs X (e :: es) (zvo t u):=by
 intro pins s σ H vs us Q I r h; obtain ⟨v,vr,e1,h⟩:=h; subst e1
 cases r with
 | cons r rr =>
  rw [hs]
  refine assignInOrder_cons (thn (h1 pins s σ H _ _ _ I r h) fun _ s1 ⟨σ1,H1,I1,q1⟩=>?_)
  exact h2 pins s1 σ1 H1 _ _ Q I1 rr q1
def zwE (K:W.Frag) (n:Nat) (t:TGs):TG:=fun v σ H Q=>∃ a xs,v=.ref a/\SqT K H a xs/\xs.length=n/\t xs σ H Q
theorem zsC {es:List Expr} {k:Nat} {t:TGs} {n:Nat} (hc:X.calm=true) (h:PGs X es t)
  (hn:(assignEach es X.env).length=n:=by rfl) (hst:(assignEach es X.env).findIdx? (·.1)=none:=by rfl):PG X (.Tuple es k pos) (zwE X.K n t):=by
 intro pins s σ H v u Q I r hw; obtain ⟨a,xs,e1,hq,hl,hw⟩:=hw; subst e1; cases r; obtain ⟨its,rv,ht,hz⟩:=I.tuple hq
 refine assign_Tuple_tuple (I.ok.hd hc) ht (by simp [hn,<- hl,rv.length]) hst fun h' hx=>?_
 have I1:Inv X pins σ H { s with heap:=h' }:=I.kept (t':=s.toks) fun b o e=>hx b o (Nat.ne_of_lt (Heap.lt_size e)) e
 exact h pins _ σ H xs _ Q I1 (by simpa using rv) hw
def zwp (te:TE) (g:TG):TS:=fun D σ H=>te σ H fun x H1=>g x σ H1 D.nx
theorem zpk {i:Nat} {x:Str} {e:Expr} {te:TE} {pos':Pos} (hN:X.N.Nodup) (hi:X.N[i]?=some x) (hx:Loc X.env.scope x) (he:PE X e te) (hs:swapsWith e (some (.Name x pos')) pos.line X.env=pure false:=by rfl) (hf:X.fn x=true\/X.env.scope.names.lookup x=some .local:=by first | exact .inl rfl | exact .inr rfl | assumption) :
  PS X (.Assign [.Name x pos'] e pos) (zwp te (zto i)):=by
 intro pins s σ H D I h
 refine wpAny_Assign_Name (thn (he pins s σ H _ I h) fun v s1 ⟨y,H1,I1,r1,q1⟩=>?_) hs
 exact zgQ I1 hN hi hx r1 (fun s2 I2=>⟨_,H1,I2,q1⟩) hf
def zwo (i:Nat) (te:TE) (ti:TIp):TS:=fun D σ H=>∃ x,σ[i]?=some (some x)/\te σ H fun y H1=>ti x y H1 fun z H2=>D.nx (σ.set i (some z)) H2
theorem zsy {i:Nat} {x:Str} {e:Expr} {te:TE} {op:Operator} {ti:TIp} {pos':Pos} (hN:X.N.Nodup) (hi:X.N[i]?=some x) (hx:Loc X.env.scope x) (he:PE X e te) (ho:PIp X op ti) (hf:X.fn x=true\/X.env.scope.names.lookup x=some .local:=by first | exact .inl rfl | exact .inr rfl | assumption) :
  PS X (.AugAssign (.Name x pos') op e pos) (zwo i te ti):=by
 intro pins s σ H D I h; obtain ⟨v,e1,h⟩:=h; obtain ⟨m,hn,hl⟩:=I.loc
 have vis:Vis X.env.scope x:=by rcases hx with k | k; exact .inl k; exact .inr (.inl k)
 obtain ⟨u,r,l⟩:=hl i x v hi e1 vis; refine wpAny_AugAssign_Name ?_
 have go:wpAny (model X.prog X.w) X.A (eval e X.env) (fun w s₂=>wpAny (model X.prog X.w) X.A (inplaceOp op u w) (fun r s₃=>wpAny (model X.prog X.w) X.A (storeName X.env x r) (fun _=>SP X pins D .next) X.xe s₃) X.xe s₂) X.xe s:=by
  refine thn (he pins s σ H _ I h) fun w s1 ⟨y,H1,I1,r1,q1⟩=>?_
  refine thn (ho pins s1 σ H1 v y u w _ I1 r r1 q1) fun z s2 ⟨zv,H2,I2,r2,q2⟩=>?_
  exact zgQ I2 hN hi hx r2 (fun s3 I3=>⟨_,H2,I3,q2⟩) hf
 rcases l with ⟨hk,hm⟩ | ⟨hk,c,hc,hcell⟩
 ·exact wpAny_loadName_local I.ok.kind hk hn hm go
 ·rcases hk with hk | hk
  ·exact wpAny_loadName_cell I.ok.kind hk hc hcell go
  ·rcases hx with k | k
   ·have:X.env.scope.names.lookup x=some .free:=hk
    rw [k] at this; cases this
   ·have:X.env.scope.names.lookup x=some .free:=hk
    rw [k] at this; cases this
end
section
variable {X:Cx} {pos:Pos}
def zrS (c:TT) (tb:TS):TS:=fun D σ H=>∃ W:Nat->St->Hp->Prop,(∃ m,W m σ H)/\∀ m σ H,W m σ H ->
 c σ H fun b H1=>if b=true then ∃ N:St->Hp->Prop,(∀ σ' H',N σ' H'->∃ m',m'<m/\W m' σ' H')/\tb { D with nx:=N,ct:=N,bk:=D.nx } σ H1 else D.nx σ H1
theorem znX {c:Expr} {body:List Stmt} {tc:TT} {tb:TS} (hp:PassesOwn (model X.prog X.w) X.A X.env X.xe) (hc:PT X c tc) (hb:PSs X body tb):PS X (.While c body [] pos) (zrS tc tb):=by
 intro pins s σ H D I h
 obtain ⟨W,⟨m0,w0⟩,turn⟩:=h
 refine wpAny_While (codeAny_whileLoop (fun n s'=>∃ σ' H',Inv X pins σ' H' s'/\W n σ' H') ?_ m0 ⟨σ,H,I,w0⟩)
 rintro n s1 ⟨σ1,H1,I1,w1⟩
 refine wpAny_passesOwn hp (thn (hc pins s1 σ1 H1 _ I1 (turn n σ1 H1 w1)) fun b s2 ⟨H2,I2,q2⟩=>?_)
 cases b with
 | true =>
  obtain ⟨N,hN,q2⟩:=q2; rw [if_pos rfl]
  refine wpAny_passesOwn hp (thn (hb pins s2 σ1 H2 _ I2 q2) fun f s3 q3=>?_)
  cases f with
  | next =>
   obtain ⟨σ3,H3,I3,n3⟩:=q3; obtain ⟨m',hm,w3⟩:=hN σ3 H3 n3; exact ⟨m',hm,σ3,H3,I3,w3⟩
  | cont =>
   obtain ⟨σ3,H3,I3,n3⟩:=q3; obtain ⟨m',hm,w3⟩:=hN σ3 H3 n3; exact ⟨m',hm,σ3,H3,I3,w3⟩
  | brk=>exact q3
  | ret v=>exact q3
 | false =>
  rw [if_neg Bool.false_ne_true]; exact wpAny_execs_nil ⟨σ1,H2,I2,q2⟩
end
structure It where
 go:Nat->Hp->Prop
 yld:Nat->Hp->V->Hp->Prop
 stop:Nat->Hp->Prop
def zhD (X:Cx) (pins:List (Addr × Obj)) (H:Hp) (b:Addr):Prop :=
 H b=none/\b≠X.env.locals/\b ∉ X.fs/\(b ∈ X.ex\/X.s₀.heap.objs.size<=b)/\(∀ x c,X.env.cells.lookup x=some c->c≠b)/\∀ p ∈ X.pn ++ pins,p.1≠b
theorem Inv.fpOk {X:Cx} {pins:List (Addr × Obj)} {σ:St} {H H':Hp} {s:Shared} {b:Addr} (I:Inv X pins σ H s) (hb:s.heap.objs.size<=b) (hn:H' b=none):zhD X pins H' b:=by
 refine ⟨hn,Nat.ne_of_gt (Nat.lt_of_lt_of_le I.lt hb),I.nofs hb,.inr (Nat.le_trans I.sz hb),fun x c e z=>?_,fun p hp z=>?_⟩
 ·obtain ⟨v,q⟩:=I.cell x c e
  exact absurd (Nat.lt_of_lt_of_le q.lt (by rw [z]; exact hb)) (Nat.lt_irrefl _)
 ·exact absurd (Nat.lt_of_lt_of_le (Heap.lt_size (I.pin p hp).1) (by rw [z]; exact hb)) (Nat.lt_irrefl _)
structure Turn (P:Program) (w:World) (K:W.Frag) (tg:Expr) (J:It) (fp:List Addr) (it:Addr) (tn:Nat->Heap->Prop):Prop where
 mem:it ∈ fp
 obj:∀ i h,tn i h->∀ b ∈ fp,∃ o,h.get? b=some o/\∀ v,o.data≠.cell v
 keep:∀ i h h',tn i h->(∀ b ∈ fp,∀ o,h.get? b=some o->h'.get? b=some o)->tn i h'
 item:∀ (X:Cx),X.prog=P->X.w=w->X.K=K->X.calm=true->∀ (i:Nat) (pins:List (Addr × Obj)) (s:Shared) (σ:St) (H:Hp) (E:Value->Shared->Prop),Inv X pins σ H s->(∀ b ∈ fp,zhD X pins H b)->tn i s.heap->J.go i H ->
  wpAny (model P w) X.A (pyNext (.ref it)) (fun r s1=>∃ u,r=some u /\
   wpAny (model P w) X.A (letOwnedTupleGo tg (.ref it) u) (fun _ s2=>∃ x H',Inv X pins σ H' s2/\zao x u/\J.yld i H x H'/\tn (i+1) s2.heap/\∀ b ∈ fp,H' b=none) E s1) E s
 done:∀ (X:Cx),X.prog=P->X.w=w->X.K=K->X.calm=true->∀ (i:Nat) (pins:List (Addr × Obj)) (s:Shared) (σ:St) (H:Hp) (E:Value->Shared->Prop),Inv X pins σ H s->(∀ b ∈ fp,zhD X pins H b)->tn i s.heap->J.stop i H ->
  wpAny (model P w) X.A (pyNext (.ref it)) (fun r s1=>r=none/\Inv X pins σ H s1) E s
 self:∀ (A:Around) (i:Nat) (s:Shared) (Q:Value->Shared->Prop) (E:Value->Shared->Prop),tn i s.heap->Q (.ref it) s->wpAny (model P w) A (pyIter (.ref it)) Q E s
abbrev TI:=St->Hp->(It->Hp->Prop)->Prop
def PIE (X:Cx) (pins:List (Addr × Obj)) (σ:St) (tg:Expr) (R:It->Hp->Prop) (itv:Value) (s2:Shared):Prop :=
 ∃ (it:Addr) (fp:List Addr) (tn:Nat->Heap->Prop) (J:It) (H':Hp),itv=.ref it/\Inv X pins σ H' s2/\Turn X.prog X.w X.K tg J fp it tn/\tn 0 s2.heap/\(∀ b ∈ fp,zhD X pins H' b)/\R J H'
def PI (X:Cx) (tg iter:Expr) (wi:TI):Prop :=
 ∀ (pins:List (Addr × Obj)) (s:Shared) (σ:St) (H:Hp) (R:It->Hp->Prop),Inv X pins σ H s->wi σ H R ->
  wpAny (model X.prog X.w) X.A (eval iter X.env) (fun v s1=>wpAny (model X.prog X.w) X.A (pyIter v) (PIE X pins σ tg R) X.xe s1) X.xe s
theorem zll {M:Model} {A:Around} {E:Value->Shared->Prop} {s:Shared} {tg:Expr} {it:Addr} {u:Value} {o:Obj} {n:String} {vs:Array Value} {Q:Unit->Shared->Prop} (ho:s.heap.get? it=some o) (hc:o.cls=.type n) (hd:o.data=.fields vs)
    (hn:["enumerate","zip","dict_itemiterator","dict_reverseitemiterator","odict_iterator","itertools.zip_longest","itertools.pairwise"].contains n=false) (hQ:Q () s):wpAny M A (letOwnedTupleGo tg (.ref it) u) Q E s:=by
  unfold letOwnedTupleGo
  cases tg <;> first
    | exact wpAny_pure hQ
    | (cases u <;> first
        | exact wpAny_pure hQ
        | (refine wpAny_bind (wpAny_load ho ?_)
           rw [hc,hd]
           show wpAny M A (if (["enumerate","zip","dict_itemiterator","dict_reverseitemiterator","odict_iterator","itertools.zip_longest","itertools.pairwise"].contains n && vs[0]? == some (rawInt _))=true then _ else _) Q E s
           rw [if_neg (by intro h; rw [hn,Bool.false_and] at h; cases h)]
           exact wpAny_pure hQ))
def Itl (K:W.Frag) (a:Addr):It :=
 ⟨fun i H=>∃ xs x,SqL K H a xs/\xs[i]?=some x,fun i H x H'=>H'=H/\∀ xs,SqL K H a xs->xs[i]?=some x,fun i H=>∃ xs,SqL K H a xs/\xs.length<=i⟩
def Itt (K:W.Frag) (a:Addr):It :=
 ⟨fun i H=>∃ xs x,SqT K H a xs/\xs[i]?=some x,fun i H x H'=>H'=H/\∀ xs,SqT K H a xs->xs[i]?=some x,fun i H=>∃ xs,SqT K H a xs/\xs.length<=i⟩
def Itr (lo:Int) (n:Nat):It:=⟨fun i _=>i<n,fun i H x H'=>H'=H/\x=.int (lo+i),fun i _=>n<=i⟩
theorem zlG {P:Program} {w:World} {K:W.Frag} {tg:Expr} (a it:Addr):Turn P w K tg (Itl K a) [it] it (fun i h=>h.IsListIter it a i) where
 mem:=by simp
 obj:=fun i h st b hb=>by
  have e:b=it:=by simpa using hb
  subst e; obtain ⟨o,e,c,d⟩:=st
  exact ⟨o,e,fun v z=>by rw [d] at z; cases z⟩
 keep:=fun i h h' st k=>st.at fun o e=>k it (by simp) o e
 item:=by
  intro X hP hw hK hc i pins s σ H E I hf st hg
  subst hP hw hK
  obtain ⟨xs,x,hq,hx⟩:=hg; obtain ⟨its,rv,p,hz⟩:=I.list hq; obtain ⟨u,hu,ru⟩:=rv.get hx
  obtain ⟨f0,f1,f2,f3,f4,f5⟩:=hf it (by simp)
  refine wpAny_pyNext_list_item st p.isList (x:=u) (by simpa using hu) fun h' st' sb=>?_
  have I1:Inv X pins σ H { s with heap:=h' }:=I.turned (t':=s.toks) (fun b o hb e=>(sb.2 b hb).trans e) f0 f1 f3 f4 f5
  obtain ⟨o,e,c,d⟩:=id st'
  exact ⟨u,rfl,zll (s:={ s with heap:=h' }) e c d (by decide) ⟨x,H,I1,ru,⟨rfl,fun ys hy=>by rw [I.list_inj hy hq]; exact hx⟩,st',fun b hb=>(hf b hb).1⟩⟩
 done:=by
  intro X hP hw hK hc i pins s σ H E I hf st hg
  subst hP hw hK
  obtain ⟨xs,hq,hx⟩:=hg; obtain ⟨its,rv,p,hz⟩:=I.list hq
  obtain ⟨f0,f1,f2,f3,f4,f5⟩:=hf it (by simp)
  have hl:=rv.length
  exact wpAny_pyNext_list_end (I.ok.hd hc) st p.isList (by simp; omega) fun h' eb=>⟨rfl,I.turned (t':=s.toks) (fun b o hb e=>eb b o hb e) f0 f1 f3 f4 f5⟩
 self:=fun _ _ _ _ _ st h=>wpAny_pyIter_listiter st h
theorem zkN {P:Program} {w:World} {K:W.Frag} {tg:Expr} (a it:Addr):Turn P w K tg (Itt K a) [it] it (fun i h=>h.IsTupleIter it a i) where
 mem:=by simp
 obj:=fun i h st b hb=>by
  have e:b=it:=by simpa using hb
  subst e; obtain ⟨o,e,c,d⟩:=st
  exact ⟨o,e,fun v z=>by rw [d] at z; cases z⟩
 keep:=fun i h h' st k=>st.at fun o e=>k it (by simp) o e
 item:=by
  intro X hP hw hK hc i pins s σ H E I hf st hg
  subst hP hw hK
  obtain ⟨xs,x,hq,hx⟩:=hg; obtain ⟨its,rv,p,hz⟩:=I.tuple hq; obtain ⟨u,hu,ru⟩:=rv.get hx
  obtain ⟨f0,f1,f2,f3,f4,f5⟩:=hf it (by simp)
  refine wpAny_pyNext_tuple_item st (show s.heap.IsTuple a its.toArray from p) (x:=u) (by simpa using hu) fun h' st' sb=>?_
  have I1:Inv X pins σ H { s with heap:=h' }:=I.turned (t':=s.toks) (fun b o hb e=>(sb.2 b hb).trans e) f0 f1 f3 f4 f5
  obtain ⟨o,e,c,d⟩:=id st'
  exact ⟨u,rfl,zll (s:={ s with heap:=h' }) e c d (by decide) ⟨x,H,I1,ru,⟨rfl,fun ys hy=>by rw [I.tuple_inj hy hq]; exact hx⟩,st',fun b hb=>(hf b hb).1⟩⟩
 done:=by
  intro X hP hw hK hc i pins s σ H E I hf st hg
  subst hP hw hK
  obtain ⟨xs,hq,hx⟩:=hg; obtain ⟨its,rv,p,hz⟩:=I.tuple hq
  obtain ⟨f0,f1,f2,f3,f4,f5⟩:=hf it (by simp)
  have hl:=rv.length
  exact wpAny_pyNext_tuple_end (I.ok.hd hc) st (show s.heap.IsTuple a its.toArray from p) (by simp; omega) fun h' eb=>⟨rfl,I.turned (t':=s.toks) (fun b o hb e=>eb b o hb e) f0 f1 f3 f4 f5⟩
 self:=fun _ _ _ _ _ st h=>wpAny_pyIter_tupleiter st h
theorem zkO {P:Program} {w:World} {K:W.Frag} {tg:Expr} (it:Addr) (lo:Int) (n:Nat):Turn P w K tg (Itr lo n) [it] it (fun i h=>IsRangeIter h it (lo+(i:Nat) * 1) ((n:Int)-(i:Nat)) 1) where
 mem:=by simp
 obj:=fun i h st b hb=>by
  have e:b=it:=by simpa using hb
  subst e
  exact ⟨_,st,fun v z=>by
   have z':Data.fields _=Data.cell v:=z
   cases z'⟩
 keep:=fun i h h' st k=>k it (by simp) _ st
 item:=by
  intro X hP hw hK hc i pins s σ H E I hf st hg
  subst hP hw hK
  obtain ⟨f0,f1,f2,f3,f4,f5⟩:=hf it (by simp)
  have W:=Walks.range (prog:=X.prog) (w:=X.w) (I.ok.hd hc) it lo 1 n
  refine W.item i s _ _ hg st fun v h' tk hv st' kk=>?_
  obtain ⟨t,rfl⟩:=hv
  have I1:Inv X pins σ H { s with heap:=h',toks:=tk }:=I.turned (fun b o hb e=>kk b o (by simpa using hb) e) f0 f1 f3 f4 f5
  refine ⟨_,rfl,zll (s:={ s with heap:=h',toks:=tk }) (n:="range_iterator") st' rfl rfl (by decide) ⟨.int (lo+i),H,I1,⟨t,?_⟩,⟨rfl,rfl⟩,st',fun b hb=>(hf b hb).1⟩⟩
  rw [Int.mul_one]
 done:=by
  intro X hP hw hK hc i pins s σ H E I hf st hg
  subst hP hw hK
  obtain ⟨f0,f1,f2,f3,f4,f5⟩:=hf it (by simp)
  exact wpAny_pyNext_range_end (I.ok.hd hc) st (by have:n<=i:=hg; omega) fun h' eb=>⟨rfl,I.turned (t':=s.toks) (fun b o hb e=>eb b o hb e) f0 f1 f3 f4 f5⟩
 self:=fun _ _ _ _ _ st h=>wpAny_pyIter_rangeiter st h
end L2
namespace L2
open PySem PySem.Spec PyProof.Rows
section
variable {X:Cx} {tg:Expr}
theorem znP {pins:List (Addr × Obj)} {σ:St} {H:Hp} {s:Shared} {R:It->Hp->Prop} {E:Value->Shared->Prop} {lo hi:Int} {t u v:Tok} {tk:Nat} (I:Inv X pins σ H s) (h1:-(2 ^ 62)<=lo) (h2:lo<2 ^ 62) (h3:-(2 ^ 62)<=hi) (h4:hi<2 ^ 62)
  (q:R (Itr lo (hi-lo).toNat) H):wpAny (model X.prog X.w) X.A (pyIter (.ref s.heap.objs.size)) (PIE X pins σ tg R) E { s with heap:=s.heap.push { cls:=.type "range",data:=.fields #[.int lo t,.int hi u,.int 1 v] },toks:=tk }:=by
 refine wpAny_pyIter_range (IsRange.new ..) (small_one h1 h2 h3 h4) ?_
 have I1:Inv X pins σ H { s with heap:=s.heap.push { cls:=.type "range",data:=.fields #[.int lo t,.int hi u,.int 1 v] },toks:=tk }:=I.kept fun b o e=>Heap.get?_push_of_some _ e
 refine ⟨(s.heap.push { cls:=.type "range",data:=.fields #[.int lo t,.int hi u,.int 1 v] }).objs.size,[(s.heap.push { cls:=.type "range",data:=.fields #[.int lo t,.int hi u,.int 1 v] }).objs.size],_,_,H,rfl,
  I1.kept (t':=tk) fun b o e=>Heap.get?_push_of_some _ e,zkO _ lo (hi-lo).toNat,?_,fun b hb=>?_,q⟩
 ·have e1:lo+((0:Nat):Int) * 1=lo:=by simp
  have e2:(((hi-lo).toNat:Nat):Int)-((0:Nat):Int)=Builtin.Range.rangeSize lo hi 1:=by rw [rangeSize_one]; split <;> omega
  show IsRangeIter _ _ (lo+((0:Nat):Int) * 1) ((((hi-lo).toNat:Nat):Int)-((0:Nat):Int)) 1
  rw [e1,e2]; exact Heap.get?_push_size _ rfl
 ·have e:b=(s.heap.push { cls:=.type "range",data:=.fields #[.int lo t,.int hi u,.int 1 v] }).objs.size:=by simpa using hb
  subst e; exact I1.fpOk (Nat.le_refl _) (I1.hok.fresh (Nat.le_refl _))
def zvm (ta:TA):TI:=fun σ H R=>ta σ H fun vs H1=>∃ j:Int,vs=[.int j]/\-(2 ^ 62)<=j/\j<2 ^ 62/\R (Itr 0 j.toNat) H1
theorem zmh {a:Expr} {ta:TA} {p pos:Pos} (hg:Gl X "range") (hm:X.mg "range"=none) (ha:PA X [a] ta) (hs:starEach [a] X.env=[(false,eval a X.env)]:=by rfl):PI X tg (.Call (.Name "range" p) [a] [] pos) (zvm ta):=by
 intro pins s σ H R I h
 refine Call_ (zfI I hg hm boot_range (PyProof.Rows.callWith_type1 (thn (ha pos pins s σ H _ I h) fun us s1 ⟨vs,H1,I1,r1,q1⟩=>?_) hs rfl))
 obtain ⟨j,e,q1,q2,q⟩:=q1; subst e
 cases r1 with
 | cons r rr =>
  cases rr; obtain ⟨t,rfl⟩:=r
  exact call_range_1 (znP I1 (by omega) (by omega) q1 q2 (by simpa using q))
def zwn (wi:TI) (g:TG) (tb:TS):TS:=fun D σ H=>wi σ H fun J H1=>∃ W:Nat->Nat->St->Hp->Prop,(∃ m,W 0 m σ H1)/\∀ i m σ H,W i m σ H ->
 (J.stop i H/\D.nx σ H)\/(J.go i H/\∃ N:St->Hp->Prop,(∀ σ' H',N σ' H'->∃ m',m'<m/\W (i+1) m' σ' H')/\∀ x H',J.yld i H x H'->g x σ H' fun σ2 H2=>tb { D with nx:=N,ct:=N,bk:=D.nx } σ2 H2)
def zgw (fp:List Addr) (h:Heap):List (Addr × Obj):=fp.filterMap fun b=>(h.get? b).map fun o=>(b,o)
theorem zc4 {fp:List Addr} {h:Heap} {b:Addr} {o:Obj} (hb:b ∈ fp) (e:h.get? b=some o):(b,o) ∈ zgw fp h:=List.mem_filterMap.mpr ⟨b,hb,by rw [e]; rfl⟩
theorem zmq {fp:List Addr} {h:Heap} {p:Addr × Obj} (hp:p ∈ zgw fp h):p.1 ∈ fp/\h.get? p.1=some p.2:=by
 obtain ⟨b,hb,e⟩:=List.mem_filterMap.mp hp
 cases q:h.get? b with
 | none=>rw [q] at e; cases e
 | some o =>
  rw [q] at e
  have e':(b,o)=p:=Option.some.inj e
  subst e'
  exact ⟨hb,q⟩
theorem Inv.pinned {pins:List (Addr × Obj)} {σ:St} {H:Hp} {s:Shared} {fp:List Addr} (I:Inv X pins σ H s) (hf:∀ b ∈ fp,zhD X pins H b) (ho:∀ b ∈ fp,∃ o,s.heap.get? b=some o/\∀ v,o.data≠.cell v):Inv X (pins ++ zgw fp s.heap) σ H s :=
 I.pins_of fun p hp=>(List.mem_append.mp hp).elim (fun z=>I.pin p (List.mem_append_right _ z)) fun z=>by
  obtain ⟨hb,e⟩:=zmq z; obtain ⟨f0,f1,f2,_⟩:=hf p.1 hb; obtain ⟨o,e',d⟩:=ho p.1 hb
  rw [e] at e'; cases e'
  exact ⟨e,f0,f1,f2,d⟩
theorem Inv.unpinned {pins pl:List (Addr × Obj)} {σ:St} {H:Hp} {s:Shared} (I:Inv X (pins ++ pl) σ H s):Inv X pins σ H s:=I.pins_of fun p hp=>I.pin p (List.mem_append_right _ (List.mem_append_left _ hp))
theorem zsx {iter:Expr} {body:List Stmt} {wi:TI} {g:TG} {tb:TS} {pos:Pos} (hp:PassesOwn (model X.prog X.w) X.A X.env X.xe) (hc:X.calm=true) (hi:PI X tg iter wi) (hg:PG X tg g) (hb:PSs X body tb)
  (hs:∀ x,foldedSetIterable iter X.env x=pure x:=by intro _; rfl):PS X (.For tg iter body [] pos) (zwn wi g tb):=by
 intro pins s σ H D I h
 refine wpAny_For (thn (hi pins s σ H _ I h) fun v s1 h1=>thn h1 fun itv s2 h2=>?_) hs
 obtain ⟨it,fp,tn,J,H2,e,I2,T,st2,f2,W,⟨m0,w0⟩,turn⟩:=h2
 subst e
 -- what stays true of the iterator's objects through the loop
 have stat:∀ {H':Hp},(∀ b ∈ fp,H' b=none)->∀ b ∈ fp,zhD X pins H' b:=fun hn b hb=>⟨hn b hb,(f2 b hb).2⟩
 refine codeAny_forLoop_any (fun n s'=>∃ i σ' H',Inv X pins σ' H' s'/\tn i s'.heap/\(∀ b ∈ fp,H' b=none)/\W i n σ' H') ?_ m0 ⟨0,σ,H2,I2,st2,fun b hb=>(f2 b hb).1,w0⟩
 rintro n s3 ⟨i,σ3,H3,I3,st3,fr3,w3⟩
 rcases turn i n σ3 H3 w3 with ⟨stop,qn⟩ | ⟨go,N,hN,step⟩
 ·refine wpAny_passesOwn hp (thn (T.done X rfl rfl rfl hc i pins s3 σ3 H3 X.xe I3 (stat fr3) st3 stop) fun r s4 ⟨hr,I4⟩=>?_)
  subst hr; exact wpAny_execs_nil ⟨σ3,H3,I4,qn⟩
 ·refine wpAny_passesOwn hp (thn (T.item X rfl rfl rfl hc i pins s3 σ3 H3 X.xe I3 (stat fr3) st3 go) fun r s4 ⟨u,hr,h4⟩=>?_)
  subst hr
  refine wpAny_passesOwn hp (thn h4 fun _ s5 ⟨x,H5,I5,r5,y5,st5,fr5⟩=>?_)
  have I5':=I5.pinned (stat fr5) (T.obj _ _ st5)
  refine wpAny_passesOwn hp (thn (hg _ s5 σ3 H5 x u _ I5' r5 (step x H5 y5)) fun _ s6 ⟨σ6,H6,I6,q6⟩=>?_)
  refine wpAny_passesOwn hp (thn (hb _ s6 σ6 H6 _ I6 q6) fun f s7 q7=>?_)
  have again:∀ {σ7:St} {H7:Hp},Inv X (pins ++ zgw fp s5.heap) σ7 H7 s7->N σ7 H7->∃ m,m<n/\∃ i σ' H',Inv X pins σ' H' s7/\tn i s7.heap/\(∀ b ∈ fp,H' b=none)/\W i m σ' H':=fun {σ7 H7} I7 n7=>by
   obtain ⟨m',hm,w7⟩:=hN σ7 H7 n7
   refine ⟨m',hm,i+1,σ7,H7,I7.unpinned,T.keep _ _ _ st5 fun b hb o e=>(I7.pin (b,o) (List.mem_append_right _ (List.mem_append_right _ (zc4 hb e)))).1,fun b hb=>?_,w7⟩
   obtain ⟨o,e,d⟩:=T.obj _ _ st5 b hb; exact (I7.pin (b,o) (List.mem_append_right _ (List.mem_append_right _ (zc4 hb e)))).2.1
  cases f with
  | next=>obtain ⟨σ7,H7,I7,n7⟩:=q7; exact again I7 n7
  | cont=>obtain ⟨σ7,H7,I7,n7⟩:=q7; exact again I7 n7
  | brk=>obtain ⟨σ7,H7,I7,q7⟩:=q7; exact ⟨σ7,H7,I7.unpinned,q7⟩
  | ret v=>obtain ⟨x7,σ7,H7,I7,r7,q7⟩:=q7; exact ⟨x7,σ7,H7,I7.unpinned,r7,q7⟩
end
end L2
namespace L2
open PySem PySem.Spec PyProof.Rows
abbrev R2:=V->V->Hp->VK->Prop
def OpR (X:Cx) (f:Value->Value->Sem Value) (r:R2):Prop :=
 ∀ (pins:List (Addr × Obj)) (s:Shared) (σ:St) (H:Hp) (x y:V) (v u:Value) (Q:VK),Inv X pins σ H s->zao x v->zao y u->r x y H Q ->
  wpAny (model X.prog X.w) X.A (f v u) (EP X pins σ Q) X.xe s
def UnR (X:Cx) (f:Value->Sem Value) (r:V->Hp->VK->Prop):Prop :=
 ∀ (pins:List (Addr × Obj)) (s:Shared) (σ:St) (H:Hp) (x:V) (v:Value) (Q:VK),Inv X pins σ H s->zao x v->r x H Q ->
  wpAny (model X.prog X.w) X.A (f v) (EP X pins σ Q) X.xe s
def zbZ (X:Cx) (f:Value) (r:List V->Hp->VK->Prop):Prop :=
 ∀ (pins:List (Addr × Obj)) (s:Shared) (σ:St) (H:Hp) (xs:List V) (us:List Value) (Q:VK),Inv X pins σ H s->zae xs us->r xs H Q ->
  wpAny (model X.prog X.w) X.A (call f us) (EP X pins σ Q) X.xe s
def tOp (r:R2) (ta tb:TE):TE:=fun σ H Q=>ta σ H fun x H1=>tb σ H1 fun y H2=>r x y H2 Q
def tUn (r:V->Hp->VK->Prop) (ta:TE):TE:=fun σ H Q=>ta σ H fun x H1=>r x H1 Q
def rI (C:Int->Int->Prop) (g:Int->Int->V):R2:=fun x y H Q=>∃ i j,x=.int i/\y=.int j/\C i j/\Q (g i j) H
def rI0 (g:Int->Int->V):R2:=fun x y H Q=>∃ i j,x=.int i/\y=.int j/\Q (g i j) H
def rU (g:Int->V):V->Hp->VK->Prop:=fun x H Q=>∃ i,x=.int i/\Q (g i) H
section
variable {X:Cx} {a b c:Expr} {ta tb tc:TE} {pos:Pos}
theorem zvE (ha:PE X a ta) (hb:PE X b tb) {pins:List (Addr × Obj)} {s:Shared} {σ:St} {H:Hp} {R:V->V->Hp->Prop} (I:Inv X pins σ H s)
  (h:ta σ H fun x H1=>tb σ H1 fun y H2=>R x y H2) {Q:Value->Shared->Prop} {f:Value->Value->Sem Value}
  (hf:∀ v u s2 x y H2,Inv X pins σ H2 s2->zao x v->zao y u->R x y H2->wpAny (model X.prog X.w) X.A (f v u) Q X.xe s2) :
  wpAny (model X.prog X.w) X.A (eval a X.env) (fun v s₁=>wpAny (model X.prog X.w) X.A (eval b X.env) (fun u s₂=>wpAny (model X.prog X.w) X.A (f v u) Q X.xe s₂) X.xe s₁) X.xe s:=by
 refine thn (ha pins s σ H _ I h) fun v s1 ⟨x,H1,I1,r1,q1⟩=>?_
 refine thn (hb pins s1 σ H1 _ I1 q1) fun u s2 ⟨y,H2,I2,r2,q2⟩=>?_
 exact hf v u s2 x y H2 I2 r1 r2 q2
theorem zsH {op:Operator} {r:R2} (ho:OpR X (binaryOp op) r) (ha:PE X a ta) (hb:PE X b tb):PE X (.BinOp a op b pos) (tOp r ta tb):=by
 intro pins s σ H Q I h
 exact wpAny_BinOp (zvE ha hb I h fun v u s2 x y H2 I2 rx ry q=>ho pins s2 σ H2 x y v u Q I2 rx ry q)
theorem zuW {op:UnaryOp} {r:V->Hp->VK->Prop} (ho:UnR X (unaryOp op) r) (ha:PE X a ta):PE X (.UnaryOp op a pos) (tUn r ta):=by
 intro pins s σ H Q I h
 exact UnaryOp_ (thn (ha pins s σ H _ I h) fun v s1 ⟨x,H1,I1,r1,q1⟩=>ho pins s1 σ H1 x v Q I1 r1 q1)
theorem zwI {op:Operator} {r:R2} (ho:OpR X (inplaceOp op) r) {pins:List (Addr × Obj)} {s:Shared} {σ:St} {H:Hp} {x y:V} {v u:Value} {Q:VK} (I:Inv X pins σ H s)
  (rx:zao x v) (ry:zao y u) (q:r x y H Q):wpAny (model X.prog X.w) X.A (inplaceOp op v u) (EP X pins σ Q) X.xe s:=ho pins s σ H x y v u Q I rx ry q
theorem opI {f:Value->Value->Sem Value} {C:Int->Int->Prop} {g:Int->Int->Int}
  (rule:∀ (i j:Int) (t u:Tok) (s:Shared) (Q:Value->Shared->Prop) (E:Value->Shared->Prop),C i j->Q (.int (g i j) s.toks) { s with toks:=s.toks+1 }->wpAny (model X.prog X.w) X.A (f (.int i t) (.int j u)) Q E s) :
  OpR X f (rI C fun i j=>.int (g i j)):=by
 intro pins s σ H x y v u Q I rx ry h; obtain ⟨i,j,rfl,rfl,hc,q⟩:=h; obtain ⟨t,rfl⟩:=rx; obtain ⟨t',rfl⟩:=ry; exact rule i j t t' s _ _ hc ⟨.int (g i j),H,I.tok _,⟨_,rfl⟩,q⟩
theorem zu5 {f:Value->Value->Sem Value} {g:Int->Int->Int}
  (rule:∀ (i j:Int) (t u:Tok) (s:Shared) (Q:Value->Shared->Prop) (E:Value->Shared->Prop),Q (.int (g i j) s.toks) { s with toks:=s.toks+1 }->wpAny (model X.prog X.w) X.A (f (.int i t) (.int j u)) Q E s) :
  OpR X f (rI0 fun i j=>.int (g i j)):=by
 intro pins s σ H x y v u Q I rx ry h; obtain ⟨i,j,rfl,rfl,q⟩:=h; obtain ⟨t,rfl⟩:=rx; obtain ⟨t',rfl⟩:=ry; exact rule i j t t' s _ _ ⟨.int (g i j),H,I.tok _,⟨_,rfl⟩,q⟩
theorem zv4 {f:Value->Value->Sem Value} {g:Int->Int->Bool}
  (rule:∀ (i j:Int) (t u:Tok) (s:Shared) (Q:Value->Shared->Prop) (E:Value->Shared->Prop),Q (.bool (g i j)) s->wpAny (model X.prog X.w) X.A (f (.int i t) (.int j u)) Q E s) :
  OpR X f (rI0 fun i j=>.bl (g i j)):=by
 intro pins s σ H x y v u Q I rx ry h; obtain ⟨i,j,rfl,rfl,q⟩:=h; obtain ⟨t,rfl⟩:=rx; obtain ⟨t',rfl⟩:=ry; exact rule i j t t' s _ _ ⟨.bl (g i j),H,I,rfl,q⟩
def zni (i j:Int):Prop:=0<j/\j<1073741824
def ztM (i j:Int):Prop:=0<=j/\j<=1000000/\i.natAbs<2 ^ 64
def zpa (i j:Int):Prop:=(-(2 ^ 64)<i/\i<2 ^ 64)\/(-(2 ^ 64)<j/\j<2 ^ 64)
theorem zpa.ok {i j:Int} (h:zpa i j):IntMulOk i j:=by
 rcases h with ⟨h1,h2⟩ | ⟨h1,h2⟩
 ·exact .of_left (intBits_le_64 h1 h2)
 ·exact .of_right (intBits_le_64 h1 h2)
theorem zsX:OpR X (binaryOp .Add) (rI0 fun i j=>.int (i+j)):=zu5 fun _ _ _ _ _ _ _ q=>add_int q
theorem zsQ:OpR X (binaryOp .Sub) (rI0 fun i j=>.int (i-j)):=zu5 fun _ _ _ _ _ _ _ q=>sub_int q
theorem zsS:OpR X (binaryOp .Mult) (rI zpa fun i j=>.int (i * j)):=opI fun _ _ _ _ _ _ _ hc q=>mul_int q hc.ok
theorem zqQ:OpR X (binaryOp .FloorDiv) (rI zni fun i j=>.int (i / j)):=opI fun i j _ _ _ _ _ hc q=>by
 have h1:(0:Int)<j:=hc.1
 have h2:j<1073741824:=hc.2
 exact floordiv_int (by omega) (by rw [Int.fdiv_eq_ediv_of_nonneg i (by omega)]; exact q) (.inl (PyProof.noPylong_small (by omega)))
theorem zsT:OpR X (binaryOp .Mod) (rI (fun _ j=>0<j) fun i j=>.int (i % j)):=opI fun i j _ _ _ _ _ hc q=>by
 have h1:(0:Int)<j:=hc
 exact mod_int' (by omega) (by rw [Int.fmod_eq_emod_of_nonneg i (by omega)]; exact q)
theorem zsR:OpR X (binaryOp .Pow) (rI ztM fun i j=>.int (i ^ j.toNat)):=opI fun _ _ _ _ _ _ _ hc q=>pow_int_small hc.1 hc.2.1 hc.2.2 q
theorem zrj:OpR X (inplaceOp .Add) (rI0 fun i j=>.int (i+j)):=zu5 fun _ _ _ _ _ _ _ q=>iadd_int q
theorem unI {f:Value->Sem Value} {g:Int->Int}
  (rule:∀ (i:Int) (t:Tok) (s:Shared) (Q:Value->Shared->Prop) (E:Value->Shared->Prop),Q (.int (g i) s.toks) { s with toks:=s.toks+1 }->wpAny (model X.prog X.w) X.A (f (.int i t)) Q E s) :
  UnR X f (rU fun i=>.int (g i)):=by
 intro pins s σ H x v Q I rx h; obtain ⟨i,rfl,q⟩:=h; obtain ⟨t,rfl⟩:=rx; exact rule i t s _ _ ⟨.int (g i),H,I.tok _,⟨_,rfl⟩,q⟩
theorem zrM:UnR X (unaryOp .USub) (rU fun i=>.int (-i)):=unI fun _ _ _ _ _ q=>neg_int q
end
def zp3:V->V->Bool
 | .non,.non=>true | .non,.int _=>true | .int _,.non=>true | .non,.bl _=>true | .bl _,.non=>true | .non,.str _=>true | .str _,.non=>true
 | .int _,.int _=>true | .bl _,.bl _=>true | .str _,.str _=>true | .byt _,.byt _=>true
 | .int _,.str _=>true | .str _,.int _=>true | .bl _,.str _=>true | .str _,.bl _=>true
 | _,_=>false
def rEq:R2:=fun x y H Q=>zp3 x y=true/\Q (.bl (decide (x=y))) H
def rNe:R2:=fun x y H Q=>zp3 x y=true/\Q (.bl (!decide (x=y))) H
theorem zmU {i j:Int}:decide (V.int i=V.int j)=(i == j):=by
 rw [Bool.eq_iff_iff]; simp
theorem zpI {i j:Bool}:decide (V.bl i=V.bl j)=(i == j):=by
 rw [Bool.eq_iff_iff]; simp
theorem zmT {i j:Str}:decide (V.str i=V.str j)=(i == j):=by
 rw [Bool.eq_iff_iff]; simp
theorem zmV {i j:Array UInt8}:decide (V.byt i=V.byt j)=(i.toList == j.toList):=by
 rw [Bool.eq_iff_iff]; cases i; cases j; simp
section
variable {X:Cx} {a b c:Expr} {ta tb tc:TE} {pos:Pos}
theorem zN {pins:List (Addr × Obj)} {σ:St} {H:Hp} {s:Shared} {Q:VK} {k k':Bool} (I:Inv X pins σ H s) (q:Q (.bl k) H) (e:k=k'):EP X pins σ Q (.bool k') s:=by
 subst e; exact ⟨.bl k,H,I,rfl,q⟩
theorem zu4:OpR X (compareOp .Eq) rEq:=by
 intro pins s σ H x y v u Q I rx ry h; obtain ⟨hs,q⟩:=h
 cases x with
 | non =>
  cases rx
  cases y with
  | non=>cases ry; exact PySem.EqNone.eq_none_none (zN I q (by simp))
  | bl j=>cases ry; exact PySem.EqNone.eq_none_bool (zN I q (by simp))
  | int j=>obtain ⟨t',rfl⟩:=ry; exact PySem.EqNone.eq_none_int (zN I q (by simp))
  | str j=>obtain ⟨t',rfl⟩:=ry; exact PySem.EqNone.eq_none_str (zN I q (by simp))
  | _=>exact absurd (show false=true from hs) Bool.false_ne_true
 | bl i =>
  cases rx
  cases y with
  | non=>cases ry; exact PySem.EqNone.eq_bool_none (zN I q (by simp))
  | bl j=>cases ry; exact eq_bool (zN I q zpI)
  | str j=>obtain ⟨t',rfl⟩:=ry; exact PySem.EqMixed.eq_bool_str (zN I q (by simp))
  | _=>exact absurd (show false=true from hs) Bool.false_ne_true
 | int i =>
  obtain ⟨t,rfl⟩:=rx
  cases y with
  | non=>cases ry; exact PySem.EqNone.eq_int_none (zN I q (by simp))
  | int j=>obtain ⟨t',rfl⟩:=ry; exact eq_int (zN I q zmU)
  | str j=>obtain ⟨t',rfl⟩:=ry; exact PySem.EqMixed.eq_int_str (zN I q (by simp))
  | _=>exact absurd (show false=true from hs) Bool.false_ne_true
 | str i =>
  obtain ⟨t,rfl⟩:=rx
  cases y with
  | non=>cases ry; exact PySem.EqNone.eq_str_none (zN I q (by simp))
  | bl j=>cases ry; exact PySem.EqMixed.eq_str_bool (zN I q (by simp))
  | int j=>obtain ⟨t',rfl⟩:=ry; exact PySem.EqMixed.eq_str_int (zN I q (by simp))
  | str j=>obtain ⟨t',rfl⟩:=ry; exact eq_str (zN I q zmT)
  | _=>exact absurd (show false=true from hs) Bool.false_ne_true
 | byt i =>
  obtain ⟨t,rfl⟩:=rx
  cases y with
  | byt j=>obtain ⟨t',rfl⟩:=ry; exact W.eq_bytes (zN I q zmV)
  | _=>exact absurd (show false=true from hs) Bool.false_ne_true
 | _=>cases y <;> exact absurd (show false=true from hs) Bool.false_ne_true
theorem zu1:OpR X (compareOp .NotEq) rNe:=by
 intro pins s σ H x y v u Q I rx ry h; obtain ⟨hs,q⟩:=h
 cases x with
 | non =>
  cases rx
  cases y with
  | non=>cases ry; exact PySem.EqNone.ne_none_none (zN I q (by simp))
  | bl j=>cases ry; exact PySem.EqNone.ne_none_bool (zN I q (by simp))
  | int j=>obtain ⟨t',rfl⟩:=ry; exact PySem.EqNone.ne_none_int (zN I q (by simp))
  | str j=>obtain ⟨t',rfl⟩:=ry; exact PySem.EqNone.ne_none_str (zN I q (by simp))
  | _=>exact absurd (show false=true from hs) Bool.false_ne_true
 | bl i =>
  cases rx
  cases y with
  | non=>cases ry; exact PySem.EqNone.ne_bool_none (zN I q (by simp))
  | bl j=>cases ry; exact ne_bool (zN I q (congrArg not zpI))
  | str j=>obtain ⟨t',rfl⟩:=ry; exact PySem.EqMixed.ne_bool_str (zN I q (by simp))
  | _=>exact absurd (show false=true from hs) Bool.false_ne_true
 | int i =>
  obtain ⟨t,rfl⟩:=rx
  cases y with
  | non=>cases ry; exact PySem.EqNone.ne_int_none (zN I q (by simp))
  | int j=>obtain ⟨t',rfl⟩:=ry; exact ne_int (zN I q (congrArg not zmU))
  | str j=>obtain ⟨t',rfl⟩:=ry; exact PySem.EqMixed.ne_int_str (zN I q (by simp))
  | _=>exact absurd (show false=true from hs) Bool.false_ne_true
 | str i =>
  obtain ⟨t,rfl⟩:=rx
  cases y with
  | non=>cases ry; exact PySem.EqNone.ne_str_none (zN I q (by simp))
  | bl j=>cases ry; exact PySem.EqMixed.ne_str_bool (zN I q (by simp))
  | int j=>obtain ⟨t',rfl⟩:=ry; exact PySem.EqMixed.ne_str_int (zN I q (by simp))
  | str j=>obtain ⟨t',rfl⟩:=ry; exact ne_str (zN I q (congrArg not zmT))
  | _=>exact absurd (show false=true from hs) Bool.false_ne_true
 | byt i =>
  obtain ⟨t,rfl⟩:=rx
  cases y with
  | byt j=>obtain ⟨t',rfl⟩:=ry; exact W.ne_bytes (zN I q (congrArg not zmV))
  | _=>exact absurd (show false=true from hs) Bool.false_ne_true
 | _=>cases y <;> exact absurd (show false=true from hs) Bool.false_ne_true
theorem zu2:OpR X (compareOp .Lt) (rI0 fun i j=>.bl (decide (i<j))):=zv4 fun _ _ _ _ _ _ _ q=>lt_int q
theorem zu3:OpR X (compareOp .Gt) (rI0 fun i j=>.bl (decide (j<i))):=zv4 fun _ _ _ _ _ _ _ q=>gt_int q
theorem zmn:OpR X (compareOp .In) (fun x y H Q=>∃ i j,x=.str i/\y=.str j/\Q (.bl (!(Builtin.Str.occurrences j i 0 j.length 1).isEmpty)) H):=by
 intro pins s σ H x y v u Q I rx ry h; obtain ⟨i,j,rfl,rfl,q⟩:=h; obtain ⟨t,rfl⟩:=rx; obtain ⟨t',rfl⟩:=ry; exact in_str (zN I q rfl)
theorem zsV:OpR X (compareOp .Is) (fun x y H Q=>y=.non/\Q (.bl (decide (x=.non))) H):=by
 intro pins s σ H x y v u Q I rx ry h; obtain ⟨rfl,q⟩:=h; cases ry; refine is_none_gen (zN I q ?_)
 cases x <;> first
  | (cases rx; rfl)
  | (obtain ⟨t,rfl⟩:=rx; rfl)
theorem zqO:OpR X (compareOp .IsNot) (fun x y H Q=>y=.non/\Q (.bl (!decide (x=.non))) H):=by
 intro pins s σ H x y v u Q I rx ry h; obtain ⟨rfl,q⟩:=h; cases ry; refine isnot_none_gen (zN I q ?_)
 cases x <;> first
  | (cases rx; rfl)
  | (obtain ⟨t,rfl⟩:=rx; rfl)
theorem zh7:OpR X (compareOp .NotIn) (fun x y H Q=>∃ i j,x=.str i/\y=.str j/\Q (.bl (!(!(Builtin.Str.occurrences j i 0 j.length 1).isEmpty))) H):=by
 intro pins s σ H x y v u Q I rx ry h; obtain ⟨i,j,rfl,rfl,q⟩:=h; obtain ⟨t,rfl⟩:=rx; obtain ⟨t',rfl⟩:=ry; exact notIn_str (zN I q rfl)
theorem OpR.or {f:Value->Value->Sem Value} {r r':R2} (h:OpR X f r) (h':OpR X f r'):OpR X f (fun x y H Q=>r x y H Q\/r' x y H Q):=by
 intro pins s σ H x y v u Q I rx ry q
 rcases q with q | q
 ·exact h pins s σ H x y v u Q I rx ry q
 ·exact h' pins s σ H x y v u Q I rx ry q
theorem zpp (b:Expr) {op:CmpOp} (h:op≠.In:=by decide) (h2:op≠.NotIn:=by decide):behindInMarks op b=false:=by
 have e1:(op == CmpOp.In)=false:=by cases op <;> first | rfl | exact absurd rfl h
 have e2:(op == CmpOp.NotIn)=false:=by cases op <;> first | rfl | exact absurd rfl h2
 cases b <;> simp [behindInMarks,e1,e2]
theorem zqI {op:CmpOp} {r:R2} (ho:OpR X (compareOp op) r) (ha:PE X a ta) (hb:PE X b tb) (hm:behindInMarks op b=false):PE X (.Compare a [op] [b] pos) (tOp r ta tb):=by
 intro pins s σ H Q I h
 exact wpAny_Compare1 (zvE ha hb I h fun v u s2 x y H2 I2 rx ry q=>ho pins s2 σ H2 x y v u Q I2 rx ry q) hm
def zut (t:TE):TT:=fun σ H Q=>t σ H fun x H'=>∃ k,x=.bl k/\Q k H'
theorem zqj {op:CmpOp} {r:R2} (ho:OpR X (compareOp op) r) (ha:PE X a ta) (hb:PE X b tb) (hm:behindInMarks op b=false):PT X (.Compare a [op] [b] pos) (zut (tOp r ta tb)):=by
 intro pins s σ H Q I h
 refine wpAny_isTrue_Compare1 (thn (ha pins s σ H _ I h) fun v s1 ⟨x,H1,I1,r1,q1⟩=>thn (hb pins s1 σ H1 _ I1 q1) fun u s2 ⟨y,H2,I2,r2,q2⟩ =>
  thn (ho pins s2 σ H2 x y v u _ I2 r1 r2 q2) fun c s3 ⟨z,H3,I3,r3,k,e,q3⟩=>?_) hm
 subst e; cases r3; exact wpAny_truthy_bool ⟨H3,I3,q3⟩
theorem ziq:(sizeLine:Nat)<2 ^ 63:=by rw [sizeLine_eq]; decide
theorem zk7:OpR X (binaryOp .Add) (fun x y H Q=>∃ i j,x=.str i/\y=.str j/\i.length+j.length<=sizeLine/\Q (.str (i ++ j)) H):=by
 intro pins s σ H x y v u Q I rx ry h; obtain ⟨i,j,rfl,rfl,hz,q⟩:=h; obtain ⟨t,rfl⟩:=rx; obtain ⟨t',rfl⟩:=ry
 exact add_str (fun t' tk=>⟨.str (i ++ j),H,I.tok _,⟨_,rfl⟩,q⟩) hz
theorem zc8 {x:V} {us:List Value} (r:zae [x] us):∃ u,us=[u]/\zao x u:=by
 cases r with
 | cons r1 r2=>cases r2; exact ⟨_,rfl,r1⟩
theorem znx {x y:V} {us:List Value} (r:zae [x,y] us):∃ u w',us=[u,w']/\zao x u/\zao y w':=by
 cases r with
 | cons r1 r2 =>
  cases r2 with
  | cons r3 r4=>cases r4; exact ⟨_,_,rfl,r1,r3⟩
theorem zo7:zbZ X (.builtin "abs") (fun xs H Q=>∃ i,xs=[.int i]/\Q (.int (if i<0 then -i else i)) H):=by
 intro pins s σ H xs us Q I r h; obtain ⟨i,rfl,q⟩:=h; obtain ⟨u,rfl,t,rfl⟩:=zc8 r
 exact call_abs_int fun u tk=>⟨.int (if i<0 then -i else i),H,I.tok _,⟨_,rfl⟩,q⟩
theorem zm9 (hc:X.calm=true):zbZ X (.builtin "max") (fun xs H Q=>∃ i j,xs=[.int i,.int j]/\Q (.int (if j > i then j else i)) H):=by
 intro pins s σ H xs us Q I r h; obtain ⟨i,j,rfl,q⟩:=h
 obtain ⟨u,w',rfl,⟨t,rfl⟩,⟨t',rfl⟩⟩:=znx r
 refine max_two_ints (I.ok.hd hc) fun h' tk k=>⟨_,H,I.kept k,?_,q⟩
 by_cases hj:j > i
 ·rw [if_pos hj,if_pos hj]; exact ⟨_,rfl⟩
 ·rw [if_neg hj,if_neg hj]; exact ⟨_,rfl⟩
theorem zm8 (hc:X.calm=true):zbZ X (.builtin "min") (fun xs H Q=>∃ i j,xs=[.int i,.int j]/\Q (.int (if j<i then j else i)) H):=by
 intro pins s σ H xs us Q I r h; obtain ⟨i,j,rfl,q⟩:=h
 obtain ⟨u,w',rfl,⟨t,rfl⟩,⟨t',rfl⟩⟩:=znx r
 refine min_two_ints (I.ok.hd hc) fun h' tk k=>⟨_,H,I.kept k,?_,q⟩
 by_cases hj:j<i
 ·rw [if_pos hj,if_pos hj]; exact ⟨_,rfl⟩
 ·rw [if_neg hj,if_neg hj]; exact ⟨_,rfl⟩
theorem znc:zbZ X (.type "int") (fun xs H Q=>(∃ i,xs=[.int i]/\Q (.int i) H)\/∃ k,xs=[.bl k]/\Q (.int (if k then 1 else 0)) H):=by
 intro pins s σ H xs us Q I r h
 rcases h with ⟨i,rfl,q⟩ | ⟨k,rfl,q⟩
 ·obtain ⟨u,rfl,t,rfl⟩:=zc8 r
  exact call_int_int ⟨.int i,H,I,⟨_,rfl⟩,q⟩
 ·obtain ⟨u,rfl,r1⟩:=zc8 r
  cases r1
  exact call_int_bool ⟨.int (if k then 1 else 0),H,I.tok _,⟨_,rfl⟩,q⟩
theorem ziP:zbZ X (.type "str") (fun xs H Q=>∃ i,xs=[.int i]/\i.natAbs.log2<1920/\Q (.str (toString i)) H):=by
 intro pins s σ H xs us Q I r h; obtain ⟨i,rfl,hz,q⟩:=h; obtain ⟨u,rfl,t,rfl⟩:=zc8 r; exact PySem.P.str_of_int hz ⟨.str _,H,I.tok _,⟨_,rfl⟩,q⟩
end
end L2
namespace L2
open PySem PySem.Spec PyProof.Rows
structure ObjM (h:Heap) (x dx C:Addr) (mA:Str->Option Value):Prop where
 obj:h.get? x=some (W.instObj C dx)
 ns:h.Ns1 dx mA
 ne:dx≠x
theorem zin {h:Heap} {dx:Addr} {mA:Str->Option Value} (n:h.Ns1 dx mA):∃ od,h.get? dx=some od/\∀ name,W.lookIn name od=some (mA name):=by
 obtain ⟨o,es,ep,ho,hd,hk,_,hm⟩:=n
 refine ⟨o,ho,fun name=>?_⟩
 have e:=hm name; unfold nsFind findBy at e; rw [<- Array.find?_toList] at e; unfold W.lookIn; rw [hd]
 dsimp only
 split
 ·rename_i y q
  rw [q] at e; exact congrArg some e
 ·rename_i q
  rw [q] at e
  have a:es.toList.any (·.refKey)=false:=by
   rw [List.any_eq_false]; intro y hy; obtain ⟨z,t,hkey⟩:=hk y (Array.mem_toList_iff.mp hy); simp [DictEntry.refKey,hkey]
  have a':¬ es.toList.any (·.refKey)=true:=by rw [a]; exact Bool.false_ne_true
  rw [if_neg a']; exact congrArg some e
theorem ObjM.look {h:Heap} {x dx C:Addr} {mA:Str->Option Value} (I:ObjM h x dx C mA):∃ od,W.InstAt h x (W.instObj C dx) C (some od)/\∀ name,W.lookIn name od=some (mA name) :=
 let ⟨od,ho,hl⟩:=zin I.ns
 ⟨od,⟨I.obj,rfl,rfl,ho⟩,hl⟩
section
variable {prog:Program} {w:World} {A:Around} {E:Value->Shared->Prop} {s:Shared} {K:W.Frag} {x dx C f:Addr} {mA:Str->Option Value} {name:Str} {v:Value}
theorem zrk {expr:Bool} {Q:Value->Shared->Prop} (X:K.In s.heap) (I:ObjM s.heap x dx C mA) (hg:W.plainGet K C name=true) (hh:W.hasDictIn K C=true)
  (ha:W.findIn K (.ref C) name=some none) (hv:mA name=some v) (hv':W.handedIn v=true) (h:Q v { s with toks:=s.toks+1 }) :
  wpAny (model prog w) A (getAttr (.ref x) name expr) Q E s:=by
 obtain ⟨od,J,hl⟩:=I.look
 exact W.get_value X J (W.plainGet_of hg).1 (W.findObj_own hh ha rfl (by rw [hl,hv])) hv' h
theorem zoV {pl:Sem Bool} {Q:Value × List Value->Shared->Prop} (X:K.In s.heap) (I:ObjM s.heap x dx C mA) (hg:W.plainGet K C name=true)
  (hf:W.findIn K (.ref C) name=some (some (.ref f))) (ht:W.isFn K (.ref f)=true) (hv:mA name=none) (h:Q (.ref f,[.ref x]) s) :
  wpAny (model prog w) A (getMethod (.ref x) name pl) Q E s:=by
 obtain ⟨od,J,hl⟩:=I.look
 exact W.method_fn X J (W.plainGet_of hg).1 (W.plainGet_of hg).2 hf (beq_iff_eq.mp ht) (by show (W.lookIn name od).map (·.isSome)=some false; rw [hl,hv]; rfl) h
theorem zp1 {ns:List Str} {Q:Unit->Shared->Prop} (X:K.In s.heap) (I:ObjM s.heap x dx C mA)
  (hs:W.findIn K (.ref C) "__setattr__"=some (some (.builtin "object.__setattr__"))) (hp:W.plainOver K C=true) (ht:W.takerIn K C name=some none) (hh:W.hasDictIn K C=true)
  (hw:PySem.Within mA ns) (hsz:ns.length<=sizeLine)
  (h:∀ h',ObjM h' x dx C (fun y=>if y=name then some v else mA y)->Heap.SameBut dx s.heap h'->Q () { s with heap:=h',toks:=s.toks+2 }) :
  wpAny (model prog w) A (setAttr (.ref x) name v) Q E s:=by
 obtain ⟨od,J,hl⟩:=I.look
 refine W.set_plain X J hs (W.osa_open (s:={ s with toks:=s.toks+1 }) (r:=none) X J hp ht fun b=>?_)
 obtain ⟨cd,hc,hd'⟩:=W.any_some hh
 have hx:s.heap.get? x=some ⟨.ref C,some dx,.plain,#[]⟩:=I.obj
 refine wpAny_bind (wpAny_pure (wpAny_bind (wpAny_bind (wpAny_loadPart hx (wpAny_bind (W.Looks.here (s:={ s with toks:=s.toks+1 }) (W.looks_clsIn X hc) ?_))))))
 rw [hd']; refine wpAny_pure (a:=some dx) (wpAny_bind (wpAny_pure (wpAny_bind ?_)))
 refine wpAny_nsSet1 (s:={ s with toks:=s.toks+1 }) I.ns fun h' hn2 hs2=>?_
 obtain ⟨oD,esD,epD,hoD,hdD,hcD⟩:=hn2.count (PySem.Within.cons name v hw)
 refine wpAny_bind (wpAny_lookBehind hoD (by rw [hdD]; exact pastItsLine_dict (Nat.le_trans hcD (by rw [List.length_cons]; omega))) ?_)
 exact wpAny_pure (h _ ⟨(hs2.2 _ (Ne.symm I.ne)).trans I.obj,hn2,I.ne⟩ hs2)
theorem zow {R:Result->Shared->Prop} {vs:List Value} {kw:List (Str × Value)} (X:K.In s.heap) (hm:W.makesIn K C=true)
  (hi:W.findIn K (.ref C) "__init__"=some (some (.ref f))) (hf:W.typeIn K (.ref f)=some (.type "function"))
  (h:codeAny (model prog w) (A.under (.builtin "type.__call__" ⟨.ref C :: vs,kw⟩)) (.call (.ref f) ⟨.ref (s.heap.objs.size+1) :: vs,kw⟩) (W.InitBack (s.heap.objs.size+1) R)
   { s with heap:=(s.heap.push W.emptyDict).push (W.instObj C s.heap.objs.size) }) :
  codeAny (model prog w) A (.call (.ref C) ⟨vs,kw⟩) R s:=by
 obtain ⟨hh,g,d,t,os⟩:=s
 exact W.make_core (W.makes_of X hm) (W.looks_findIn X hi) (fun self=>W.bind_fn X self hf) (.inl rfl) h
end
def zee (f:Str) (v:V):List (Str × V)->List (Str × V)
 | []=>[(f,v)]
 | (g,x) :: r=>if g=f then (g,v) :: r else (g,x) :: zee f v r
theorem zfF (f g:Str) (v:V):∀ fs:List (Str × V),(zee f v fs).lookup g=if g=f then some v else fs.lookup g
 | []=>by
  show List.lookup g [(f,v)]=_
  by_cases h:g=f
  ·have hb:(g == f)=true:=beq_iff_eq.mpr h
   simp only [List.lookup,hb,if_pos h]
  ·have hb:(g == f)=false:=beq_eq_false_iff_ne.mpr h
   simp only [List.lookup,hb,if_neg h]
 | (k,x) :: r=>by
  have ih:=zfF f g v r
  rw [show zee f v ((k,x) :: r)=(if k=f then (k,v) :: r else (k,x) :: zee f v r) from rfl]
  by_cases hk:k=f
  ·rw [if_pos hk]
   by_cases h:g=k
   ·have hb:(g == k)=true:=beq_iff_eq.mpr h
    simp only [List.lookup,hb,if_pos (h.trans hk)]
   ·have hb:(g == k)=false:=beq_eq_false_iff_ne.mpr h
    simp only [List.lookup,hb,if_neg (fun e:g=f=>h (e.trans hk.symm))]
  ·rw [if_neg hk]
   by_cases h:g=k
   ·have hb:(g == k)=true:=beq_iff_eq.mpr h
    simp only [List.lookup,hb,if_neg (fun e:g=f=>hk (h.symm.trans e))]
   ·have hb:(g == k)=false:=beq_eq_false_iff_ne.mpr h
    simp only [List.lookup,hb]; exact ih
theorem zfL (f:Str) (v:V):∀ fs:List (Str × V),f ∈ (zee f v fs).map (·.1)/\∀ g,g ∈ fs.map (·.1)->g ∈ (zee f v fs).map (·.1)
 | []=>⟨by simp [zee],fun g h=>by simp at h⟩
 | (k,x) :: r=>by
  obtain ⟨i1,i2⟩:=zfL f v r
  rw [show zee f v ((k,x) :: r)=(if k=f then (k,v) :: r else (k,x) :: zee f v r) from rfl]
  by_cases hk:k=f
  ·rw [if_pos hk]
   subst hk
   exact ⟨by simp,fun g h=>by simpa using h⟩
  ·rw [if_neg hk]
   refine ⟨?_,fun g h=>?_⟩
   ·rw [List.map_cons]
    exact List.mem_cons_of_mem _ i1
   ·rw [List.map_cons] at h ⊢
    rcases List.mem_cons.mp h with e | e
    ·exact List.mem_cons.mpr (.inl e)
    ·exact List.mem_cons_of_mem _ (i2 g e)
theorem zfH (f:Str) (v:V):∀ fs:List (Str × V),(zee f v fs).length<=fs.length+1
 | []=>by simp [zee]
 | (k,x) :: r=>by
  have ih:=zfH f v r
  rw [show zee f v ((k,x) :: r)=(if k=f then (k,v) :: r else (k,x) :: zee f v r) from rfl]
  by_cases hk:k=f
  ·rw [if_pos hk,List.length_cons,List.length_cons]; omega
  ·rw [if_neg hk,List.length_cons,List.length_cons]; omega
theorem zi0.some_of {v:V} {o:Option Value} (r:zi0 (some v) o):∃ u,o=some u/\zao v u:=by
 cases o with
 | none=>exact (show False from r).elim
 | some u=>exact ⟨u,rfl,r⟩
theorem zi0.none_of {o:Option Value} (r:zi0 none o):o=none:=by
 cases o with
 | none=>rfl
 | some u=>exact (show False from r).elim
theorem ziz {v:V} {u:Value} (r:zao v u):W.handedIn u=true:=by
 cases v with
 | non=>cases (show u=Value.none from r); rfl
 | bl b=>cases (show u=Value.bool b from r); rfl
 | int i=>obtain ⟨t,e⟩:=(show ∃ t,u=Value.int i t from r); cases e; rfl
 | str x=>obtain ⟨t,e⟩:=(show ∃ t,u=Value.str x t from r); cases e; rfl
 | byt b=>obtain ⟨t,e⟩:=(show ∃ t,u=Value.bytes b t from r); cases e; rfl
 | flt b=>obtain ⟨t,e⟩:=(show ∃ t,u=Value.float b t from r); cases e; rfl
 | ref a=>cases (show u=Value.ref a from r); rfl
 | ty n=>cases (show u=Value.type n from r); rfl
section
variable {P:Program} {w:World} {H H':Hp} {h h':Heap} {a C dx:Addr} {fs fs':List (Str × V)}
theorem zhp (hok:HOk P w H h) (e:H a=some (.ins C dx fs)):∃ mA,ObjM h a dx C mA/\(∀ f,zi0 (fs.lookup f) (mA f))/\PySem.Within mA (fs.map (·.1))/\fs.length<=1000/\H dx=some (.own a):=by
 obtain ⟨d,z,ne,ob,mA,n,r,q⟩:=(show zaP P w H h a (.ins C dx fs) from hok a _ e)
 exact ⟨mA,⟨ob,n,ne⟩,r,q,z,d⟩
end
structure Cls (K:W.Frag) (C:Addr):Prop where
 pg:W.plainGet K C Str.empty=true
 hd:W.hasDictIn K C=true
 po:W.plainOver K C=true
 sa:W.findIn K (.ref C) "__setattr__"=some (some (.builtin "object.__setattr__"))
theorem Cls.get {K:W.Frag} {C:Addr} (c:Cls K C) (f:Str):W.plainGet K C f=true:=c.pg
def zai (K:W.Frag) (C:Addr) (f:Str):Prop:=W.findIn K (.ref C) f=some none
theorem zai.taker {K:W.Frag} {C:Addr} {f:Str} (n:zai K C f):W.takerIn K C f=some none:=by
 unfold W.takerIn
 rw [show W.findIn K (.ref C) f=some none from n]
 rfl
structure Meth (K:W.Frag) (C:Addr) (m:Str) (f:Addr):Prop where
 at_:W.findIn K (.ref C) m=some (some (.ref f))
 fn:W.isFn K (.ref f)=true
 kp:W.keepIn K (.ref f)=true
section
variable {X:Cx} {pins:List (Addr × Obj)} {σ:St} {H:Hp} {s:Shared} {a C dx:Addr} {fs:List (Str × V)} {f:Str} {v:V} {A:Around} {E:Value->Shared->Prop}
theorem zln {b:Bool} {Q:Value->Shared->Prop} (I:Inv X pins σ H s) (e:H a=some (.ins C dx fs)) (c:Cls X.K C) (n:zai X.K C f) (l:fs.lookup f=some v)
  (h:∀ u s',Inv X pins σ H s'->zao v u->Q u s'):wpAny (model X.prog X.w) A (getAttr (.ref a) f b) Q E s:=by
 obtain ⟨mA,O,r,_,_,_⟩:=zhp I.hok e
 obtain ⟨u,hu,ru⟩:=zi0.some_of (v:=v) (o:=mA f) (by rw [<- l]; exact r f)
 exact zrk I.kIn O (c.get f) c.hd n hu (ziz ru) (h u _ (I.tok _) ru)
theorem zlm {m:Str} {g:Addr} {pl:Sem Bool} {Q:Value × List Value->Shared->Prop} (I:Inv X pins σ H s) (e:H a=some (.ins C dx fs)) (c:Cls X.K C) (k:Meth X.K C m g) (l:fs.lookup m=none)
  (h:Q (.ref g,[.ref a]) s):wpAny (model X.prog X.w) A (getMethod (.ref a) m pl) Q E s:=by
 obtain ⟨mA,O,r,_,_,_⟩:=zhp I.hok e
 have hn:mA m=none:=zi0.none_of (by rw [<- l]; exact r m)
 exact zoV I.kIn O (c.get m) k.at_ k.fn hn h
theorem zkX {y:V} {u:Value} {Q:Unit->Shared->Prop} (I:Inv X pins σ H s) (e:H a=some (.ins C dx fs)) (c:Cls X.K C) (n:zai X.K C f) (hl:fs.length<1000) (ry:zao y u)
  (h:∀ s',Inv X pins σ (upd H a (.ins C dx (zee f y fs))) s'->Q () s'):wpAny (model X.prog X.w) A (setAttr (.ref a) f u) Q E s:=by
 obtain ⟨mA,O,r,wi,_,ho⟩:=zhp I.hok e
 have hz:(fs.map (·.1)).length<=sizeLine:=by rw [List.length_map,sizeLine_eq]; omega
 refine zp1 I.kIn O c.sa c.po n.taker c.hd wi hz fun h' O' sb=>h _ ?_
 have hd:∃ o,h'.get? dx=some o:=let ⟨o,_,_,e',_⟩:=O'.ns; ⟨o,e'⟩
 refine I.write (x:=a) (e:=dx) (by rw [e]; exact True.intro) (.inr ho) (fun b q hb z=>(sb.2 b hb).trans z) hd ?_
 refine ⟨by rw [zq O.ne]; exact ho,?_,O.ne,O'.obj,_,O'.ns,fun g=>?_,fun g hg=>?_⟩
 ·have:=zfH f y fs; omega
 ·show zi0 ((zee f y fs).lookup g) (if g=f then some u else mA g)
  rw [zfF]
  by_cases q:g=f
  ·rw [if_pos q,if_pos q]; exact ry
  ·rw [if_neg q,if_neg q]; exact r g
 ·by_cases q:g=f
  ·rw [q]; exact (zfL f y fs).1
  ·refine (zfL f y fs).2 g (wi g fun z=>hg ?_)
   show (if g=f then some u else mA g)=none
   rw [if_neg q]; exact z
theorem Inv.made (I:Inv X pins σ H s):Inv X pins σ (upd (upd H s.heap.objs.size (.own (s.heap.objs.size+1))) (s.heap.objs.size+1) (.ins C s.heap.objs.size []))
  { s with heap:=(s.heap.push W.emptyDict).push (W.instObj C s.heap.objs.size) }:=by
 have e1:(s.heap.push W.emptyDict).get? s.heap.objs.size=some W.emptyDict:=Heap.get?_push_size s.heap rfl
 have e2:((s.heap.push W.emptyDict).push (W.instObj C s.heap.objs.size)).get? (s.heap.objs.size+1)=some (W.instObj C s.heap.objs.size):=by
  have:=Heap.get?_push_size (s.heap.push W.emptyDict) (o:=W.instObj C s.heap.objs.size) rfl
  rwa [Heap.size_push] at this
 have e3:(s.heap.push W.emptyDict).Ns s.heap.objs.size (fun _=>none):=⟨W.emptyDict,#[],_,e1,rfl,(fun e he=>absurd he (by simp)),fun _=>rfl⟩
 have I1:=I.laid (a:=s.heap.objs.size) (o:=.own (s.heap.objs.size+1)) (h':=s.heap.push W.emptyDict) (t':=s.toks) (fun b u q=>Heap.get?_push_of_some _ q) (Nat.le_refl _) ⟨_,e1⟩
 refine I1.laid (a:=s.heap.objs.size+1) (o:=.ins C s.heap.objs.size []) (t':=s.toks) (fun b u q=>Heap.get?_push_of_some _ q) (Nat.le_of_eq (Heap.size_push _ _)) ?_
 have ne:s.heap.objs.size≠s.heap.objs.size+1:=Nat.ne_of_lt (Nat.lt_succ_self _)
 refine ⟨by rw [zq ne,zj],Nat.zero_le _,ne,e2,fun _=>none,(Heap.Ns1.of_empty e3).at fun o q=>Heap.get?_push_of_some _ q,fun _=>True.intro,fun y hy=>absurd rfl hy⟩
theorem zrC {prog:Program} {w:World} {env:Env} {e:Expr} {f:Str} {pos:Pos} {s:Shared} {Q:Value->Shared->Prop} (hb:attributeBase e f env (eval e env)=eval e env)
  (h:wpAny (model prog w) A (eval e env) (fun o s₁=>wpAny (model prog w) A (getAttr o f true) Q E s₁) E s):wpAny (model prog w) A (eval (.Attribute e f pos) env) Q E s :=
 Attribute_any_ h (by rw [arm_eval_Attribute,hb])
end
def zwt (K:W.Frag) (ta tv:TE) (f:Str):TS:=fun D σ H=>tv σ H fun y H1=>ta σ H1 fun x H2=>∃ a C dx fs,x=.ref a/\H2 a=some (.ins C dx fs)/\Cls K C/\zai K C f/\fs.length<1000 /\
 D.nx σ (upd H2 a (.ins C dx (zee f y fs)))
section
variable {X:Cx} {o e value:Expr} {f:Str} {pos pos' tpos:Pos} {ta tv:TE}
theorem zdX (ha:PE X o ta) (hv:PE X value tv) (hs:swapsWith value (some (.Attribute o f pos')) pos.line X.env=pure false):PS X (.Assign [.Attribute o f pos'] value pos) (zwt X.K ta tv f):=by
 intro pins s σ H D I h
 refine plainObj_wpAny_Assign_Attribute (thn (hv pins s σ H _ I h) fun u s1 ⟨y,H1,I1,ry,q⟩=>thn (ha pins s1 σ H1 _ I1 q) fun ov s2 ⟨x,H2,I2,rx,a,C,dx,fs,ex,ea,c,n,l,q2⟩=>?_) hs
 subst ex
 obtain rfl:ov=Value.ref a:=rx
 exact zkX I2 ea c n l ry fun s3 I3=>⟨σ,_,I3,q2⟩
end
section
variable {X:Cx} {pins:List (Addr × Obj)} {σ:St} {H:Hp} {s:Shared} {A:Around} {E:Value->Shared->Prop} {Q:Value->Shared->Prop} {c:Value} {b:Bool}
end
end L2
namespace L2
open PySem PySem.Spec PyProof.Rows
structure Room (k:Nat) (A:Around):Prop where
 hd:A.handled=none
 dp:A.depth+3 * k+5<recursionLimit
 un:A.units+16 * k+200<cLine
theorem Room.mono {j k:Nat} {A:Around} (r:Room k A) (h:j<=k):Room j A:=⟨r.hd,by have:=r.dp; omega,by have:=r.un; omega⟩
theorem Room.deeper {k:Nat} {A:Around} (r:Room (k+1) A) (env:Env):Room k (A.deeper env) :=
 ⟨r.hd,by have:=r.dp; show A.depth+1+3 * k+5<_; omega,by have:=r.un; show A.units+3+16 * k+200<_; omega⟩
theorem Room.in1 {k:Nat} {A:Around} (r:Room (k+1) A):Room k A.in1 :=
 ⟨r.hd,by have:=r.dp; show A.depth+3 * k+5<_; omega,by have:=r.un; show A.units+1+16 * k+200<_; omega⟩
theorem zle {A:Around} {C:Addr} {us:List Value} {kw:List (Str × Value)}:(A.under (.builtin "type.__call__" ⟨.ref C :: us,kw⟩)).depth=A.depth+1:=by
 first | rfl | simp [Around.under,Code.weight,Code.isCreation,Code.isGuard,Code.isCaller,Code.frames,Code.isFrame,guardIds]
theorem zld {A:Around} {C:Addr} {us:List Value} {kw:List (Str × Value)}:(A.under (.builtin "type.__call__" ⟨.ref C :: us,kw⟩)).units=A.units+1:=by
 first | rfl | simp [Around.under,Code.cUnits,Code.frames,Code.isFrame]
theorem Room.make {k:Nat} {A:Around} (r:Room (k+1) A) (C:Addr) (us:List Value) (kw:List (Str × Value)):Room k (A.under (.builtin "type.__call__" ⟨.ref C :: us,kw⟩)) :=
 ⟨r.hd,by have:=r.dp; rw [zle]; omega,by have:=r.un; rw [zld]; omega⟩
theorem Room.depth {k:Nat} {A:Around} (r:Room k A):A.depth<recursionLimit:=by have:=r.dp; omega
theorem Room.units {k:Nat} {A:Around} (r:Room k A):A.units+64<cLine:=by have:=r.un; omega
theorem Room.units0 {k:Nat} {A:Around} (r:Room k A):A.units<cLine:=by have:=r.un; omega
def zvR:TA:=fun _ H Q=>Q [] H
def zrY (ta:TE) (tr:TA):TA:=fun σ H Q=>ta σ H fun x H1=>tr σ H1 fun xs H2=>Q (x :: xs) H2
section
variable {X:Cx} {e:Expr} {es:List Expr} {te:TE} {t:TA} {pos:Pos}
theorem zke:PA X [] zvR:=fun _ _ _ _ H Q I h=>Calls.spliced_nil ⟨[],H,I,.nil,h⟩
theorem zcO (ha:PE X e te) (hr:PA X es t) (hs:starEach (e :: es) X.env=(false,eval e X.env) :: starEach es X.env:=by rfl):PA X (e :: es) (zrY te t):=by
 intro pos pins s σ H Q I h; rw [hs]
 show wpAny _ _ (spliced ((false,eval e X.env) :: backTo pos (starEach es X.env))) _ _ s
 refine Calls.spliced_cons (thn (ha pins s σ H _ I h) fun u s1 ⟨x,H1,I1,r1,q1⟩=>?_)
 exact thn (hr pos pins s1 σ H1 _ I1 q1) fun us s2 ⟨xs,H2,I2,r2,q2⟩=>⟨x :: xs,H2,I2,.cons r1 r2,q2⟩
def zwg (t:TA):TE:=fun σ H Q=>t σ H fun xs H1=>xs.length<=sizeLine/\∀ p,H1 p=none->Q (.ref p) (upd H1 p (.tup xs))
def zwk (t:TA):TE:=fun σ H Q=>t σ H fun xs H1=>xs.length<=sizeLine/\∀ p,H1 p=none->Q (.ref p) (upd H1 p (.lst xs))
theorem zsE {x1} (h:PA X es t):PE X (.Tuple es x1 pos) (zwg t):=by
 intro pins s σ H Q I hq
 refine wpAny_Tuple_spliced (thn (h pos pins s σ H _ I hq) fun us s1 ⟨xs,H1,I1,r,z,q⟩=>⟨by rw [<- r.length]; exact z,?_⟩)
 have hf:H1 s1.heap.objs.size=none:=I1.hok.fresh (Nat.le_refl _)
 refine ⟨.ref s1.heap.objs.size,upd H1 s1.heap.objs.size (.tup xs),I1.laid (t':=s1.toks) (fun b u e=>Heap.get?_push_of_some _ e) (Nat.le_refl _) ?_,rfl,q _ hf⟩
 exact ⟨z,us,r,⟨_,Heap.get?_push_size _ rfl,rfl,_,rfl⟩⟩
theorem zsL (h:PA X es t):PE X (.List es pos) (zwk t):=by
 intro pins s σ H Q I hq
 refine wpAny_List_spliced (thn (h pos pins s σ H _ I hq) fun us s1 ⟨xs,H1,I1,r,z,q⟩=>⟨by rw [<- r.length]; exact z,?_⟩)
 have hf:H1 s1.heap.objs.size=none:=I1.hok.fresh (Nat.le_refl _)
 refine ⟨.ref s1.heap.objs.size,upd H1 s1.heap.objs.size (.lst xs),I1.laid (t':=s1.toks) (fun b u e=>Heap.get?_push_of_some _ e) (Nat.le_refl _) ?_,rfl,q _ hf⟩
 exact ⟨z,us,0,r,Heap.get?_push_size _ rfl⟩
end
abbrev Sp:=List V->Hp->VK->XK->Prop
abbrev CXT:=List Env->Hp->Shared->XK->Value->Shared->Prop
structure Env0 (P:Program) (w:World) (K:W.Frag) (mg:Str->Option Value) (base:Heap) (A:Around) (outer:List Env) (s:Shared) (H:Hp):Prop where
 frames:A.frames=some outer
 mod:Mod K mg base
 bs:∀ b o,base.get? b=some o->s.heap.get? b=some o/\H b=none
 bsz:base.objs.size<=s.heap.objs.size
 funs:s.heap.FunFrames base outer
 frf:∀ b ∈ frs outer,H b=none
 hok:HOk P w H s.heap
 bare:AllBare s.gens
 tab:zlu base H
def CE (outer:List Env) (P:Program) (w:World) (H:Hp) (s:Shared) (Q:VK) (u:Value) (s':Shared):Prop :=
 ∃ v H',s'.os=s.os/\AllBare s'.gens/\Un (frs outer) [] H H' s.heap s'.heap/\HOk P w H' s'.heap/\zao v u/\Q v H'
def CR (CX:CXT) (outer:List Env) (P:Program) (w:World) (H:Hp) (s:Shared) (Q:VK) (E:XK) (r:Result) (s':Shared):Prop :=
 match r with
 | .ok (.ret u)=>CE outer P w H s Q u s'
 | .ok _=>False
 | .error e=>CX outer H s E e s'
structure FnOk (P:Program) (w:World) (K:W.Frag) (mg:Str->Option Value) (base:Heap) (CX:CXT) (k:Nat) (f:Addr) (fd:FuncData) (ps:List Str) (sp:Sp):Prop where
 len:∀ vs H Q E,sp vs H Q E->vs.length=ps.length
 run:∀ (A:Around) (outer:List Env) (s:Shared) (H:Hp) (args:Args) (us:List Value) (vs:List V) (Q:VK) (E:XK),Room k A->Env0 P w K mg base A outer s H->BindsTo s fd args (ps.zip us)->zae vs us->sp vs H Q E ->
  codeAny (model P w) A (.call (.ref f) args) (CR CX outer P w H s Q E) s
theorem Env0.make {P:Program} {w:World} {K:W.Frag} {mg:Str->Option Value} {base:Heap} {A:Around} {outer:List Env} {s:Shared} {H:Hp} (e:Env0 P w K mg base A outer s H) (C:Addr) (us:List Value) (kw:List (Str × Value)) :
  Env0 P w K mg base (A.under (.builtin "type.__call__" ⟨.ref C :: us,kw⟩)) outer s H:=⟨by first | exact e.frames | (simpa [Around.under,Code.envs,Code.isFrame,pushEnvs] using e.frames),e.mod,e.bs,e.bsz,e.funs,e.frf,e.hok,e.bare,e.tab⟩
theorem Env0.in1 {P:Program} {w:World} {K:W.Frag} {mg:Str->Option Value} {base:Heap} {A:Around} {outer:List Env} {s:Shared} {H:Hp} (e:Env0 P w K mg base A outer s H) :
  Env0 P w K mg base A.in1 outer s H:=⟨e.frames,e.mod,e.bs,e.bsz,e.funs,e.frf,e.hok,e.bare,e.tab⟩
section
variable {X:Cx} {pins:List (Addr × Obj)} {σ:St} {H:Hp} {s s':Shared}
theorem Inv.env0 (I:Inv X pins σ H s):Env0 X.prog X.w X.K X.mg X.base X.A X.stack s H :=
 ⟨I.ok.frames,I.ok.mod,I.bs,Nat.le_trans I.ok.bsz I.sz,I.stack,I.stkFree,I.hok,I.bare,I.ok.tab.un I.base.tbls⟩
theorem Inv.after {Q:VK} {u:Value} (I:Inv X pins σ H s) (h:CE X.stack X.prog X.w H s Q u s'):EP X pins σ Q u s':=by
 obtain ⟨v,H',os,bare,un,hok,r,q⟩:=h; obtain ⟨hh,g,d,t,os'⟩:=s'
 obtain rfl:os'=s.os:=os
 exact ⟨v,H',I.call (h':=hh) (g':=g) (d':=d) (t':=t) (ch:=[]) un hok bare (fun b z=>absurd z (by simp)),r,q⟩
end
def zuC (sp:Sp) (dvs:List V) (E:XK) (t:TA):TE:=fun σ H Q=>t σ H fun vs H1=>sp (vs ++ dvs) H1 Q E
def zux (C:Addr) (m:Str) (sp:Sp) (dvs:List V) (E:XK) (ta:TE) (t:TA):TE:=fun σ H Q=>ta σ H fun x H1=>∃ a dx fs,x=.ref a/\H1 a=some (.ins C dx fs)/\fs.lookup m=none /\
 t σ H1 fun vs H2=>sp (x :: (vs ++ dvs)) H2 Q E
def zuy (C:Addr) (sp:Sp) (dvs:List V) (E:XK) (t:TA):TE:=fun σ H Q=>t σ H fun vs H1=>∀ x dx,H1 x=none->H1 dx=none->dx≠x ->
 sp (.ref x :: (vs ++ dvs)) (upd (upd H1 dx (.own x)) x (.ins C dx [])) (fun v H2=>v=.non/\Q (.ref x) H2) E
def zbi (K:W.Frag) (fd:FuncData) (ps:List Str) (ds:List Value):Prop :=
 ∀ (s:Shared) (us:List Value),K.In s.heap->(us ++ ds).length=ps.length->BindsTo s fd ⟨us,[]⟩ (ps.zip (us ++ ds))
theorem zbi.all {K:W.Frag} {fd:FuncData} {ps:List Str} (h:∀ us:List Value,us.length=ps.length->bindArgs fd ⟨us,[]⟩=pure (ps.zip us)):zbi K fd ps []:=fun s us _ hl=>by
 rw [List.append_nil] at hl ⊢; exact .of_eq (h us hl)
def zgH (CX:CXT) (X:Cx) (E:XK):Prop:=∀ (pins:List (Addr × Obj)) (σ:St) (H:Hp) (s:Shared) (e:Value) (s':Shared),Inv X pins σ H s->CX X.stack H s E e s'->X.xe e s'
section
variable {X:Cx} {CX:CXT} {k:Nat} {f C:Addr} {fd:FuncData} {ps:List Str} {sp:Sp} {dvs:List V} {ds:List Value} {E:XK} {x m:Str} {p pos apos:Pos} {e o:Expr} {es:List Expr} {ta:TE} {t:TA}
theorem zpf {pins:List (Addr × Obj)} {σ:St} {H:Hp} {s:Shared} {Q:VK} {us:List Value} {vs:List V} (F:FnOk X.prog X.w X.K X.mg X.base CX k f fd ps sp) (hr:Room k X.A) (hb:zbi X.K fd ps ds) (hd:zae dvs ds) (hx:zgH CX X E)
  (I:Inv X pins σ H s) (r:zae vs us) (h:sp (vs ++ dvs) H Q E):wpAny (model X.prog X.w) X.A (call (.ref f) us) (EP X pins σ Q) X.xe s:=by
 have r2:zae (vs ++ dvs) (us ++ ds):=r.append hd
 have hl:(us ++ ds).length=ps.length:=by rw [<- r2.length]; exact F.len _ _ _ _ h
 refine wpAny_call (codeAny_mono (F.run X.A X.stack s H ⟨us,[]⟩ (us ++ ds) (vs ++ dvs) Q E hr I.env0 (hb s us I.kIn hl) r2 h) fun r s' hq=>?_)
 cases r with
 | error e=>exact hx pins σ H s e s' I hq
 | ok fl =>
  cases fl with
  | ret u=>exact I.after hq
  | next=>exact False.elim hq
  | brk=>exact False.elim hq
  | cont=>exact False.elim hq
theorem zjm (F:FnOk X.prog X.w X.K X.mg X.base CX k f fd ps sp) (hr:Room k X.A) (hg:Gl X x) (hm:X.mg x=some (.ref f)) (hk:W.keepIn X.K (.ref f)=true) (hb:zbi X.K fd ps ds) (hd:zae dvs ds) (hx:zgH CX X E)
  (ha:PA X (e :: es) t) (hdb:(x == ("__debug__":Str))=false:=by decide) (he:starEach (e :: es) X.env=(false,eval e X.env) :: starEach es X.env:=by rfl) (hpl:(backTo pos (starEach es X.env)).any (·.1)=false:=by rfl) :
  PE X (.Call (.Name x p) (e :: es) [] pos) (zuC sp dvs E t):=by
 intro pins s σ H Q I h; refine wpAny_Call_Name_kw (zjA I hg hm ?_ hdb)
 refine W.callWith_K (h₀:=X.base) I.ok.mod.kin hk (thn (ha pos pins s σ H _ I h) fun us s1 ⟨vs,H1,I1,r,q⟩=>⟨I1.kIn,?_⟩) he hpl
 exact zpf F hr hb hd hx I1 r q
theorem zqA {pl:Sem Bool} (he:PE X o ta) (c:Cls X.K C) (hm:Meth X.K C m f) (F:FnOk X.prog X.w X.K X.mg X.base CX k f fd ps sp) (hr:Room k X.A) (hb:zbi X.K fd ps ds) (hd:zae dvs ds) (hx:zgH CX X E) (ha:PA X (e :: es) t)
  (hst:starEach (e :: es) X.env=(false,eval e X.env) :: starEach es X.env:=by rfl) (hpl:(backTo pos (starEach es X.env)).any (·.1)=false:=by rfl)
  (ht:eval (.Call (.Attribute o m apos) (e :: es) [] pos) X.env=(do
   let ov <- eval o X.env
   standAt apos.atName
   let (f,first) <- holding [ov] (getMethod ov m pl)
   callWith pos f first (backTo pos (starEach (e :: es) X.env)) (backToKw pos (keywordEach [] X.env))):=by rfl) :
  PE X (.Call (.Attribute o m apos) (e :: es) [] pos) (zux C m sp dvs E ta t):=by
 intro pins s σ H Q I h
 refine W.methodCall_KW (pl:=pl) (thn (he pins s σ H _ I h) fun u s1 ⟨x,H1,I1,rx,a,dx,fs,ex,ea,l,q⟩=>?_) ht
 subst ex
 obtain rfl:u=Value.ref a:=rx
 refine zlm I1 ea c hm l ?_
 refine W.callWith_K (first:=[.ref a]) (h₀:=X.base) I.ok.mod.kin hm.kp (thn (ha pos pins s1 σ H1 _ I1 q) fun us s2 ⟨vs,H2,I2,r,q2⟩=>⟨I2.kIn,?_⟩) hst hpl
 exact zpf (us:=.ref a :: us) (vs:=.ref a :: vs) F hr hb hd hx I2 (.cons rfl r) q2
structure Mk (K:W.Frag) (C f:Addr):Prop where
 makes:W.makesIn K C=true
 init:W.findIn K (.ref C) "__init__"=some (some (.ref f))
 fn:W.isFn K (.ref f)=true
 kp:W.keepIn K (.ref C)=true
theorem znN {pins:List (Addr × Obj)} {σ:St} {H:Hp} {s:Shared} {Q:VK} {us:List Value} {vs:List V} (M:Mk X.K C f) (F:FnOk X.prog X.w X.K X.mg X.base CX k f fd ps sp) (hr:Room (k+1) X.A) (hb:zbi X.K fd ps ds) (hd:zae dvs ds)
  (hx:zgH CX X E) (I:Inv X pins σ H s) (r:zae vs us)
  (h:∀ x dx,H x=none->H dx=none->dx≠x->sp (.ref x :: (vs ++ dvs)) (upd (upd H dx (.own x)) x (.ins C dx [])) (fun v H2=>v=.non/\Q (.ref x) H2) E) :
  wpAny (model X.prog X.w) X.A (call (.ref C) us) (EP X pins σ Q) X.xe s:=by
 have hq:=h (s.heap.objs.size+1) s.heap.objs.size (I.hok.fresh (Nat.le_succ _)) (I.hok.fresh (Nat.le_refl _)) (Nat.ne_of_lt (Nat.lt_succ_self _)); have I2:=Inv.made (C:=C) I
 have r2:zae (V.ref (s.heap.objs.size+1) :: (vs ++ dvs)) (Value.ref (s.heap.objs.size+1) :: (us ++ ds)):=.cons rfl (r.append hd)
 have hl:(Value.ref (s.heap.objs.size+1) :: us ++ ds).length=ps.length:=by
  have e:=r2.length; rw [F.len _ _ _ _ hq] at e; exact e.symm
 refine wpAny_call (zow (f:=f) I.kIn M.makes M.init (beq_iff_eq.mp M.fn) (codeAny_mono (F.run _ X.stack _ _ ⟨Value.ref (s.heap.objs.size+1) :: us,[]⟩ (Value.ref (s.heap.objs.size+1) :: (us ++ ds)) _ _ E (hr.make C us [])
  (I2.env0.make C us []) (hb _ (Value.ref (s.heap.objs.size+1) :: us) I2.kIn hl) r2 hq) fun r s' hq'=>?_))
 cases r with
 | error e=>exact hx pins σ _ _ e s' I2 hq'
 | ok fl =>
  cases fl with
  | ret u =>
   obtain ⟨v,H',I3,rv,ev,q3⟩:=I2.after hq'; subst ev; exact ⟨rv,⟨V.ref (s.heap.objs.size+1),H',I3,rfl,q3⟩⟩
  | next=>exact False.elim hq'
  | brk=>exact False.elim hq'
  | cont=>exact False.elim hq'
theorem zqB (M:Mk X.K C f) (F:FnOk X.prog X.w X.K X.mg X.base CX k f fd ps sp) (hr:Room (k+1) X.A) (hg:Gl X x) (hm:X.mg x=some (.ref C)) (hb:zbi X.K fd ps ds) (hd:zae dvs ds) (hx:zgH CX X E)
  (ha:PA X (e :: es) t) (hdb:(x == ("__debug__":Str))=false:=by decide) (he:starEach (e :: es) X.env=(false,eval e X.env) :: starEach es X.env:=by rfl) (hpl:(backTo pos (starEach es X.env)).any (·.1)=false:=by rfl) :
  PE X (.Call (.Name x p) (e :: es) [] pos) (zuy C sp dvs E t):=by
 intro pins s σ H Q I h; refine wpAny_Call_Name_kw (zjA I hg hm ?_ hdb)
 refine W.callWith_K (h₀:=X.base) I.ok.mod.kin M.kp (thn (ha pos pins s σ H _ I h) fun us s1 ⟨vs,H1,I1,r,q⟩=>⟨I1.kIn,?_⟩) he hpl
 exact znN M F hr hb hd hx I1 r q
end
def PK (X:Cx) (kws:List Keyword) (t:TA):Prop :=
 ∀ (pos:Pos) (pins:List (Addr × Obj)) (s:Shared) (σ:St) (H:Hp) (Q:List V->Hp->Prop),Inv X pins σ H s->t σ H Q->wpAny (model X.prog X.w) X.A (evalAll ((backToKw pos (keywordEach kws X.env)).map (·.2))) (AP X pins σ Q) X.xe s
section
variable {X:Cx} {CX:CXT} {k:Nat} {f C:Addr} {fd:FuncData} {ps ks:List Str} {sp:Sp} {E:XK} {x m:Str} {p pos apos kpos:Pos} {e o:Expr} {es:List Expr} {kws:List Keyword} {te ta:TE} {t tk:TA} {nm:Option Str}
theorem zpl:PK X [] zvR:=fun _ _ _ _ H Q I h=>wpAny_evalAll_nil ⟨[],H,I,.nil,h⟩
theorem zmf (ha:PE X e te) (hr:PK X kws t):PK X (⟨nm,e,kpos⟩ :: kws) (zrY te t):=by
 intro pos pins s σ H Q I h
 show wpAny _ _ (evalAll ((do let v <- eval e X.env; standAt pos; pure v) :: (backToKw pos (keywordEach kws X.env)).map (·.2))) _ _ s
 refine wpAny_evalAll_cons (wpAny_bind (thn (ha pins s σ H _ I h) fun u s1 ⟨x,H1,I1,r1,q1⟩=>wpAny_bind (wpAny_standAt (wpAny_pure ?_))))
 exact thn (hr pos pins s1 σ H1 _ I1 q1) fun us s2 ⟨xs,H2,I2,r2,q2⟩=>⟨x :: xs,H2,I2,.cons r1 r2,q2⟩
variable {g:List Value->List Value->List Value} {gV:List V->List V->List V}
end
structure FnScope (N P:List Str) (sc:Scope):Prop where
 kind:sc.kind=.function
 co:sc.isCoroutine=false
 gen:sc.isGenerator=false
 nd:N.Nodup
 pre:N.take P.length=P
 par:∀ x ∈ P,sc.names.lookup x=some .local\/sc.names.lookup x=some .cell
 nofree:∀ y ∈ sc.names,y.2≠.free
theorem ziW {kindOf:Str->Option NameKind} {x:Str}:∀ {binds:List (Str × Value)} {m:Str->Option Value},(∀ v,(x,v) ∉ binds)->bindL kindOf binds m x=m x
 | [],_,_=>rfl
 | (n,v) :: r,m,h=>by
  unfold bindL
  rw [ziW fun w hw=>h w (List.mem_cons_of_mem _ hw)]
  split
  ·have:x≠n:=by rintro rfl; exact h v List.mem_cons_self
   simp [this]
  ·rfl
theorem ziY {kindOf:Str->Option NameKind} {x:Str}:∀ {binds:List (Str × Value)} {m:Str->Option Value},(∀ v,(x,v) ∉ binds)->bindC kindOf binds m x=m x
 | [],_,_=>rfl
 | (n,v) :: r,m,h=>by
  unfold bindC
  rw [ziY fun w hw=>h w (List.mem_cons_of_mem _ hw)]
  split
  ·rfl
  ·have:x≠n:=by rintro rfl; exact h v List.mem_cons_self
   simp [this]
theorem ziX {kindOf:Str->Option NameKind} {x:Str} {v:Value}:∀ {P:List Str} {vs:List Value} {i:Nat} {m:Str->Option Value},P.Nodup->P[i]?=some x->vs[i]?=some v->kindOf x=some .local ->
  bindL kindOf (P.zip vs) m x=some v
 | [],_,_,_,_,h,_,_=>by simp at h
 | _ :: _,[],_,_,_,_,h,_=>by simp at h
 | p :: P,w :: vs,0,m,nd,h1,h2,hk=>by
  simp at h1 h2; subst h1; subst h2
  show bindL kindOf ((p,w) :: P.zip vs) m p=_
  unfold bindL
  rw [ziW fun v hv=>(List.nodup_cons.mp nd).1 (List.of_mem_zip hv).1,if_pos hk]
  simp
 | p :: P,w :: vs,i+1,m,nd,h1,h2,hk=>by
  show bindL kindOf ((p,w) :: P.zip vs) m x=_
  unfold bindL
  exact ziX (i:=i) (List.nodup_cons.mp nd).2 (by simpa using h1) (by simpa using h2) hk
theorem ziZ {kindOf:Str->Option NameKind} {x:Str} {v:Value}:∀ {P:List Str} {vs:List Value} {i:Nat} {m:Str->Option Value},P.Nodup->P[i]?=some x->vs[i]?=some v->kindOf x≠some .local ->
  bindC kindOf (P.zip vs) m x=some v
 | [],_,_,_,_,h,_,_=>by simp at h
 | _ :: _,[],_,_,_,_,h,_=>by simp at h
 | p :: P,w :: vs,0,m,nd,h1,h2,hk=>by
  simp at h1 h2; subst h1; subst h2
  show bindC kindOf ((p,w) :: P.zip vs) m p=_
  unfold bindC
  rw [ziY fun v hv=>(List.nodup_cons.mp nd).1 (List.of_mem_zip hv).1,if_neg hk]
  simp
 | p :: P,w :: vs,i+1,m,nd,h1,h2,hk=>by
  show bindC kindOf ((p,w) :: P.zip vs) m x=_
  unfold bindC
  exact ziZ (i:=i) (List.nodup_cons.mp nd).2 (by simpa using h1) (by simpa using h2) hk
def start (N:List Str) (vs:List V):St:=vs.map some ++ List.replicate (N.length-vs.length) none
def zhF (CX:CXT) (P:Program) (w:World) (K:W.Frag) (mg:Str->Option Value) (base:Heap) (N:List Str) (qual:Str) (scope:Scope) (f:Addr) (cd:Value) (A:Around) (outer:List Env) (s:Shared) (H:Hp) (E:XK):Cx where
 prog:=P
 w:=w
 K:=K
 mg:=mg
 base:=base
 A:=A.deeper (envOfC qual scope s.heap.objs.size f cd)
 N:=N
 s₀:=s
 H₀:=H
 env:=envOfC qual scope s.heap.objs.size f cd
 outer:=outer
 stack:=envOfC qual scope s.heap.objs.size f cd :: outer
 ex:=[]
 calm:=true
 fn:=fun _=>true
 pn:=[]
 xe:=fun e s'=>wpAny (model P w) (A.deeper (envOfC qual scope s.heap.objs.size f cd)) (leaving (envOfC qual scope s.heap.objs.size f cd) e) (fun _ s''=>CX outer H s E e s'') (fun e' s''=>CX outer H s E e' s'') s'
theorem zkE {sc:Scope} {n:Nat} {x:Str} (h:sc.names.lookup x=some .cell):∃ c,(cellsFrom n sc.names []).lookup x=some c:=by
 have q:=W.cellsFrom_some sc.names n [] (.inl h); exact Option.isSome_iff_exists.mp q
theorem ziy {CX:CXT} {P:Program} {w:World} {K:W.Frag} {mg:Str->Option Value} {base:Heap} {N ps:List Str} {qual:Str} {scope:Scope} {f:Addr} {cd:Value} {A:Around} {outer:List Env} {s s1:Shared} {H:Hp} {E:XK} {us:List Value} {vs:List V}
  (S:FnScope N ps scope) (hd:A.handled=none) (e0:Env0 P w K mg base A outer s H) (hl:vs.length=ps.length) (r:zae vs us)
  (x:InCallC s s.heap.objs.size (bindL (envOfC qual scope s.heap.objs.size f cd).kindOf (ps.zip us) fun _=>none) (cellsFrom (s.heap.objs.size+1) scope.names []) (bindC (envOfC qual scope s.heap.objs.size f cd).kindOf (ps.zip us) fun _=>none) s1) :
  Inv (zhF CX P w K mg base N qual scope f cd A outer s H E) [] (start N vs) H s1:=by
 have hpl:ps.length<=N.length:=by have:=congrArg List.length S.pre; rw [List.length_take] at this; omega
 obtain ⟨h1,tk,rfl,hk⟩:=x.done
 have noA:∀ b:Addr,b ∉ (zhF CX P w K mg base N qual scope f cd A outer s H E).ex:=fun b z=>absurd (show b ∈ ([]:List Addr) from z) (by simp)
 refine ⟨⟨e0.mod,S.kind,rfl,rfl,Nat.le_refl _,fun y z c h1 h2=>?_,fun y hy=>?_,fun y c _ h=>?_,fun _=>hd,Around.frames_deeper e0.frames,.inr ⟨rfl,rfl⟩,fun b z=>absurd z (noA b),e0.bs,e0.bsz,fun b _ _=>noA b,fun b z=>absurd z (noA b),e0.funs,e0.frf,e0.tab⟩,
  rfl,e0.bare,Un.kept hk,⟨_,x.toInCall.ns,fun i y v h1 h2 h3=>?_⟩,fun y c h=>⟨_,x.cell y c h⟩,e0.hok.fresh (Nat.le_refl _),fun y c h=>?_,fun p hp=>absurd (show p ∈ ([]:List (Addr × Obj)) from hp) (by simp),e0.hok.kept hk,?_⟩
 ·exact name_of_addr x.apart (PySem.mem_of_lookup h1) (PySem.mem_of_lookup h2)
 ·have hy:scope.names.lookup y=some .cell\/scope.names.lookup y=some .free:=hy
  rcases hy with hy | hy
  ·exact zkE hy
  ·exact absurd rfl (S.nofree _ (PySem.mem_of_lookup hy))
 ·exact Nat.le_of_lt (x.above y c (PySem.mem_of_lookup h))
 ·have hi:i<vs.length:=by
   unfold start at h2
   by_cases hi:i<vs.length
   ·exact hi
   ·rw [List.getElem?_append_right (by simpa using hi)] at h2
    rw [List.getElem?_replicate] at h2
    split at h2 <;> cases h2
  have ha:vs[i]?=some v:=by
   unfold start at h2
   rw [List.getElem?_append_left (by simpa using hi),List.getElem?_map] at h2
   cases e:vs[i]? with
   | none=>rw [e] at h2; cases h2
   | some a=>rw [e] at h2; cases h2; rfl
  obtain ⟨u,hu,rv⟩:=r.get ha
  have hp:ps[i]?=some y:=by
   rw [<- S.pre,List.getElem?_take_of_lt (by omega)]; exact h1
  have ndP:ps.Nodup:=by rw [<- S.pre]; exact S.nd.sublist (List.take_sublist _ _)
  refine ⟨u,rv,?_⟩
  rcases S.par y (List.mem_of_getElem? hp) with k | k
  ·exact .inl ⟨k,ziX ndP hp hu k⟩
  ·obtain ⟨c,e⟩:=zkE (n:=s.heap.objs.size+1) k
   refine .inr ⟨.inl k,c,e,?_⟩; have q:=x.cell y c e
   rw [ziZ ndP hp hu (by show scope.names.lookup y≠_; rw [k]; decide)] at q
   exact q
 ·exact e0.hok.fresh (Nat.le_of_lt (x.above y c (PySem.mem_of_lookup h)))
 ·unfold start
  show _=N.length
  rw [List.length_append,List.length_map,List.length_replicate]; omega
theorem ztp {CX:CXT} {P:Program} {w:World} {K:W.Frag} {mg:Str->Option Value} {base:Heap} {k:Nat} {f:Addr} {name qual:Str} {params:Arguments} {body:List Stmt} {scope:Scope} {dV kV doc pm cdv ct oc:Value} {an od:Option Addr}
  {osl:Array (Option Value)} {N ps:List Str} {sp:Sp} (lk:K.lookup f=some ⟨oc,od,.func (W.fnOf name qual params body scope dV kV doc pm an cdv ct),osl⟩) (hcd:W.codeIn K cdv qual=true) (S:FnScope N ps scope)
  (len:∀ vs H Q E,sp vs H Q E->vs.length=ps.length)
  (hbody:∀ (A:Around) (outer:List Env) (s:Shared) (H:Hp) (vs:List V) (Q:VK) (E:XK),Room k (A.deeper (envOfC qual scope s.heap.objs.size f cdv))->sp vs H Q E ->
   ∃ t,PSs (zhF CX P w K mg base N qual scope f cdv A outer s H E) body t/\t { nx:=fun _ H'=>Q .non H',rt:=Q } (start N vs) H) :
  FnOk P w K mg base CX (k+1) f (W.fnOf name qual params body scope dV kV doc pm an cdv ct) ps sp:=by
 refine ⟨len,fun A outer s H args us vs Q E hr e0 hb r hsp=>?_⟩
 have hl:=len _ _ _ _ hsp
 have KX:K.In s.heap:=e0.mod.kin.keeps fun b o e=>(e0.bs b o e).1
 have lim:s.heap.NoLimit:=e0.mod.nolimit.keeps fun b o e=>(e0.bs b o e).1
 have hkind:∀ y ∈ ps.zip us,scope.names.lookup y.1=some .local\/(scope.names.lookup y.1=some .cell/\((cellsFrom (s.heap.objs.size+1) scope.names []).lookup y.1).isSome=true):=fun ⟨n,v⟩ hy=>by
  rcases S.par n (List.of_mem_zip hy).1 with q | q
  ·exact .inl q
  ·exact .inr ⟨q,W.cellsFrom_some _ _ _ (.inl q)⟩
 refine codeAny_call_function hr.depth (KX _ _ lk) rfl S.co S.gen rfl (W.codeRec_of KX hcd) (hb _ _ _ _ ?_)
 refine wpAny_newFunctionEnv_cells S.kind hkind fun env he s1 x=>?_
 subst he; refine ⟨lim.keeps x.toInCall.keep,codeAny_func ?_⟩; obtain ⟨t,ht,hq⟩:=hbody A outer s H vs Q E (hr.deeper _) hsp
 have I:Inv (zhF CX P w K mg base N qual scope f cdv A outer s H E) [] (start N vs) H s1:=ziy S hr.hd e0 hl r x
 refine wpAny_mono (ht [] s1 (start N vs) H _ I hq) (fun fl s' hs=>?_) fun e s' hs=>hs
 have fin:∀ {σ':St} {H':Hp} {v:V} {u:Value},Inv (zhF CX P w K mg base N qual scope f cdv A outer s H E) [] σ' H' s'->zao v u->Q v H'->CE outer P w H s Q u s' :=
  fun {σ' H' v u} J rv q=>⟨v,H',J.os,J.bare,J.base,J.hok,rv,q⟩
 cases fl with
 | ret u =>
  obtain ⟨v,σ',H',J,rv,q⟩:=hs; exact fin J rv q
 | next =>
  obtain ⟨σ',H',J,q⟩:=hs; exact fin (v:=V.non) (u:=Value.none) J rfl q
 | brk =>
  obtain ⟨_,_,_,q⟩:=hs; exact False.elim q
 | cont =>
  obtain ⟨_,_,_,q⟩:=hs; exact False.elim q
end L2
namespace L2
open PySem PySem.Spec PyProof.Rows
section
variable {X:Cx} {x:Str} {p pos:Pos} {e:Expr} {es:List Expr} {t:TA} {id T:String} {r:List V->Hp->VK->Prop}
def tCB (r:List V->Hp->VK->Prop) (t:TA):TE:=fun σ H Q=>t σ H fun vs H1=>r vs H1 Q
theorem zoh (hc:zbZ X (.builtin id) r) (hg:Gl X x) (hm:X.mg x=none) (hv:bootBuiltins x=some (.builtin id)) (ha:PA X (e :: es) t) (hn:x≠"__name__":=by decide) (hdb:(x == ("__debug__":Str))=false:=by decide)
  (he:starEach (e :: es) X.env=(false,eval e X.env) :: starEach es X.env:=by rfl) (hpl:(backTo pos (starEach es X.env)).any (·.1)=false:=by rfl):PE X (.Call (.Name x p) (e :: es) [] pos) (tCB r t):=by
 intro pins s σ H Q I h; refine wpAny_Call_Name_kw (zfI I hg hm hv ?_ hn hdb)
 exact PyProof.Rows.callWith_builtin1 (thn (ha pos pins s σ H _ I h) fun us s1 ⟨vs,H1,I1,r1,q1⟩=>hc pins s1 σ H1 vs us Q I1 r1 q1) he hpl
theorem zh5 (hc:zbZ X (.type T) r) (hg:Gl X x) (hm:X.mg x=none) (hv:bootBuiltins x=some (.type T)) (ha:PA X (e :: es) t) (hn:x≠"__name__":=by decide) (hdb:(x == ("__debug__":Str))=false:=by decide)
  (he:starEach (e :: es) X.env=(false,eval e X.env) :: starEach es X.env:=by rfl) (hpl:(backTo pos (starEach es X.env)).any (·.1)=false:=by rfl):PE X (.Call (.Name x p) (e :: es) [] pos) (tCB r t):=by
 intro pins s σ H Q I h; refine wpAny_Call_Name_kw (zfI I hg hm hv ?_ hn hdb)
 exact PyProof.Rows.callWith_type1 (thn (ha pos pins s σ H _ I h) fun us s1 ⟨vs,H1,I1,r1,q1⟩=>hc pins s1 σ H1 vs us Q I1 r1 q1) he hpl
end
end L2
namespace HT
open PySem PyProof.Rows
section
open PySem.SeqAt
open PySem.AutoSeq1 (wpAny_loadPart')
open PySem.MeetsSeq PySem.MeetsSeq2 PySem.MeetsSeq3
end
section
variable {prog:Program} {w:World} {A:Around} {E:Value->Shared->Prop} {s:Shared}
theorem cat_tup {t b:Addr} {vs ws:List Value} {Q:Value->Shared->Prop} (ht:IsTup s.heap t vs.toArray) (hb:IsTup s.heap b ws.toArray) (hv:vs≠[])
  (h1:ws=[]->Q (.ref t) s) (h2:ws≠[]->Q (.ref s.heap.objs.size) { s with heap:=s.heap.push { cls:=.type "tuple",data:=.seq (vs ++ ws).toArray } })
  (hsz:vs.length+ws.length<=sizeLine):wpAny (model prog w) A (binaryOp .Add (.ref t) (.ref b)) Q E s:=by
 obtain ⟨⟨cls,dd,data,sl⟩,ho,hc,n,hd⟩:=id ht
 obtain ⟨⟨cls2,dd2,data2,sl2⟩,ho2,hc2,n2,hd2⟩:=id hb
 simp only at hc hd hc2 hd2
 subst hc hd hc2 hd2
 have e:vs.toArray ++ ws.toArray=(vs ++ ws).toArray:=by simp
 by_cases hw:ws=[]
 ·exact concat_meets ⟨_,ho,rfl⟩ ⟨_,ho2,rfl⟩ noFill_tuple_add seq_tuple_add PySem.F.slot_tuple_add PySem.F.entry_tuple_add (PySem.F.args_tuple_add_2 _ _)
   (tuple_addW1 t b vs.toArray ws.toArray n n2 dd dd2 sl sl2 (by simpa using hv) (by simp [hw])) ⟨ho,ho2,h1 hw⟩
 ·refine concat_meets ⟨_,ho,rfl⟩ ⟨_,ho2,rfl⟩ noFill_tuple_add seq_tuple_add PySem.F.slot_tuple_add PySem.F.entry_tuple_add (PySem.F.args_tuple_add_2 _ _)
   (tuple_addW2 t b vs.toArray ws.toArray n n2 dd dd2 sl sl2 (by simpa using hv) (by simpa using hw) (by rw [List.size_toArray,List.size_toArray]; exact hsz)) ⟨ho,ho2,?_⟩
  rw [e]; exact h2 hw
def sIx (n d:Nat):Option Int->Nat
 | none=>d
 | some v=>if v<0 then (v+(n:Int)).toNat else min v.toNat n
theorem sIx_none (n d:Nat):sIx n d none=d:=rfl
theorem sIx_nat (n d k:Nat):sIx n d (some (k:Int))=min k n:=by
 show (if (k:Int)<0 then ((k:Int)+(n:Int)).toNat else min (k:Int).toNat n)=min k n
 rw [if_neg (by omega),Int.toNat_natCast]
theorem zsc (n d:Nat) (hd:d<=n) (o:Option Int):sIx n d o<=n:=by
 cases o with
 | none=>exact hd
 | some v =>
  show (if v<0 then (v+(n:Int)).toNat else min v.toNat n)<=n
  by_cases hv:v<0
  ·rw [if_pos hv]; omega
  ·rw [if_neg hv]; exact Nat.min_le_right _ _
theorem zm7 (v:Int) (n d:Nat):(if v<0 then max (v+(n:Int)) 0 else min v (n:Int))=((sIx n d (some v):Nat):Int):=by
 show (if v<0 then max (v+(n:Int)) 0 else min v (n:Int))=(((if v<0 then (v+(n:Int)).toNat else min v.toNat n):Nat):Int)
 by_cases hv:v<0
 ·simp only [if_pos hv]; omega
 ·simp only [if_neg hv]; omega
theorem zlt (lo hi:Option Int) (n:Nat):Builtin.Slice.sliceAdjust lo hi 1 (n:Int)=(((sIx n 0 lo:Nat):Int),((sIx n n hi:Nat):Int)):=by
 have h1:¬ ((1:Int)<0):=by omega
 unfold Builtin.Slice.sliceAdjust; simp only [h1,if_false]; refine Prod.ext ?_ ?_
 ·cases lo with
  | none=>rfl
  | some v=>exact zm7 v n 0
 ·cases hi with
  | none=>rfl
  | some v=>exact zm7 v n n
theorem zk5 (i j:Nat):Builtin.Slice.slicePlaces (i:Int) (j:Int) 1=j-i:=by
 unfold Builtin.Slice.slicePlaces
 have h1:(1:Int) > 0:=by omega
 simp only [h1,if_true,Int.ediv_one]
 split <;> omega
theorem zgp {v:Value} {o:Option Int} {Q:Option Int->Shared->Prop} (p:IsPart v o) (h:Q o s):wpAny (model prog w) A (Builtin.Slice.slicePartIndex v) Q E s:=by
 cases p with
 | none=>exact slicePart_none h
 | int i t=>exact slicePart_int h
theorem zcs {sl:Addr} {vl vu:Value} {lo hi:Option Int} {n:Nat} {Q:Int × Int × Nat->Shared->Prop} (hs:s.heap.IsSliceOf sl vl vu .none) (pl:IsPart vl lo) (pu:IsPart vu hi)
  (h:Q (((sIx n 0 lo:Nat):Int),1,sIx n n hi-sIx n 0 lo) s):wpAny (model prog w) A (Builtin.Slice.sliceApplied (.ref sl) (pure (n:Int))) Q E s:=by
 obtain ⟨os,hos,hcs,hds⟩:=id hs; unfold Builtin.Slice.sliceApplied Builtin.Slice.sliceFields; refine wpAny_bind (wpAny_bind (wpAny_field hos hds (x:=vl) rfl (wpAny_bind (wpAny_field hos hds (x:=vu) rfl (wpAny_bind (wpAny_field hos hds (x:=.none) rfl (wpAny_pure ?_))))))); refine wpAny_bind (slicePart_none ?_)
 show wpAny _ _ (if ((1:Int) == 0)=true then _ else _) _ _ s
 rw [if_neg (by decide)]
 refine wpAny_bind (zgp pl (wpAny_bind (zgp pu (wpAny_bind (wpAny_pure ?_)))))
 show wpAny _ _ (match Builtin.Slice.sliceAdjust lo hi 1 (n:Int) with | (lo,hi)=>pure (lo,(1:Int),Builtin.Slice.slicePlaces lo hi 1)) _ _ s
 rw [zlt lo hi n]
 show wpAny _ _ (pure (((sIx n 0 lo:Nat):Int),(1:Int),Builtin.Slice.slicePlaces ((sIx n 0 lo:Nat):Int) ((sIx n n hi:Nat):Int) 1)) _ _ s
 rw [zk5]; exact wpAny_pure h
theorem zn8 (xs:Array Value) (i k:Nat):((List.range k).filterMap fun (m:Nat)=>xs[((i:Int)+(m:Int) * 1).toNat]?).toArray=((xs.toList.drop i).take k).toArray:=by
 have e:(fun (m:Nat)=>xs[((i:Int)+(m:Int) * 1).toNat]?)=fun m=>xs[i+m]?:=by
  funext m
  have:((i:Int)+(m:Int) * 1).toNat=i+m:=by omega
  rw [this]
 rw [e]
 have:=pick_run xs i k
 rw [List.filterMap_map] at this
 have e2:((fun x=>xs[x]?) ∘ fun x=>i+x)=fun m=>xs[i+m]?:=rfl
 rw [e2] at this; rw [this]
theorem getItem_tuple_cut {t sl:Addr} {items:Array Value} {vl vu:Value} {lo hi:Option Int} {Q:Value->Shared->Prop} (ht:IsTup s.heap t items) (hs:s.heap.IsSliceOf sl vl vu .none) (pl:IsPart vl lo) (pu:IsPart vu hi)
  (hw:¬ (sIx items.size 0 lo=0/\sIx items.size items.size hi=items.size))
  (h:Q (.ref s.heap.objs.size) { s with heap:=s.heap.push { cls:=.type "tuple",data:=.seq ((items.toList.drop (sIx items.size 0 lo)).take (sIx items.size items.size hi-sIx items.size 0 lo)).toArray } })
  (hsz:items.size<=sizeLine):wpAny (model prog w) A (getItem (.ref t) (.ref sl)) Q E s:=by
 have htake:sizeOk (.seq ((items.toList.drop (sIx items.size 0 lo)).take (sIx items.size items.size hi-sIx items.size 0 lo)).toArray):=by
  show ((items.toList.drop (sIx items.size 0 lo)).take (sIx items.size items.size hi-sIx items.size 0 lo)).toArray.size<=sizeLine
  rw [List.size_toArray,List.length_take,List.length_drop,Array.length_toList]; omega
 have hj:sIx items.size items.size hi<=items.size:=zsc _ _ (Nat.le_refl _) hi
 obtain ⟨os,hos,hcs,hds⟩:=id hs
 have hTs:s.TypeIs (.ref sl) "slice":=⟨os,hos,hcs⟩
 unfold getItem
 try with_reducible refine wpAny_holding ?_
 first | refine wpAny_bind (wpAny_pure ?_) | skip
 refine wpAny_bind (wpAny_sequenceKey ht.typeIs (by decide) ?_)
 refine wpAny_bind (wpAny_callSpecial?_slot (name:=Str.ofString "__getitem__") ht.typeIs PyProof.Rows.slot_tuple_getitem
  (wpAny_call_entry PyProof.Rows.slot_tuple_getitem ht.typeIs entry_tuple_getitem ?_ (args_tuple_getitem _ _)))
 show wpAny _ _ (Builtin.Tuple.tupleItemsOf (.ref t) >>= _) _ _ s
 refine wpAny_bind (tupleItemsOf_ ht ?_); refine wpAny_bind (wpAny_typeOf hTs ?_)
 rw [if_pos (by decide)]
 refine wpAny_bind (zcs hs pl pu ?_)
 have hno:¬ ((((sIx items.size 0 lo:Nat):Int) == 0 && (1:Int) == 1 && (sIx items.size items.size hi-sIx items.size 0 lo) == items.size)=true):=by
  intro q; rw [Bool.and_eq_true,Bool.and_eq_true] at q
  have q1:((sIx items.size 0 lo:Nat):Int)=0:=eq_of_beq q.1.1
  have q2:sIx items.size items.size hi-sIx items.size 0 lo=items.size:=eq_of_beq q.2
  exact hw ⟨by omega,by omega⟩
 show wpAny _ _ (if (((sIx items.size 0 lo:Nat):Int) == 0 && (1:Int) == 1 && (sIx items.size items.size hi-sIx items.size 0 lo) == items.size)=true then _ else _) _ _ s
 rw [if_neg hno,zn8]
 first
  | exact wpAny_bind (m:=Builtin.Tuple.tupleExact _) (wpAny_newObj_type (wpAny_pure ⟨_,rfl,wpAny_pure h⟩) htake)
  | exact wpAny_bind (m:=Builtin.Tuple.tupleExact _) (wpAny_newObj_type (wpAny_bind (wpAny_pure (wpAny_pure ⟨_,rfl,wpAny_pure h⟩))) htake)
  | exact wpAny_bind (wpAny_bind (m:=Builtin.Tuple.tupleExact _) (wpAny_newObj_type (wpAny_pure (wpAny_pure ⟨_,rfl,wpAny_pure h⟩)) htake))
  | exact wpAny_bind (wpAny_bind (m:=Builtin.Tuple.tupleExact _) (wpAny_newObj_type (wpAny_pure ⟨_,rfl,wpAny_pure h⟩) htake))
end
end HT
namespace L2
open PySem PySem.Spec PyProof.Rows
abbrev TO:=St->Hp->(Option Int->Hp->Prop)->Prop
def PO (X:Cx) (e:Option Expr) (t:TO):Prop :=
 ∀ (pins:List (Addr × Obj)) (s:Shared) (σ:St) (H:Hp) (Q:Option Int->Hp->Prop),Inv X pins σ H s->t σ H Q ->
  wpAny (model X.prog X.w) X.A (evalPart e X.env) (fun u s'=>∃ o H',Inv X pins σ H' s'/\IsPart u o/\Q o H') X.xe s
def zpR:TO:=fun _ H Q=>Q none H
def zuu (t:TE):TO:=fun σ H Q=>t σ H fun x H1=>∃ i,x=.int i/\Q (some i) H1
section
variable {X:Cx} {e:Expr} {te:TE} {lo hi:Option Expr} {tl th:TO} {pos p2:Pos}
theorem zqo:PO X none zpR:=by
 intro pins s σ H Q I h; rw [evalPart_none]; exact wpAny_pure ⟨none,H,I,.none,h⟩
theorem zqn (h:PE X e te):PO X (some e) (zuu te):=by
 intro pins s σ H Q I hw; rw [evalPart_some]
 refine thn (h pins s σ H _ I hw) fun u s1 ⟨x,H1,I1,r1,q1⟩=>?_
 obtain ⟨i,rfl,q⟩:=q1; obtain ⟨t,rfl⟩:=r1; exact ⟨some i,H1,I1,.int i t,q⟩
def SlR (X:Cx) (r:V->Option Int->Option Int->Hp->VK->Prop):Prop :=
 ∀ (pins:List (Addr × Obj)) (s:Shared) (σ:St) (H:Hp) (x:V) (v vl vu:Value) (lo hi:Option Int) (sl:Addr) (Q:VK),Inv X pins σ H s->zao x v->s.heap.IsSliceOf sl vl vu .none->IsPart vl lo->IsPart vu hi->r x lo hi H Q ->
  ∃ T id,typeLookup (.type T) "__getitem__"=pure (some (.builtin id))/\s.TypeIs v T/\wpAny (model X.prog X.w) X.A (getItem v (.ref sl)) (EP X pins σ Q) X.xe s
theorem SlR.or {r r':V->Option Int->Option Int->Hp->VK->Prop} (h:SlR X r) (h':SlR X r'):SlR X (fun x lo hi H Q=>r x lo hi H Q\/r' x lo hi H Q):=by
 intro pins s σ H x v vl vu lo hi sl Q I rx hs pl pu q
 rcases q with q | q
 ·exact h pins s σ H x v vl vu lo hi sl Q I rx hs pl pu q
 ·exact h' pins s σ H x v vl vu lo hi sl Q I rx hs pl pu q
def tSl (r:V->Option Int->Option Int->Hp->VK->Prop) (te:TE) (tl th:TO):TE:=fun σ H Q=>te σ H fun x H1=>tl σ H1 fun l H2=>th σ H2 fun u H3=>r x l u H3 Q
theorem zod {r:V->Option Int->Option Int->Hp->VK->Prop} (hr:SlR X r) (he:PE X e te) (hl:PO X lo tl) (hu:PO X hi th):PE X (.Subscript e (.Slice lo hi none p2) pos) (tSl r te tl th):=by
 intro pins s σ H Q I h
 refine Subscript_ (thn (he pins s σ H _ I h) fun v s1 ⟨x,H1,I1,r1,q1⟩=>?_)
 refine wpAny_Slice (thn (hl pins s1 σ H1 _ I1 q1) fun vl s2 ⟨l,H2,I2,pl,q2⟩=>thn (hu pins s2 σ H2 _ I2 q2) fun vu s3 ⟨u,H3,I3,pu,q3⟩=>?_)
 rw [evalPart_none]; refine wpAny_pure ?_
 have I4:Inv X pins σ H3 { s3 with heap:=s3.heap.push { cls:=.type "slice",data:=.fields #[vl,vu,.none] } }:=I3.kept (t':=s3.toks) fun b ob q=>Heap.get?_push_of_some _ q
 obtain ⟨T,id,hT,ht,hg⟩:=hr pins { s3 with heap:=s3.heap.push { cls:=.type "slice",data:=.fields #[vl,vu,.none] } } σ H3 x v vl vu l u s3.heap.objs.size Q I4 r1 (Heap.IsSliceOf.new ..) pl pu q3
 show wpAny (model X.prog X.w) X.A (subscriptTail e (.Slice lo hi none p2) v (.ref s3.heap.objs.size)) (EP X pins σ Q) X.xe { s3 with heap:=s3.heap.push { cls:=.type "slice",data:=.fields #[vl,vu,.none] } }
 exact tail_any (ops:=[.ref s3.heap.objs.size,v]) ht hT hg (by with_unfolding_all rfl)
def zm2 (xs:List V) (lo hi:Option Int):List V:=(xs.drop (HT.sIx xs.length 0 lo)).take (HT.sIx xs.length xs.length hi-HT.sIx xs.length 0 lo)
theorem zfY (xs:List V) (lo hi:Option Int):(zm2 xs lo hi).length<=xs.length:=by
 unfold zm2; rw [List.length_take,List.length_drop]; omega
def zwu (K:W.Frag):V->Option Int->Option Int->Hp->VK->Prop:=fun x lo hi H Q=>∃ a xs,x=.ref a/\SqT K H a xs /\
 ¬ (HT.sIx xs.length 0 lo=0/\HT.sIx xs.length xs.length hi=xs.length)/\∀ p,H p=none->Q (.ref p) (upd H p (.tup (zm2 xs lo hi)))
theorem zr8:SlR X (zwu X.K):=by
 intro pins s σ H x v vl vu lo hi sl Q I rx hs pl pu h; obtain ⟨a,xs,rfl,hx,hw,q⟩:=h; cases rx; obtain ⟨its,r,ht,hz⟩:=I.tuple hx
 have hlen:its.toArray.size=xs.length:=by rw [List.size_toArray]; exact r.length.symm
 refine ⟨"tuple",_,PyProof.Rows.slot_tuple_getitem.lookup,ht.typeIs,?_⟩
 refine HT.getItem_tuple_cut ht hs pl pu (by rw [hlen]; exact hw) ?_ (by rw [hlen]; exact hz)
 rw [hlen]
 refine ⟨.ref s.heap.objs.size,_,I.laid (t':=s.toks) (o:=.tup (zm2 xs lo hi)) (fun b ob q=>Heap.get?_push_of_some _ q) (Nat.le_refl _) ?_,rfl,q _ (I.hok.fresh (Nat.le_refl _))⟩
 exact ⟨Nat.le_trans (zfY xs lo hi) hz,_,(r.drop (HT.sIx xs.length 0 lo)).take (HT.sIx xs.length xs.length hi-HT.sIx xs.length 0 lo),IsTup.new _ _⟩
def zuT (K:W.Frag):R2:=fun x y H Q=>∃ a b xs ys,x=.ref a/\y=.ref b/\SqT K H a xs/\SqT K H b ys/\xs≠[]/\xs.length+ys.length<=sizeLine /\
 (ys=[]->Q (.ref a) H)/\(ys≠[]->∀ p,H p=none->Q (.ref p) (upd H p (.tup (xs ++ ys))))
theorem zae.nil_iff {xs:List V} {us:List Value} (r:zae xs us):us=[]↔xs=[]:=by
 cases r with
 | nil=>simp
 | cons _ _=>simp
theorem zqR:OpR X (binaryOp .Add) (zuT X.K):=by
 intro pins s σ H x y v u Q I rx ry h; obtain ⟨a,b,xs,ys,rfl,rfl,ha,hb,hx,hz,q1,q2⟩:=h; cases rx; cases ry; obtain ⟨its,r1,p1,_⟩:=I.tuple ha; obtain ⟨its2,r2,p2,_⟩:=I.tuple hb
 refine HT.cat_tup p1 p2 (fun z=>hx (r1.nil_iff.mp z)) (fun z=>⟨.ref a,H,I,rfl,q1 (r2.nil_iff.mp z)⟩) (fun z=>?_) (by rw [<- r1.length,<- r2.length]; exact hz)
 refine ⟨.ref s.heap.objs.size,_,I.laid (t':=s.toks) (o:=.tup (xs ++ ys)) (fun b ob q=>Heap.get?_push_of_some _ q) (Nat.le_refl _) ?_,rfl,q2 (fun w=>z (r2.nil_iff.mpr w)) _ (I.hok.fresh (Nat.le_refl _))⟩
 exact ⟨by rw [List.length_append]; exact hz,_,r1.append r2,IsTup.new _ _⟩
end
end L2
namespace L2
open PySem PySem.Spec PyProof.Rows
def ixN (n:Nat) (i:Int):Option Nat:=if 0<=i then (if i<n then some i.toNat else none) else if -(n:Int)<=i then some (i+n).toNat else none
def atI {α:Type} (xs:List α) (i:Int):Option α:=(ixN xs.length i).bind fun j=>xs[j]?
theorem zre {n:Nat} {i:Int} {j:Nat} (h:ixN n i=some j):seqIndex? i n=some j/\j<n/\-(n:Int)<=i/\i<n:=by
 unfold ixN at h
 by_cases h0:0<=i
 ·rw [if_pos h0] at h
  by_cases h1:i<n
  ·rw [if_pos h1] at h
   have e:i.toNat=j:=Option.some.inj h
   exact ⟨by rw [seqIndex_of h0 h1,e],by omega,by omega,h1⟩
  ·rw [if_neg h1] at h; cases h
 ·rw [if_neg h0] at h
  by_cases h1:-(n:Int)<=i
  ·rw [if_pos h1] at h
   have e:(i+n).toNat=j:=Option.some.inj h
   exact ⟨by rw [seqIndex_neg (by omega) h1,e],by omega,h1,by omega⟩
  ·rw [if_neg h1] at h; cases h
theorem zjL {α:Type} {xs:List α} {i:Int} {v:α} (h:atI xs i=some v):∃ j,seqIndex? i xs.length=some j/\xs[j]?=some v/\j<xs.length/\-(xs.length:Int)<=i/\i<xs.length:=by
 unfold atI at h
 cases e:ixN xs.length i with
 | none=>rw [e] at h; cases h
 | some j =>
  rw [e] at h; obtain ⟨h1,h2,h3,h4⟩:=zre e; exact ⟨j,h1,h,h2,h3,h4⟩
theorem zcU {α:Type} {xs:List α} {j:Nat} {v:α} (h:xs[j]?=some v):atI xs (j:Int)=some v:=by
 have hj:j<xs.length:=(List.getElem?_eq_some_iff.mp h).1
 have e:ixN xs.length (j:Int)=some j:=by
  unfold ixN
  rw [if_pos (by omega),if_pos (by omega)]; simp
 unfold atI; rw [e]; exact h
theorem zkJ {α:Type} (xs:List α) (v:α):atI (xs ++ [v]) (-1)=some v:=by
 have hl:(xs ++ [v]).length=xs.length+1:=by simp
 have e:ixN (xs ++ [v]).length (-1)=some xs.length:=by
  unfold ixN
  rw [hl,if_neg (by decide),if_pos (by omega)]
  congr 1
  omega
 unfold atI; rw [e]
 show (xs ++ [v])[xs.length]?=some v
 simp
def znh (b:Expr):Prop:=∀ o i,subscripted b false o i=operate [o,i] (getItem o i)
def IxR (X:Cx) (r:R2):Prop :=
 ∀ (value slice:Expr) (pins:List (Addr × Obj)) (s:Shared) (σ:St) (H:Hp) (x y:V) (v u:Value) (Q:VK),Inv X pins σ H s->zao x v->zao y u->r x y H Q ->
  subscripted slice false v u=operate [v,u] (getItem v u)->wpAny (model X.prog X.w) X.A (subscriptTail value slice v u) (EP X pins σ Q) X.xe s
def MtR (X:Cx) (id:String) (r:V->List V->Hp->VK->Prop):Prop :=
 ∀ (pins:List (Addr × Obj)) (s:Shared) (σ:St) (H:Hp) (x:V) (xs:List V) (v:Value) (us:List Value) (Q:VK),Inv X pins σ H s->zao x v->zae xs us->r x xs H Q ->
  wpAny (model X.prog X.w) X.A (call (.builtin id) (v :: us)) (EP X pins σ Q) X.xe s
section
variable {X:Cx} {a b:Expr} {ta tb:TE} {pos:Pos}
theorem IxR.or {r r':R2} (h:IxR X r) (h':IxR X r'):IxR X (fun x y H Q=>r x y H Q\/r' x y H Q):=by
 intro value slice pins s σ H x y v u Q I rx ry q hs
 rcases q with q | q
 ·exact h value slice pins s σ H x y v u Q I rx ry q hs
 ·exact h' value slice pins s σ H x y v u Q I rx ry q hs
theorem zuX {r:R2} (hr:IxR X r) (ha:PE X a ta) (hb:PE X b tb) (hs:znh b):PE X (.Subscript a b pos) (tOp r ta tb):=by
 intro pins s σ H Q I h
 exact Subscript_ (zvE ha hb I h fun v u s2 x y H2 I2 rx ry q=>hr a b pins s2 σ H2 x y v u Q I2 rx ry q (hs _ _))
def zvX (K:W.Frag):R2:=fun x y H Q=>∃ p xs i v,x=.ref p/\y=.int i/\SqL K H p xs/\atI xs i=some v/\Q v H
def zvV (K:W.Frag):R2:=fun x y H Q=>∃ p xs i v,x=.ref p/\y=.int i/\SqT K H p xs/\atI xs i=some v/\Q v H
def zvW:R2:=fun x y H Q=>∃ z i c,x=.str z/\y=.int i/\z.length<=sizeLine/\atI z.cps.toList i=some c/\Q (.str ⟨#[c]⟩) H
theorem zrc:IxR X (zvX X.K):=by
 intro value slice pins s σ H x y v u Q I rx ry h hs; obtain ⟨p,xs,i,z,rfl,rfl,hq,he,q⟩:=h; cases rx; obtain ⟨t,rfl⟩:=ry; obtain ⟨its,r,pl,hz⟩:=I.list hq; obtain ⟨j,h1,h2,h3,h4,h5⟩:=zjL he; obtain ⟨w,ew,rw'⟩:=r.get h2; have hl:=r.length; have hn:=ziq
 have fin:EP X pins σ Q w s:=⟨z,H,I,rw',q⟩
 by_cases h0:0<=i
 ·have hj:i.toNat=j:=by
   rw [seqIndex_of h0 h5] at h1; exact Option.some.inj h1
  exact item_listR pl.isList h0 (by omega) (by rw [hj]; simpa using ew) fin hs
 ·have hj:(i+(its.toArray.size:Int)).toNat=j:=by
   rw [seqIndex_neg (by omega) h4] at h1
   rw [List.size_toArray,<- hl]; exact Option.some.inj h1
  exact subscriptTail_builtinR (x:=w) pl.isList.typeIs slot_list_getitem.lookup
   (wpAny_getItem_list_neg (Q:=fun r s'=>r=w/\EP X pins σ Q r s') pl.isList (by omega) (by rw [List.size_toArray] <;> omega) (by omega) (by rw [hj]; simpa using ew) ⟨rfl,fin⟩) hs
theorem zth:IxR X (zvV X.K):=by
 intro value slice pins s σ H x y v u Q I rx ry h hs; obtain ⟨p,xs,i,z,rfl,rfl,hq,he,q⟩:=h; cases rx; obtain ⟨t,rfl⟩:=ry; obtain ⟨its,r,pl,hz⟩:=I.tuple hq; obtain ⟨j,h1,h2,h3,h4,h5⟩:=zjL he; obtain ⟨w,ew,rw'⟩:=r.get h2; have hl:=r.length; have hn:=ziq
 have fin:EP X pins σ Q w s:=⟨z,H,I,rw',q⟩
 exact subscriptTail_builtinR (x:=w) pl.typeIs slot_tuple_getitem.lookup
  (getItem_tuple (j:=j) (Q:=fun r s'=>r=w/\EP X pins σ Q r s') pl (by omega) (by omega) (by rw [List.size_toArray,<- hl]; exact h1) (by simpa using ew) ⟨rfl,fin⟩) hs
theorem zti:IxR X zvW:=by
 intro value slice pins s σ H x y v u Q I rx ry h hs; obtain ⟨z,i,c,rfl,rfl,hz,he,q⟩:=h; obtain ⟨t,rfl⟩:=rx; obtain ⟨t',rfl⟩:=ry; obtain ⟨j,h1,h2,h3,h4,h5⟩:=zjL he
 have hl:z.cps.toList.length=z.length:=by simp [Str.length]
 rw [hl] at h1 h4 h5; have hn:=ziq
 exact tail_any (typeIs_str s z t) slot_str_getitem.lookup (getItem_str (c:=c) (by
  have e1:decide (i< -(2 ^ 63:Int))=false:=decide_eq_false (by omega)
  have e2:decide (i >= 2 ^ 63)=false:=decide_eq_false (by omega)
  rw [e1,e2,Bool.or_false]) (by rw [h1]; simpa using h2) ⟨.str ⟨#[c]⟩,H,I.tok _,⟨_,rfl⟩,q⟩) hs
def rIx (K:W.Frag):R2:=fun x y H Q=>zvX K x y H Q\/zvV K x y H Q\/zvW x y H Q
theorem ztj:IxR X (rIx X.K):=zrc.or (zth.or zti)
theorem zhP (lo hi:Option Int) (n:Nat):(sliceBounds lo hi none n).1=((HT.sIx n 0 lo:Nat):Int)/\(sliceBounds lo hi none n).2.1=((HT.sIx n n hi:Nat):Int)/\(sliceBounds lo hi none n).2.2=1:=by
 refine ⟨?_,?_,rfl⟩
 ·cases lo with
  | none=>simp [sliceBounds,HT.sIx]
  | some i =>
   simp only [sliceBounds,HT.sIx,Option.getD_none,show (1:Int) > 0 by decide,if_true]
   by_cases h:i<0
   ·simp only [h,if_true] <;> omega
   ·simp only [h,if_false] <;> omega
 ·cases hi with
  | none=>simp [sliceBounds,HT.sIx]
  | some i =>
   simp only [sliceBounds,HT.sIx,Option.getD_none,show (1:Int) > 0 by decide,if_true]
   by_cases h:i<0
   ·simp only [h,if_true] <;> omega
   ·simp only [h,if_false] <;> omega
theorem zgS (its:List Value) (lo hi:Option Int):slicePick its.toArray lo hi none=((its.drop (HT.sIx its.length 0 lo)).take (HT.sIx its.length its.length hi-HT.sIx its.length 0 lo)).toArray:=by
 obtain ⟨h1,h2,h3⟩:=zhP lo hi its.toArray.size; unfold slicePick; rw [h1,h2,h3]
 simp only [sliceRange_one,pick_run,List.size_toArray] <;> rfl
def zww (K:W.Frag):V->Option Int->Option Int->Hp->VK->Prop:=fun x lo hi H Q=>∃ a xs,x=.ref a/\SqL K H a xs/\∀ p,H p=none->Q (.ref p) (upd H p (.lst (zm2 xs lo hi)))
theorem zp0:SlR X (zww X.K):=by
 intro pins s σ H x v vl vu lo hi sl Q I rx hs pl pu h; obtain ⟨a,xs,rfl,hx,q⟩:=h; cases rx; obtain ⟨its,r,ht,hz⟩:=I.list hx; have hlen:=r.length; refine ⟨"list",_,slot_list_getitem.lookup,ht.isList.typeIs,?_⟩
 refine wpAny_getItem_list_slice ht.isList hs pl pu .none (by simp) ?_ (by rw [List.size_toArray] <;> omega)
 rw [zgS,<- hlen]
 refine ⟨.ref s.heap.objs.size,_,I.laid (t':=s.toks) (o:=.lst (zm2 xs lo hi)) (fun b ob q=>Heap.get?_push_of_some _ q) (Nat.le_refl _) ?_,rfl,q _ (I.hok.fresh (Nat.le_refl _))⟩
 exact ⟨Nat.le_trans (zfY xs lo hi) hz,_,0,(r.drop (HT.sIx xs.length 0 lo)).take (HT.sIx xs.length xs.length hi-HT.sIx xs.length 0 lo),Heap.get?_push_size _ rfl⟩
def zfT:V->Bool
 | .non=>true
 | .bl _=>true
 | .int _=>true
 | .str _=>true
 | _=>false
def eqV:V->V->Bool
 | .non,.non=>true
 | .bl a,.bl b=>a == b
 | .bl a,.int b=>(if a then 1 else 0) == b
 | .int a,.bl b=>a == (if b then 1 else 0)
 | .int a,.int b=>a == b
 | .str a,.str b=>a == b
 | _,_=>false
theorem zmO {A:Around} {s:Shared} {y x:V} {u v:Value} (ry:zao y u) (rx:zao x v) (fy:zfT y=true) (fx:zfT x=true):SeqAt.EqAt A s u v (eqV y x):=by
 cases y with
 | non =>
  cases ry
  cases x with
  | non=>cases rx; exact SeqAt.EqAt.same _
  | bl b=>cases rx; exact SeqAt.EqAt.none_bool b
  | int b=>obtain ⟨t,rfl⟩:=rx; exact SeqAt.EqAt.none_int b t
  | str b=>obtain ⟨t,rfl⟩:=rx; exact SeqAt.EqAt.none_str b t
  | _=>exact absurd (show false=true from fx) Bool.false_ne_true
 | bl a =>
  cases ry
  cases x with
  | non=>cases rx; exact SeqAt.EqAt.bool_none a
  | bl b=>cases rx; exact SeqAt.EqAt.bool_bool a b
  | int b=>obtain ⟨t,rfl⟩:=rx; exact SeqAt.EqAt.bool_int a b t
  | str b=>obtain ⟨t,rfl⟩:=rx; exact SeqAt.EqAt.bool_str a b t
  | _=>exact absurd (show false=true from fx) Bool.false_ne_true
 | int a =>
  obtain ⟨t',rfl⟩:=ry
  cases x with
  | non=>cases rx; exact SeqAt.EqAt.int_none a t'
  | bl b=>cases rx; exact SeqAt.EqAt.int_bool a t' b
  | int b=>obtain ⟨t,rfl⟩:=rx; exact SeqAt.EqAt.int_int a t' b t
  | str b=>obtain ⟨t,rfl⟩:=rx; exact SeqAt.EqAt.int_str a t' b t
  | _=>exact absurd (show false=true from fx) Bool.false_ne_true
 | str a =>
  obtain ⟨t',rfl⟩:=ry
  cases x with
  | non=>cases rx; exact SeqAt.EqAt.str_none a t'
  | bl b=>cases rx; exact SeqAt.EqAt.str_bool a t' b
  | int b=>obtain ⟨t,rfl⟩:=rx; exact SeqAt.EqAt.str_int a t' b t
  | str b=>obtain ⟨t,rfl⟩:=rx; exact SeqAt.EqAt.str_str a t' b t
  | _=>exact absurd (show false=true from fx) Bool.false_ne_true
 | _=>exact absurd (show false=true from fy) Bool.false_ne_true
def eqU (x:V) (u:Value):Bool:=match u with
 | .none=>eqV .non x
 | .bool b=>eqV (.bl b) x
 | .int i _=>eqV (.int i) x
 | .str z _=>eqV (.str z) x
 | _=>false
theorem zpF {x y:V} {u:Value} (r:zao y u) (f:zfT y=true):eqU x u=eqV y x:=by
 cases y with
 | non=>cases r; rfl
 | bl b=>cases r; rfl
 | int i=>obtain ⟨t,rfl⟩:=r; rfl
 | str z=>obtain ⟨t,rfl⟩:=r; rfl
 | _=>exact absurd (show false=true from f) Bool.false_ne_true
theorem zfZ {x:V}:∀ {xs:List V} {us:List Value},zae xs us->xs.all zfT=true->us.any (eqU x)=xs.any fun y=>eqV y x
 | _,_,.nil,_=>rfl
 | y :: xs,u :: us,.cons r t,f=>by
  rw [List.all_cons,Bool.and_eq_true] at f; rw [List.any_cons,List.any_cons,zpF r f.1,zfZ t f.2]
theorem zd6 {A:Around} {s:Shared} {x:V} {v:Value} (rx:zao x v) (fx:zfT x=true):∀ {xs:List V} {us:List Value},zae xs us->xs.all zfT=true->∀ u ∈ us,SeqAt.EqAt A s u v (eqU x u)
 | _,_,.nil,_=>fun u hu=>by cases hu
 | y :: xs,u :: us,.cons r t,f=>fun u' hu=>by
  rw [List.all_cons,Bool.and_eq_true] at f
  rcases List.mem_cons.mp hu with rfl | hu
  ·rw [zpF r f.1]; exact zmO r rx f.1 fx
  ·exact zd6 rx fx t f.2 u' hu
def inV (x:V) (xs:List V):Bool:=xs.any fun y=>eqV y x
def rIn (K:W.Frag) (neg:Bool):R2:=fun x y H Q=>∃ p xs,y=.ref p/\(SqL K H p xs\/SqT K H p xs)/\zfT x=true/\xs.all zfT=true/\Q (.bl (if neg then !inV x xs else inV x xs)) H
theorem zia:OpR X (compareOp .In) (rIn X.K false):=by
 intro pins s σ H x y v u Q I rx ry h; obtain ⟨p,xs,rfl,hq,fx,fs,q⟩:=h; cases ry
 rcases hq with hq | hq
 ·obtain ⟨its,r,pl,hz⟩:=I.list hq
  refine SeqAt.in_listAt (eqU x) pl.isList (fun w hw=>zd6 rx fx r fs w (by simpa using hw)) ⟨.bl _,H,I,rfl,?_⟩
  rw [show its.toArray.any (eqU x)=its.any (eqU x) by simp,zfZ r fs]
  exact q
 ·obtain ⟨its,r,pl,hz⟩:=I.tuple hq
  refine SeqAt.in_tupleAt (eqU x) pl (fun w hw=>zd6 rx fx r fs w (by simpa using hw)) ⟨.bl _,H,I,rfl,?_⟩
  rw [show its.toArray.any (eqU x)=its.any (eqU x) by simp,zfZ r fs]
  exact q
theorem zh8:OpR X (compareOp .NotIn) (rIn X.K true):=by
 intro pins s σ H x y v u Q I rx ry h; obtain ⟨p,xs,rfl,hq,fx,fs,q⟩:=h; cases ry
 rcases hq with hq | hq
 ·obtain ⟨its,r,pl,hz⟩:=I.list hq
  refine SeqAt.notIn_listAt (eqU x) pl.isList (fun w hw=>zd6 rx fx r fs w (by simpa using hw)) ⟨.bl _,H,I,rfl,?_⟩
  rw [show its.toArray.any (eqU x)=its.any (eqU x) by simp,zfZ r fs]
  exact q
 ·obtain ⟨its,r,pl,hz⟩:=I.tuple hq
  refine SeqAt.notIn_tupleAt (eqU x) pl (fun w hw=>zd6 rx fx r fs w (by simpa using hw)) ⟨.bl _,H,I,rfl,?_⟩
  rw [show its.toArray.any (eqU x)=its.any (eqU x) by simp,zfZ r fs]
  exact q
theorem ziU:zbZ X (.builtin "len") (fun xs H Q=>∃ p ys,xs=[.ref p]/\(SqL X.K H p ys\/SqT X.K H p ys)/\Q (.int ys.length) H):=by
 intro pins s σ H xs us Q I r h; obtain ⟨p,ys,rfl,hq,q⟩:=h; obtain ⟨u,rfl,rx⟩:=zc8 r; cases rx; have hn:=ziq
 rcases hq with hq | hq
 ·obtain ⟨its,r',pl,hz⟩:=I.list hq
  have hlen:=r'.length
  exact Calls.call_len_list pl.isList (by simp only [List.size_toArray] <;> omega) ⟨.int ys.length,H,I.tok _,⟨s.toks+1,by rw [List.size_toArray,hlen]⟩,q⟩
 ·obtain ⟨its,r',pl,hz⟩:=I.tuple hq
  have hlen:=r'.length
  exact len_tuple pl (by simp only [List.size_toArray] <;> omega) ⟨.int ys.length,H,I.tok _,⟨s.toks+1,by rw [List.size_toArray,hlen]⟩,q⟩
theorem ziT:zbZ X (.builtin "len") (fun xs H Q=>∃ z,xs=[.str z]/\z.length<=sizeLine/\Q (.int z.length) H):=by
 intro pins s σ H xs us Q I r h; obtain ⟨z,rfl,hz,q⟩:=h; obtain ⟨u,rfl,t,rfl⟩:=zc8 r; have hn:=ziq
 exact len_str (by omega) ⟨.int z.length,H,I.tok _,⟨_,rfl⟩,q⟩
theorem zbZ.or {f:Value} {r r':List V->Hp->VK->Prop} (h:zbZ X f r) (h':zbZ X f r'):zbZ X f (fun xs H Q=>r xs H Q\/r' xs H Q):=by
 intro pins s σ H xs us Q I rs q
 rcases q with q | q
 ·exact h pins s σ H xs us Q I rs q
 ·exact h' pins s σ H xs us Q I rs q
theorem ziS:zbZ X (.type "list") (fun xs H Q=>∃ p ys,xs=[.ref p]/\(SqL X.K H p ys\/SqT X.K H p ys)/\∀ l,H l=none->Q (.ref l) (upd H l (.lst ys))):=by
 intro pins s σ H xs us Q I r h; obtain ⟨p,ys,rfl,hq,q⟩:=h; obtain ⟨u,rfl,rx⟩:=zc8 r; cases rx
 have fin:∀ (its:List Value),zae ys its->ys.length<=sizeLine->∀ (h':Heap) (c':Nat),(∀ b o',s.heap.get? b=some o'->h'.get? b=some o') ->
   h'.get? s.heap.objs.size=some { cls:=.type "list",dict:=none,data:=.seq its.toArray c',slots:=#[] }->EP X pins σ Q (.ref s.heap.objs.size) { s with heap:=h' }:=fun its r' hz h' c' kp e =>
  ⟨.ref s.heap.objs.size,_,I.laid (t':=s.toks) kp (Nat.le_refl _) (show zaP X.prog X.w _ h' _ (.lst ys) from ⟨hz,its,c',r',e⟩),rfl,q _ (I.hok.fresh (Nat.le_refl _))⟩
 rcases hq with hq | hq
 ·obtain ⟨its,r',pl,hz⟩:=I.list hq
  have hlen:=r'.length; obtain ⟨o,ho,hc,n,hd⟩:=pl.isList
  exact call_list_seq p (.inl rfl) ho hc hd (fun h' c' kp e=>fin its r' hz h' c' kp e) (by simp only [List.size_toArray] <;> omega)
 ·obtain ⟨its,r',pl,hz⟩:=I.tuple hq
  have hlen:=r'.length; obtain ⟨o,ho,hc,n,hd⟩:=pl
  exact call_list_seq p (.inr rfl) ho hc hd (fun h' c' kp e=>fin its r' hz h' c' kp e) (by simp only [List.size_toArray] <;> omega)
theorem zhB:zbZ X (.type "tuple") (fun xs H Q=>∃ p ys,xs=[.ref p]/\((SqL X.K H p ys/\∀ l,H l=none->Q (.ref l) (upd H l (.tup ys)))\/(SqT X.K H p ys/\Q (.ref p) H))):=by
 intro pins s σ H xs us Q I r h; obtain ⟨p,ys,rfl,h⟩:=h; obtain ⟨u,rfl,rx⟩:=zc8 r; cases rx
 rcases h with ⟨hq,q⟩ | ⟨hq,q⟩
 ·obtain ⟨its,r',pl,hz⟩:=I.list hq
  have hlen:=r'.length
  refine call_tuple_list pl.isList (fun h' kp=>?_) (by simp only [List.size_toArray] <;> omega)
  have I1:Inv X pins σ H { s with heap:=h' }:=I.kept (t':=s.toks) kp
  have I2:Inv X pins σ (upd H h'.objs.size (.tup ys)) { s with heap:=h'.push { cls:=.type "tuple",data:=.seq its.toArray } } :=
   I1.laid (t':=s.toks) (fun b o e=>Heap.get?_push_of_some _ e) (Nat.le_refl _) (show zaP X.prog X.w _ _ _ (.tup ys) from ⟨hz,its,r',IsTup.new _ _⟩)
  exact ⟨.ref h'.objs.size,_,I2,rfl,q _ (I1.hok.fresh (Nat.le_refl _))⟩
 ·obtain ⟨its,r',pl,hz⟩:=I.tuple hq
  exact call_tuple_same pl ⟨.ref p,H,I,rfl,q⟩
def tyV (K:W.Frag) (T:String) (x:V) (H:Hp):Prop:=match x with
 | .str _=>T="str"
 | .int _=>T="int"
 | .ref p=>(T="list"/\∃ xs,SqL K H p xs)\/(T="tuple"/\∃ o,K.lookup p=some o/\o.cls=.type "tuple"/\o.dict=none) \/
   (T="dict"/\((∃ kvs,H p=some (.dK kvs))\/∃ kvs,H p=some (.dT kvs)))\/(T="set"/\∃ S n,H p=some (.set S n))
 | _=>False
theorem zrN {pins:List (Addr × Obj)} {σ:St} {H:Hp} {s:Shared} {T:String} {x:V} {v:Value} (I:Inv X pins σ H s) (r:zao x v) (ty:tyV X.K T x H) :
  s.TypeIs v T/\∀ a,v=.ref a->∃ ob,s.heap.get? a=some ob/\ob.dict=none:=by
 cases x with
 | str z =>
  obtain ⟨t,rfl⟩:=r
  cases (show T="str" from ty)
  exact ⟨typeIs_str s z t,fun _ e=>nomatch e⟩
 | int i =>
  obtain ⟨t,rfl⟩:=r
  cases (show T="int" from ty)
  exact ⟨typeIs_int s i t,fun _ e=>nomatch e⟩
 | ref p =>
  cases r
  rcases ty with ⟨rfl,xs,hq⟩ | ⟨rfl,o,hk,hc,hd⟩ | ⟨rfl,hk⟩ | ⟨rfl,S,n,hk⟩
  ·obtain ⟨its,_,pl,_⟩:=I.list hq
   refine ⟨pl.isList.typeIs,fun a e=>?_⟩
   cases e; obtain ⟨o,n,e,c,hd,_⟩:=pl; exact ⟨o,e,hd⟩
  ·refine ⟨⟨o,I.kIn p o hk,hc⟩,fun a e=>?_⟩
   cases e; exact ⟨o,I.kIn _ o hk,hd⟩
  ·have z:∃ o,s.heap.get? p=some o/\o.ExactDict:=by
    rcases hk with ⟨kvs,hk⟩ | ⟨kvs,hk⟩
    ·obtain ⟨_,_,_,_,o,_,_,e,ex,_⟩:=I.hok p _ hk
     exact ⟨o,e,ex⟩
    ·obtain ⟨_,_,_,_,o,_,_,e,ex,_⟩:=I.hok p _ hk
     exact ⟨o,e,ex⟩
   obtain ⟨o,e,ex⟩:=z
   refine ⟨⟨o,e,ex.1⟩,fun a e2=>?_⟩
   cases e2; exact ⟨o,e,ex.2.1⟩
  ·obtain ⟨o,_,_,_,e,ex,_⟩:=I.hok p _ hk
   refine ⟨⟨o,e,ex.1⟩,fun a e2=>?_⟩
   cases e2; exact ⟨o,e,ex.2.1⟩
 | _=>exact False.elim ty
def tBM (K:W.Frag) (T:String) (r:V->List V->Hp->VK->Prop) (to:TE) (t:TA):TE:=fun σ H Q=>to σ H fun x H1=>tyV K T x H1/\t σ H1 fun xs H2=>r x xs H2 Q
variable {o e:Expr} {es:List Expr} {to:TE} {t:TA} {name:Str} {apos cpos:Pos} {T id:String} {r:V->List V->Hp->VK->Prop}
theorem zqJ (pa:PlainAttrs T) (slot:Slot T name id) (hty:typeOf (.builtin id)=pure (.type "method_descriptor")) (hm:MtR X id r) (ho:PE X o to) (ha:PA X (e :: es) t)
  (hbase:attributeBase o name X.env (eval o X.env)=eval o X.env:=by rfl)
  (hfew:((backTo cpos (starEach (e :: es) X.env)).all (fun x=>!x.1) && (backToKw cpos (keywordEach [] X.env)).all (fun x=>x.1.isSome)
   && decide ((e :: es).length+([]:List Keyword).length+(if ([]:List Keyword).isEmpty then 0 else 1)<30))=true:=by rfl)
  (hline:(apos.endLine == cpos.line)=true:=by rfl) (hs:starEach (e :: es) X.env=(false,eval e X.env) :: starEach es X.env:=by rfl) (hplain:(backTo cpos (starEach es X.env)).any (·.1)=false:=by rfl) :
  PE X (.Call (.Attribute o name apos) (e :: es) [] cpos) (tBM X.K T r to t):=by
 intro pins s σ H Q I h
 refine wpAny_Call_method_late hbase hfew hline rfl (thn (ho pins s σ H _ I h) fun v s1 ⟨x,H1,I1,r1,ty,q1⟩=>?_)
 obtain ⟨h1,h2⟩:=zrN I1 r1 ty; refine ⟨T,id,pa,slot,hty,h1,h2,?_⟩; have hA:=ha cpos pins s1 σ H1 _ I1 q1; rw [hs] at hA ⊢
 refine Calls.callWith_builtin (by show (false || (backTo cpos (starEach es X.env)).any (·.1))=false; rw [hplain] <;> rfl) (Calls.evalArgs_plain ?_)
 exact thn hA fun us s2 ⟨vs,H2,I2,r2,q2⟩=>hm pins s2 σ H2 x vs v us Q I2 r1 r2 q2
end
end L2
namespace L2
open PySem PySem.Spec PyProof.Rows
def MtM (X:Cx) (id:String) (r:V->List V->Hp->VK->Prop):Prop :=
 ∀ (pins:List (Addr × Obj)) (s:Shared) (σ:St) (H:Hp) (x:V) (xs:List V) (v:Value) (us:List Value) (Q:VK),Inv X pins σ H s->zao x v->zae xs us->r x xs H Q ->
  wpAny (model X.prog X.w) X.A (call (.builtin id) (v :: us)) (EP X pins σ Q) X.xe s
theorem zae.one:∀ {x:V} {us:List Value},zae [x] us->∃ u,us=[u]/\zao x u
 | _,_,.cons r .nil=>⟨_,rfl,r⟩
theorem zae.rep {xs:List V} {us:List Value} (h:zae xs us):∀ k:Nat,zae (List.replicate k xs).flatten (List.replicate k us).flatten
 | 0=>.nil
 | k+1=>by
  rw [List.replicate_succ,List.replicate_succ,List.flatten_cons,List.flatten_cons]; exact zae.append h (zae.rep h k)
theorem foldl_rep (its:List Value):∀ (k:Nat) (acc:List Value),
  List.foldl (fun x1 x2=>x1 ++ x2) acc.toArray (List.replicate k its.toArray)=(acc ++ (List.replicate k its).flatten).toArray
 | 0,acc=>by simp
 | k+1,acc=>by
  have e:acc.toArray ++ its.toArray=(acc ++ its).toArray:=by simp
  have e2:(acc ++ its) ++ (List.replicate k its).flatten=acc ++ (List.replicate (k+1) its).flatten:=by
   rw [List.replicate_succ,List.flatten_cons,List.append_assoc]
  rw [<- e2,<- foldl_rep its k (acc ++ its),<- e,List.replicate_succ,List.foldl_cons]
section
variable {X:Cx} {pins:List (Addr × Obj)} {σ:St} {H:Hp} {s:Shared} {l b:Addr} {xs ys zs:List V}
theorem Inv.lset {its its':List Value} {n:Nat} {f:Array Value->Array Value} {t':Nat} (I:Inv X pins σ H s) (hH:H l=some (.lst xs))
  (e:s.heap.get? l=some { cls:=.type "list",data:=.seq its.toArray n }) (hf:f its.toArray=its'.toArray) (hv:zae ys its') (hz:ys.length<=sizeLine) :
  Inv X pins σ (upd H l (.lst ys)) { s with heap:=s.heap.update l (Obj.mapSeq f),toks:=t' }:=by
 have q:=PySem.IsL.update e f; rw [hf] at q
 refine I.write (x:=l) (e:=l) (by rw [hH]; exact trivial) (.inl rfl) (fun b' u hb hu=>(Heap.get?_update_other s.heap (Obj.mapSeq f) (Ne.symm hb)).trans hu) ⟨_,q⟩ ?_
 exact ⟨hz,its',_,hv,q⟩
theorem Inv.lnew {its:List Value} {t':Nat} (I:Inv X pins σ H s) (hv:zae ys its) (hz:ys.length<=sizeLine) :
  Inv X pins σ (upd H s.heap.objs.size (.lst ys)) { s with heap:=s.heap.push { cls:=.type "list",data:=.seq its.toArray },toks:=t' } :=
 I.laid (fun _ _ q=>Heap.get?_push_of_some _ q) (Nat.le_refl _) ⟨hz,its,0,hv,Heap.get?_push_size _ rfl⟩
theorem Inv.fresh (I:Inv X pins σ H s):H s.heap.objs.size=none:=I.hok.fresh (Nat.le_refl _)
theorem Inv.lstM (I:Inv X pins σ H s) (hH:H l=some (.lst xs)):xs.length<=sizeLine/\∃ (its:List Value) (n:Nat),zae xs its/\xs.length=its.length/\s.heap.get? l=some { cls:=.type "list",data:=.seq its.toArray n }:=by
 obtain ⟨z,its,n,r,e⟩:=I.hok l _ hH; exact ⟨z,its,n,r,r.length,e⟩
theorem notLongL {n:Nat} (h:n<=sizeLine):Builtin.List.listTooLong n=false:=by
 unfold Builtin.List.listTooLong
 exact decide_eq_false (by omega)
end
section
variable {X:Cx}
def zqd:V->List V->Hp->VK->Prop:=fun x vs H Q=>∃ l xs y,x=.ref l/\vs=[y]/\H l=some (.lst xs)/\xs.length<sizeLine/\Q .non (upd H l (.lst (xs ++ [y])))
theorem zfD:MtM X "list.append" zqd:=by
 intro pins s σ H x vs v us Q I rx rv h; obtain ⟨l,xs,y,rfl,rfl,hH,hz,q⟩:=h; cases rx; obtain ⟨u,rfl,ru⟩:=rv.one; obtain ⟨z,its,n,r,hl,e⟩:=I.lstM hH
 refine call_meets F.slot_list_append ⟨_,e,rfl⟩ F.entry_list_append (F.args_list_append_2 _ _) (PySem.list_append l its.toArray n u (by rw [List.size_toArray]; omega)) ⟨e,?_⟩
 refine ⟨.non,_,I.lset (its':=its ++ [u]) hH e (by simp) (r.append (.cons ru .nil)) ?_,rfl,q⟩
 rw [List.length_append,List.length_singleton]; omega
theorem len_rep {α:Type} (xs:List α) (k:Nat):(List.replicate k xs).flatten.length=k * xs.length:=by
 induction k with
 | zero=>simp
 | succ k ih=>rw [List.replicate_succ,List.flatten_cons,List.length_append,ih,Nat.succ_mul,Nat.add_comm]
end
section
variable {prog:Program} {w:World} {A:Around} {E:Value->Shared->Prop} {s:Shared}
set_option maxRecDepth 100000 in
end
section
variable {X:Cx}
end
end L2
namespace Att
open PySem PySem.W PySem.Calls PyProof.Rows
theorem zfP {P:Params} {h:Heap}:∀ (ns:List Int) (vs:List Value),WellAll P h vs (ns.map WData.int)->IntsAre vs ns:=by
 intro ns
 induction ns with
 | nil =>
  intro vs w; rw [List.map_nil] at w; cases w; exact .nil
 | cons n ns ih =>
  intro vs w; rw [List.map_cons] at w
  cases w with
  | cons a b =>
   cases a; exact .cons _ _ (ih _ b)
theorem zlY {l:OpenLaw} {n:Nat} (hn:l.most=some n) {P:Params} {h:Heap} {args:List WData} {vals:List Value}
  (hpre:l.row.toRowW.claim.pre args=true) (hwl:WellAll P h vals args) :
  ∃ a vs ns,vals=[Value.ref a]/\args=[WData.list (ns.map WData.int)]/\h.get? a=some { cls:=.type "list",data:=.seq vs.toArray }/\IntsAre vs ns/\ns.length<=n:=by
 have hsh:WShape.hasAll [] args [.list .int]=true:=(pre_splitW hpre).1
 have hc:l.pre.holds [] { args:=args }=true:=(pre_splitW hpre).2
 obtain ⟨d,r,rfl,h1,h2⟩:=hasAllW_cons hsh
 obtain rfl:=hasAllW_nil h2
 obtain ⟨xs,rfl,h3⟩:=hasW_list h1; obtain ⟨ns,rfl⟩:=items_int h3
 have hlen:ns.length<=n:=by
  unfold OpenLaw.pre at hc
  have h4:(WTm.not (.lt (.lit (.int (n:Int))) (.len (.arg 0)))).holds [] { args:=[.list (ns.map .int)] }=true:=by
   have h4:=(holds_andW hc).1; rw [hn] at h4; exact h4
  have h5:=condW_of h4 (w_not (w_lt w_lit (w_len_list (w_arg rfl)))); rw [List.length_map] at h5
  refine Nat.le_of_not_lt fun q=>?_
  have q':(n:Int)<((ns.length:Nat):Int):=by omega
  first
   | (rw [decide_eq_true q'] at h5; exact absurd h5 (by decide))
   | (simp at h5; omega)
 cases hwl with
 | cons w1 w2 =>
  cases w2
  cases w1 with
  | list ho hall=>exact ⟨_,_,ns,rfl,rfl,ho,zfP ns _ hall,hlen⟩
theorem zmd (l:OpenLaw) (args:List WData):l.row.toRowW.claim.post args (.bool true) args=true :=
 postW_of (r:=l.row.toRowW) (X:=(true == true))
  (show WShape.has [] (.bool true) .bool=true by first | rfl | decide | simp [WShape.has,WShape.arms,WShape.armsAll])
  (show (WTm.eq .res (.lit (.bool true))).value [] { args:=args,res:=some (.bool true),after:=args }=some (.bool (true == true)) from w_eq_bool (w_res rfl) w_lit) rfl
theorem attach_call {l:OpenLaw} {n:Nat} {q:Program} {loose:List Str} {XP:(Str->Option Value)->Heap->Prop} {YP:World->Heap->Prop} {d:DefRec}
  (hn:l.most=some n) (hdf:d.params.defaults=[])
  (call:∀ (w:World) (s₀ s₁:Shared) (mg mb:Str->Option Value) (fa:Addr) (o:Obj) (pm cd doc:Value) (a:Addr) (vs:List Value) (ns:List Int),
   Ground q loose [] XP w s₀ mg mb s₁.heap->YP w s₁.heap ->
   s₁.heap.get? fa=some o->o.data=.func (docDef d.name d.params d.body d.scope pm cd doc)->s₁.heap.CodeRec cd d.name->mg d.name=some (.ref fa) ->
   s₁.heap.get? a=some { cls:=.type "list",data:=.seq vs.toArray }->IntsAre vs ns->ns.length<=n->s₁.gens=#[] ->
   codeAny (model l.prog w) callerA (.call (.ref fa) ⟨[.ref a],[]⟩) (fun r s'=>r=.ok (.ret (.bool true))/\OldK s₁.heap s'.heap/\s'.os=s₁.os/\AllBare s'.gens) s₁) :
  WalkO q loose XP YP l.row.toRowW d [] (fun f vs=>PySem.call f vs):=by
 intro w s₀ s₁ mg mb G Y fa o pm cd doc dV kV ho hd hcd hD hmg hg args vals as hpre hlay hrd hwl hlo
 obtain rfl:dV=.none:=Dflts.none hD hdf
 obtain rfl:kV=.none:=Dflts.noKw hD
 obtain ⟨a,vs,ns,rfl,rfl,hobj,hints,hlen⟩:=zlY hn hpre hwl
 refine enter_call (codeAny_mono (call w s₀ s₁ mg mb fa o pm cd doc a vs ns G Y ho (fd_plain hd) hcd hmg hobj hints hlen hg) fun r s' hq=>?_)
 obtain ⟨rfl,h2,h3,h4⟩:=hq
 exact ⟨.inl ⟨.bool true,.bool true,[],rfl,fun _=>rfl,.bool true,zmd l _,fun _=>⟨List.Pairwise.nil,fun _ hm=>(nomatch hm)⟩⟩,h2,h3,h4⟩
section
variable {prog:Program} {w:World} {A:Around} {E:Value->Shared->Prop} {s:Shared} {K:Frag}
def zv8 (h:Heap) (L d:Addr):List (Addr × Obj):=(List.range h.objs.size).filterMap fun a=>if a=L\/a=d then none else (h.get? a).map fun o=>(a,o)
end
end Att
namespace L2
open PySem PySem.Spec PyProof.Rows
theorem zhI:∀ {vs:List Value} {ns:List Int},IntsAre vs ns->zae (ns.map V.int) vs
 | _,_,.nil=>.nil
 | _,_,.cons n t h=>.cons ⟨t,rfl⟩ (zhI h)
end L2
namespace L2
open PySem PySem.Spec PyProof.Rows
end L2
namespace L2
open PySem PySem.Spec PyProof.Rows
def zaJ (s:Stmt) (j:Nat):Stmt:=match s with
 | .ClassDef _ _ _ body _ _ _ _ _ _ _=>body.getD j (.Pass ⟨0,0,0,0⟩)
 | _=>.Pass ⟨0,0,0,0⟩
def zP (s:Stmt):Arguments:=match s with
 | .FunctionDef _ a _ _ _ _ _ _ _ _=>a
 | _=>{ posonlyargs:=[],args:=[],vararg:=none,kwonlyargs:=[],kw_defaults:=[],kwarg:=none,defaults:=[] }
def zG (s:Stmt):List Stmt:=match s with
 | .FunctionDef _ _ b _ _ _ _ _ _ _=>b
 | _=>[]
def zf (s:Stmt):Scope:=match s with
 | .FunctionDef _ _ _ _ _ _ sc _ _ _=>sc
 | _=>{ kind:=.function,names:=[],isGenerator:=false,isCoroutine:=false }
abbrev CX0:CXT:=fun _ _ _ _ _ _=>False
abbrev E0:XK:=fun _ _ _=>False
theorem zml {X:Cx}:zgH CX0 X E0:=fun _ _ _ _ _ _ _ h=>h.elim
structure Fun (K:W.Frag) (x qual:Str) (st:Stmt) (f:Addr) (fd:FuncData):Prop where
 ex:∃ (oc:Value) (od:Option Addr) (kV doc pm:Value) (an:Option Addr) (cdv ct:Value) (osl:Array (Option Value)),
  fd=W.fnOf x qual (zP st) (zG st) (zf st) .none kV doc pm an cdv ct/\K.lookup f=some ⟨oc,od,.func fd,osl⟩/\W.codeIn K cdv qual=true
 kp:W.keepIn K (.ref f)=true
section
variable {P:Program} {w:World} {K:W.Frag} {mg:Str->Option Value} {base:Heap}
theorem Fun.ok {x qual:Str} {st:Stmt} {f:Addr} {fd:FuncData} {N ps:List Str} {k:Nat} {sp:Sp} (F:Fun K x qual st f fd) (S:FnScope N ps (zf st)) (len:∀ vs H Q E,sp vs H Q E->vs.length=ps.length)
  (hbody:∀ (cdv:Value) (A:Around) (outer:List Env) (s:Shared) (H:Hp) (vs:List V) (Q:VK) (E:XK),Room k (A.deeper (envOfC qual (zf st) s.heap.objs.size f cdv))->sp vs H Q E ->
   ∃ t,PSs (zhF CX0 P w K mg base N qual (zf st) f cdv A outer s H E).nox (zG st) t/\t { nx:=fun _ H'=>Q .non H',rt:=Q } (start N vs) H):FnOk P w K mg base CX0 (k+1) f fd ps sp:=by
 obtain ⟨oc,od,kV,doc,pm,an,cdv,ct,osl,rfl,lk,hcd⟩:=F.ex
 refine ztp lk hcd S len fun A outer s H vs Q E hr hsp=>?_
 obtain ⟨t,h,q⟩:=hbody cdv A outer s H vs Q E hr hsp; exact ⟨t,h.nox,q⟩
theorem Fun.binds {x qual:Str} {st:Stmt} {f:Addr} {fd:FuncData} {ps:List Str} (F:Fun K x qual st f fd)
  (h:∀ (kV doc pm:Value) (an:Option Addr) (cdv ct:Value) (us:List Value),us.length=ps.length->bindArgs (W.fnOf x qual (zP st) (zG st) (zf st) .none kV doc pm an cdv ct) ⟨us,[]⟩=pure (ps.zip us)):zbi K fd ps []:=by
 obtain ⟨oc,od,kV,doc,pm,an,cdv,ct,osl,rfl,lk,hcd⟩:=F.ex; exact .all (h kV doc pm an cdv ct)
theorem zaW {x qual:Str} {st:Stmt} {f:Addr} {oc:Value} {od an:Option Addr} {osl:Array (Option Value)} {kV doc pm cdv ct:Value} (l:K.lookup f=some ⟨oc,od,.func (W.fnOf x qual (zP st) (zG st) (zf st) .none kV doc pm an cdv ct),osl⟩)
  (c:W.codeIn K cdv qual=true) (k:W.keepIn K (.ref f)=true):Fun K x qual st f (W.fnOf x qual (zP st) (zG st) (zf st) .none kV doc pm an cdv ct):=⟨⟨oc,od,kV,doc,pm,an,cdv,ct,osl,rfl,l,c⟩,k⟩
end
theorem zr {A:Around} {k:Nat} (hr:Room k A):A.units+1<cLine:=Nat.lt_of_le_of_lt (Nat.add_le_add_left (by decide:1<=64) _) hr.units
theorem zbz {n:Nat} (h:n<=1000):n<sizeLine:=Nat.lt_of_le_of_lt h (by decide)
section
variable {X:Cx}
theorem pv (i:Nat) {x:Str} {pos:Pos} (hN:X.N[i]?=some x:=by rfl) (hv:Vis X.env.scope x:=by first | exact Or.inl rfl | exact Or.inr (Or.inl rfl) | exact Or.inr (Or.inr rfl)) (hd:(x == ("__debug__":Str))=false:=by decide)
  (hcd:(x == ("__classdict__":Str))=false:=by decide):PE X (.Name x pos) (zvQ i):=zdZ hN hv hd hcd
end
def zU (H H':Hp):Prop:=∀ b o,H b=some o->H' b=some o
theorem zU.refl (H:Hp):zU H H:=fun _ _ h=>h
theorem zU.trans {H H1 H2:Hp} (a:zU H H1) (b:zU H1 H2):zU H H2:=fun c o h=>b c o (a c o h)
theorem zU.free {H H':Hp} (e:zU H H') {l:Addr} (h:H' l=Option.none):H l=Option.none:=by
 cases q:H l with
 | none=>rfl
 | some o =>
  rw [e l o q] at h; cases h
end L2
namespace L2
open PySem PySem.Spec PyProof.Rows
section
variable {κ:Type} [DecidableEq κ]
def zny (kvs:List (κ × V)) (k:κ):Option V:=(kvs.find? fun kv=>decide (kv.1=k)).map (·.2)
def zl9 (kvs:List (κ × V)) (k:κ) (v:V):List (κ × V) :=
 if (kvs.any fun kv=>decide (kv.1=k))=true then kvs.map (fun kv=>if kv.1=k then (kv.1,v) else kv) else kvs ++ [(k,v)]
theorem zgI {p:κ × V} {r:List (κ × V)} {k:κ} (e:p.1=k):zny (p :: r) k=some p.2:=by simp [zny,List.find?_cons,e]
theorem zgJ {p:κ × V} {r:List (κ × V)} {k:κ} (e:¬ p.1=k):zny (p :: r) k=zny r k:=by simp [zny,List.find?_cons,e]
theorem zgK (k:κ):∀ kvs:List (κ × V),(kvs.any fun kv=>decide (kv.1=k))=(zny kvs k).isSome
 | []=>rfl
 | p :: r=>by
  rw [List.any_cons]
  by_cases e:p.1=k
  ·simp only [zgI e,decide_eq_true e,Bool.true_or,Option.isSome_some]
  ·rw [zgJ e,decide_eq_false e,Bool.false_or]; exact zgK k r
theorem zjz (kvs:List (κ × V)) (k:κ) (v:V):(zl9 kvs k v).length<=kvs.length+1:=by
 unfold zl9; split
 ·rw [List.length_map]; omega
 ·rw [List.length_append,List.length_cons,List.length_nil]; omega
theorem zi0.isSome_eq {o:Option V} {u:Option Value} (r:zi0 o u):o.isSome=u.isSome:=by
 cases o with
 | none=>cases u with
  | none=>rfl
  | some _=>exact (show False from r).elim
 | some _=>cases u with
  | none=>exact (show False from r).elim
  | some _=>rfl
theorem zi0.getD {o:Option V} {u:Option Value} {d:V} {d':Value} (r:zi0 o u) (rd:zao d d'):zao (o.getD d) (u.getD d'):=by
 cases o with
 | none=>cases u with
  | none=>exact rd
  | some _=>exact (show False from r).elim
 | some _=>cases u with
  | none=>exact (show False from r).elim
  | some _=>exact r
theorem KV.length {kvs:List (κ × V)} {vs:List (κ × Value)} (r:KV kvs vs):kvs.length=vs.length:=Paired.length r
end
theorem zvi {P:Program} {w:World} {k:Key} {u:Value} (r:zao (kV k) u):(zaS P w).is k u=true:=by
 cases k with
 | inl i=>obtain ⟨t,e⟩:=(show ∃ t,u=Value.int i t from r); subst e; exact zjy P w i t
 | inr x=>obtain ⟨t,e⟩:=(show ∃ t,u=Value.str x t from r); subst e; exact zjx P w x t
theorem zix {P:Program} {w:World}:∀ {ks:List Key} {us:List Value},zae (ks.map kV) us->ItemsAre (zaS P w) ks us
 | [],_,r=>by rw [List.map_nil] at r; cases r; exact .nil
 | k :: ks,_,r=>by
  rw [List.map_cons] at r
  cases r with
  | cons h t=>exact .cons (zvi h) (zix t)
abbrev KT (H:Hp):List (List Key × V)->List (List Key × Addr × Value)->Prop:=Paired fun p q=>p.1=q.1/\H q.2.1=some (.tup (p.1.map kV))/\zao p.2 q.2.2
theorem KT.val {H:Hp} {kvs:List (List Key × V)} {xs:List (List Key × Addr × Value)} (r:KT H kvs xs) (k:List Key):zi0 (zny kvs k) ((atKey xs k).map (·.2)):=by
 induction r with
 | nil=>exact True.intro
 | @cons p q ps qs h t ih =>
  obtain ⟨h1,_,h2⟩:=h
  by_cases e:p.1=k
  ·have e':q.1=k:=h1.symm.trans e
   have b:atKey (q :: qs) k=some q.2:=by simp [atKey,List.find?_cons,e']
   rw [zgI e,b]; exact h2
  ·have e':¬ q.1=k:=fun z=>e (h1.trans z)
   have b:atKey (q :: qs) k=atKey qs k:=by simp [atKey,List.find?_cons,e']
   rw [zgJ e,b]; exact ih
theorem KT.repl {H:Hp} {kvs:List (List Key × V)} {xs:List (List Key × Addr × Value)} (r:KT H kvs xs) (k:List Key) {y:V} {u:Value} (ry:zao y u) :
  KT H (kvs.map fun kv=>if kv.1=k then (kv.1,y) else kv) (xs.map (putAt k u)):=by
 induction r with
 | nil=>exact .nil
 | @cons p q ps qs h t ih =>
  rw [List.map_cons,List.map_cons]; refine .cons ?_ ih; obtain ⟨h1,h2,h3⟩:=h; unfold putAt
  by_cases e:p.1=k
  ·rw [if_pos e,if_pos (h1.symm.trans e)]; exact ⟨h1,h2,ry⟩
  ·rw [if_neg e,if_neg (fun z=>e (h1.trans z))]; exact ⟨h1,h2,h3⟩
theorem KT.put {H:Hp} {kvs:List (List Key × V)} {xs:List (List Key × Addr × Value)} (r:KT H kvs xs) (k:List Key) {b:Addr} {y:V} {u:Value} (hb:H b=some (.tup (k.map kV))) (ry:zao y u) :
  KT H (zl9 kvs k y) (storedH xs k b u):=by
 have e:(kvs.any fun kv=>decide (kv.1=k))=(atKey xs k).isSome:=by
  rw [zgK,(r.val k).isSome_eq,Option.isSome_map]
 unfold zl9 storedH; rw [e]
 by_cases q:(atKey xs k).isSome=true
 ·rw [if_pos q,if_pos q]; exact r.repl k ry
 ·rw [if_neg q,if_neg q]; exact Paired.snoc r ⟨rfl,hb,ry⟩
theorem KT.keeps {H H':Hp} {kvs:List (List Key × V)} {xs:List (List Key × Addr × Value)} (r:KT H kvs xs) (ht:∀ b ys,H b=some (.tup ys)->H' b=some (.tup ys)):KT H' kvs xs :=
 Paired.mapP r fun _ _ z=>⟨z.1,ht _ _ z.2.1,z.2.2⟩
section
variable {P:Program} {w:World} {H:Hp} {h:Heap} {a:Addr}
theorem zfO {ks:List Key} (ok:HOk P w H h) (e:H a=some (.tup (ks.map kV))):(tupleKind (zaS P w)).is h ks a:=by
 obtain ⟨_,its,r,o,h1,h2,n,h3⟩:=(show zaP P w H h a (.tup (ks.map kV)) from ok a _ e)
 exact ⟨o,its.toArray,n,h1,h2,h3,by simpa using zix r⟩
end
section
variable {X:Cx} {pins:List (Addr × Obj)} {σ:St} {H:Hp} {s:Shared} {a:Addr} {y v:V} {u r:Value} {o:Option V} {A:Around} {E:Value->Shared->Prop}
theorem Inv.big (I:Inv X pins σ H s):sysModules<s.heap.objs.size:=by
 have h:mainGlobals<s.heap.objs.size:=(I.mod.glob.keeps I.bk).lt
 exact Nat.lt_trans (by decide) h
theorem zmW {h':Heap} {t':Nat} {ob:HO} (I:Inv X pins σ H s) (mu:Mut (H a)) (hs:Heap.SameBut a s.heap h') (he:∃ q,h'.get? a=some q) (new:zaP X.prog X.w (upd H a ob) h' a ob) :
  Inv X pins σ (upd H a ob) { s with heap:=h',toks:=t' } :=
 I.write (x:=a) (e:=a) mu (.inl rfl) (fun b q hb z=>(hs.2 b hb).trans z) he new
end
section
variable {X:Cx} {pins:List (Addr × Obj)} {σ:St} {H:Hp} {s:Shared} {a:Addr} {kvs:List (Key × V)} {k:Key} {u:Value} {A:Around} {E:Value->Shared->Prop}
end
section
variable {X:Cx} {o i e value:Expr} {pos pos' tpos:Pos} {td ty tv:TE}
end
section
variable {X:Cx} {pos:Pos}
end
structure M2 (X:Cx) (o:Expr) (m:Str) (apos:Pos) (e f:Expr) (cpos:Pos):Prop where
 base:attributeBase o m X.env (eval o X.env)=eval o X.env
 few:((backTo cpos (starEach [e,f] X.env)).all (fun x=>!x.1) && (backToKw cpos (keywordEach [] X.env)).all (fun x=>x.1.isSome)
  && decide (([e,f]:List Expr).length+([]:List Keyword).length+(if ([]:List Keyword).isEmpty then 0 else 1)<30))=true
 line:(apos.endLine == cpos.line)=true
 trees:backTo cpos (starEach [e,f] X.env)=[(false,eval e X.env),(false,eval f X.env)]
section
variable {X:Cx} {pins:List (Addr × Obj)} {σ:St} {H:Hp} {s:Shared} {a:Addr} {y d:V} {u r:Value} {o:Option V} {A:Around} {E:Value->Shared->Prop}
end
section
variable {X:Cx} {o e f:Expr} {apos cpos:Pos} {td ty tx:TE}
end
section
variable {X:Cx} {pins:List (Addr × Obj)} {σ:St} {H:Hp} {s:Shared} {a:Addr} {kvs:List (Key × V)} {A:Around} {E:Value->Shared->Prop}
end
section
variable {X:Cx} {pins:List (Addr × Obj)} {σ:St} {H:Hp} {s:Shared} {a:Addr} {y:V} {u:Value} {A:Around} {E:Value->Shared->Prop}
end
end L2
set_option maxHeartbeats 4000000
namespace L2
open PySem PySem.Spec PyProof.Rows
def st (l:List Nat):Str:=⟨l.toArray⟩
theorem zV (l:List Nat):(st l).cps.toList=l:=by simp [st]
theorem zbF (l:List Nat):(st l).length=l.length:=by simp [st,Str.length]
theorem zr3 (x:Str):x=st x.cps.toList:=by cases x; simp [st]
theorem st_inj {a b:List Nat} (h:st a=st b):a=b:=by
 have e:=congrArg (fun x:Str=>x.cps.toList) h
 simpa [st] using e
theorem zr4 (a b:List Nat):st a ++ st b=st (a ++ b):=by
 show Str.append (st a) (st b)=st (a ++ b)
 unfold Str.append st; simp
theorem zpE (l:List Nat) (c:Nat):(!(Builtin.Str.occurrences (st l) (st [c]) 0 (st l).length 1).isEmpty)=decide (c ∈ l):=by
 have e:=StrLaws.found_one (st l) c; rw [zV] at e; exact e
theorem znJ (l:List Nat) (n:Nat):Txt.slice (st l) none (some (n:Int))=st (l.take n):=by
 by_cases h:n<=l.length
 ·have q:Txt.slice (st l) none (some (n:Int))=⟨(((st l).cps.toList.drop 0).take ((n:Int)-0).toNat).toArray⟩:=StrLaws.sliceText_to ⟨by omega,by rw [zV]; omega⟩
  rw [q,zV]; simp [st]
 ·have e:Txt.slice (st l) none (some (n:Int))=Txt.slice (st l) none (some (l.length:Int)):=by
   unfold Txt.slice
   have z:Builtin.Str.strSliceIndices none (some (n:Int)) 1 (st l).length=Builtin.Str.strSliceIndices none (some (l.length:Int)) 1 (st l).length:=by
    rw [zbF]
    have h0:¬ (n:Int)<0:=by omega
    have h1:¬ ((l.length:Int)<0):=by omega
    have h2:(1:Int) > 0:=by decide
    have h3:min (n:Int) (l.length:Int)=(l.length:Int):=by omega
    simp only [Builtin.Str.strSliceIndices,h0,h1,h2,if_false,if_true,h3,Int.min_self]
   rw [z]
  have q:Txt.slice (st l) none (some (l.length:Int))=⟨(((st l).cps.toList.drop 0).take ((l.length:Int)-0).toNat).toArray⟩:=StrLaws.sliceText_to ⟨by omega,by rw [zV]; omega⟩
  rw [e,q,zV,List.take_of_length_le (by omega:l.length<=n)]
  simp [st]
theorem zkW (l:List Nat) (n:Nat):Txt.slice (st l) (some (n:Int)) none=st (l.drop n):=by
 by_cases h:n<=l.length
 ·have q:Txt.slice (st l) (some (n:Int)) none=⟨(((st l).cps.toList.drop (n:Int).toNat).take (((st l).cps.toList.length:Int)-(n:Int)).toNat).toArray⟩:=StrLaws.sliceText_from ⟨by omega,by rw [zV]; omega⟩
  rw [q,zV]
  have e1:(n:Int).toNat=n:=by omega
  have e2:((l.length:Int)-(n:Int)).toNat=l.length-n:=by omega
  rw [e1,e2,List.take_of_length_le (by rw [List.length_drop]; omega)]
  rfl
 ·rw [slice_beyond (by rw [zbF]; omega),List.drop_eq_nil_of_le (by omega)]
  rfl
section
variable {X:Cx}
theorem ziV:zbZ X (.type "int") (fun xs H Q=>∃ x n,xs=[.str x]/\PySem.intText? x=some n/\x.length<=640/\Q (.int n) H):=by
 intro pins s σ H xs us Q I r h; obtain ⟨x,n,rfl,hn,hl,q⟩:=h; obtain ⟨u,rfl,t,rfl⟩:=zc8 r; exact W.KIN.call_text hn hl ⟨.int n,H,I.tok _,⟨_,rfl⟩,q⟩
def zwv:V->Option Int->Option Int->Hp->VK->Prop:=fun x lo hi H Q=>∃ z,x=.str z/\z.length<=sizeLine/\Q (.str (Txt.slice z lo hi)) H
theorem zr9:SlR X zwv:=by
 intro pins s σ H x v vl vu lo hi sl Q I rx hs pl pu h; obtain ⟨z,rfl,hz,q⟩:=h; obtain ⟨t,rfl⟩:=rx; refine ⟨"str",_,PySem.F.slot_str_getitem.lookup,typeIs_str _ _ _,?_⟩
 have fin:∀ t' k,EP X pins σ Q (.str (Txt.slice z lo hi) t') { s with toks:=k }:=fun t' k=>⟨.str (Txt.slice z lo hi),H,I.tok _,⟨_,rfl⟩,q⟩
 cases pl with
 | none =>
  cases pu with
  | none=>exact wpAny_getItem_str_slice (l:=none) (u:=none) (st:=none) hs rfl (post_val_or_str ⟨Nat.le_trans (Txt.slice_le z _ _) hz,fin⟩)
  | int j u=>exact wpAny_getItem_str_slice (l:=none) (u:=some (j,u)) (st:=none) hs rfl (post_val_or_str ⟨Nat.le_trans (Txt.slice_le z _ _) hz,fin⟩)
 | int i u' =>
  cases pu with
  | none=>exact wpAny_getItem_str_slice (l:=some (i,u')) (u:=none) (st:=none) hs rfl (post_val_or_str ⟨Nat.le_trans (Txt.slice_le z _ _) hz,fin⟩)
  | int j u=>exact wpAny_getItem_str_slice (l:=some (i,u')) (u:=some (j,u)) (st:=none) hs rfl (post_val_or_str ⟨Nat.le_trans (Txt.slice_le z _ _) hz,fin⟩)
theorem zms:MtR X "str.rstrip" (fun x xs H Q=>∃ z y,x=.str z/\xs=[.str y]/\z.length<=sizeLine/\Q (.str (Txt.rstripChars z y)) H):=by
 intro pins s σ H x xs v us Q I rx rs h; obtain ⟨z,y,rfl,rfl,hz,q⟩:=h; obtain ⟨t,rfl⟩:=rx; obtain ⟨u,rfl,t',rfl⟩:=zc8 rs
 exact PySem.SC.rstripChars (fun t' k=>⟨.str _,H,I.tok _,⟨_,rfl⟩,q⟩) hz
end
def ltV:V->V->Bool
 | .int i,.int j=>decide (i<j)
 | .str x,.str y=>decide (x.cps.toList<y.cps.toList)
 | _,_=>false
def zvx:V->V->Bool
 | .int _,.int _=>true
 | .str _,.str _=>true
 | _,_=>false
def zlx:List V->List V->Bool
 | [],[]=>false
 | [],_ :: _=>true
 | _ :: _,[]=>false
 | x :: xs,y :: ys=>if x=y then zlx xs ys else ltV x y
def zm6:List V->List V->Prop
 | x :: xs,y :: ys=>zvx x y=true/\zm6 xs ys
 | _,_=>True
theorem zfG (x y:V) (xs ys:List V):zlx (x :: xs) (y :: ys)=if x=y then zlx xs ys else ltV x y:=rfl
theorem zoY {A:Around} {s:Shared} {x y:V} {u v:Value} (rx:zao x u) (ry:zao y v) (h:zvx x y=true):∃ e,SeqAt.EqAt A s u v e/\(e=true↔x=y):=by
 cases x with
 | int i =>
  cases y with
  | int j =>
   obtain ⟨t,rfl⟩:=rx; obtain ⟨t',rfl⟩:=ry
   exact ⟨(i == j),SeqAt.EqAt.int_int i t j t',by simp⟩
  | _=>exact absurd (show false=true from h) Bool.false_ne_true
 | str a =>
  cases y with
  | str b =>
   obtain ⟨t,rfl⟩:=rx; obtain ⟨t',rfl⟩:=ry
   exact ⟨(a == b),SeqAt.EqAt.str_str a t b t',by simp⟩
  | _=>exact absurd (show false=true from h) Bool.false_ne_true
 | _=>cases y <;> exact absurd (show false=true from h) Bool.false_ne_true
theorem znO {A:Around} {s:Shared} {x y:V} {u v:Value} (rx:zao x u) (ry:zao y v) (h:zvx x y=true) (prog:Program) (w:World) (E:Value->Shared->Prop) (Q:Value->Shared->Prop) (q:Q (.bool (ltV x y)) s) :
  wpAny (model prog w) A (richCompare .Lt u v) Q E s:=by
 cases x with
 | int i =>
  cases y with
  | int j =>
   obtain ⟨t,rfl⟩:=rx; obtain ⟨t',rfl⟩:=ry; exact (PyProof.Rows.lt_int q:wpAny (model prog w) A (compareOp .Lt (.int i t) (.int j t')) Q E s)
  | _=>exact absurd (show false=true from h) Bool.false_ne_true
 | str a =>
  cases y with
  | str b =>
   obtain ⟨t,rfl⟩:=rx; obtain ⟨t',rfl⟩:=ry; exact (PyProof.Rows.lt_str q:wpAny (model prog w) A (compareOp .Lt (.str a t) (.str b t')) Q E s)
  | _=>exact absurd (show false=true from h) Bool.false_ne_true
 | _=>cases y <;> exact absurd (show false=true from h) Bool.false_ne_true
end L2
namespace HT
open PySem PyProof.Rows L2
section
open PySem.SeqAt
open PySem.AutoSeq1 (wpAny_loadPart')
open PySem.MeetsSeq PySem.MeetsSeq2 PySem.MeetsSeq3
theorem zgL (l b:Addr) (items items2:Array Value) (n n2:Nat) (dd dd2:Option Addr) (sl sl2:Array (Option Value)) (ns ms:List V) (hi:zae ns items.toList) (hj:zae ms items2.toList) (hc:zm6 ns ms) :
  Meets (Builtin.«tuple.__lt__» ⟨[.ref l,.ref b],[]⟩)
   (fun _ R s=>s.heap.get? l=some { cls:=.type "tuple",dict:=dd,data:=.seq items n,slots:=sl }/\s.heap.get? b=some { cls:=.type "tuple",dict:=dd2,data:=.seq items2 n2,slots:=sl2 } /\
    R (.ok (.ret (.bool (zlx ns ms)))) s) :=
 .of_wp fun prog w A R s h=>by
  obtain ⟨hp,g,d,tk,os⟩:=s; obtain ⟨hl,hb,h⟩:=h
  have f2:=AutoSeq1.sub_tuple_tuple
  have z1:items.size=ns.length:=by rw [hi.length]; simp
  have z2:items2.size=ms.length:=by rw [hj.length]; simp
  wp_walk using wpAny_loadPart' hl,wpAny_loadPart' hb,wpAny_forIn_list _ (fun zdp b s'=>b.1=none/\s'=⟨hp,g,d,tk,os⟩/\∃ (vs ws:List Value) (ns' ms':List V),zdp=vs.zip ws /\
   zae ns' vs/\zae ms' ws/\zm6 ns' ms'/\ns'.length+items2.size=ms'.length+items.size/\R (.ok (.ret (.bool (zlx ns' ms')))) ⟨hp,g,d,tk,os⟩) _
  case turn =>
   rintro ⟨y,x⟩ zdp b s' ⟨hb',rfl,vs,ws,ns',ms',hz,hvi,hwi,hcc,hlen,hR⟩
   cases hvi with
   | nil=>rw [List.zip_nil_left] at hz; cases hz
   | cons ra hvi' =>
    cases hwi with
    | nil=>rw [List.zip_nil_right] at hz; cases hz
    | cons rc hwi' =>
     rw [List.zip_cons_cons] at hz
     injection hz with hyx hrest
     injection hyx with hy hx
     subst hy hx
     rw [zfG] at hR; simp only [List.length_cons] at hlen; obtain ⟨hc1,hc2⟩:=hcc; obtain ⟨e,he,hiff⟩:=zoY (A:=A.in1) (s:=⟨hp,g,d,tk,os⟩) ra rc hc1; refine wpAny_bind (he prog w _ _ ?_)
     cases e with
     | true =>
      rw [if_pos (hiff.mp rfl)] at hR
      wp_walk
      exact ⟨rfl,rfl,_,_,_,_,hrest,hvi',hwi',hc2,by omega,hR⟩
     | false =>
      rw [if_neg (fun q=>absurd (hiff.mpr q) Bool.false_ne_true)] at hR
      have hri:=fun E Q=>znO (A:=A.in1) (s:=⟨hp,g,d,tk,os⟩) ra rc hc1 prog w E Q
      wp_walk using hri
      exact ⟨_,rfl,by simpa using hR⟩
  case fin =>
   rintro ⟨b1,b2⟩ s' ⟨hb',rfl,vs,ws,ns',ms',hz,hvi,hwi,hcc,hlen,hR⟩
   simp only at hb'
   subst hb'
   have hv:zlx ns' ms'=decide (items.size<items2.size):=by
    cases hvi with
    | nil =>
     cases hwi with
     | nil =>
      simp only [List.length_nil] at hlen
      exact (decide_eq_false (by omega)).symm
     | cons rc hw =>
      simp only [List.length_nil,List.length_cons] at hlen
      exact (decide_eq_true (by omega)).symm
    | cons ra hv =>
     cases hwi with
     | nil =>
      simp only [List.length_nil,List.length_cons] at hlen
      exact (decide_eq_false (by omega)).symm
     | cons rc hw =>
      rw [List.zip_cons_cons] at hz; cases hz
   rw [hv] at hR
   wp_walk
   exact ⟨_,rfl,by simpa [Builtin.Tuple.tupleCompareSizes] using hR⟩
  case h =>
   exact ⟨rfl,rfl,items.toList,items2.toList,ns,ms,rfl,hi,hj,hc,by omega,h⟩
end
section
variable {prog:Program} {w:World} {A:Around} {E:Value->Shared->Prop} {s:Shared}
theorem lt_tupVals {l b:Addr} {items items2:Array Value} {ns ms:List V} {Q:Value->Shared->Prop} (hl:IsTup s.heap l items) (hb:IsTup s.heap b items2) (hi:zae ns items.toList) (hj:zae ms items2.toList) (hcc:zm6 ns ms)
  (hu:A.units<cLine) (h:Q (.bool (zlx ns ms)) s):wpAny (model prog w) A (compareOp .Lt (.ref l) (.ref b)) Q E s:=by
 obtain ⟨⟨cls,dd,data,sl⟩,ho,hc,n,hd⟩:=id hl
 obtain ⟨⟨cls2,dd2,data2,sl2⟩,ho2,hc2,n2,hd2⟩:=id hb
 simp only at hc hd hc2 hd2
 subst hc hd hc2 hd2
 exact richCompare_meets_room (op:=.Lt) ⟨_,ho,rfl⟩ ⟨_,ho2,rfl⟩ PySem.F.slot_tuple_lt PySem.F.entry_tuple_lt (PySem.F.args_tuple_lt_2 _ _) (zgL l b items items2 n n2 dd dd2 sl sl2 ns ms hi hj hcc)
  ⟨ho,ho2,show Value.bool (zlx ns ms)≠Value.notImplemented/\Q (.bool (zlx ns ms)) s from ⟨(fun x=>nomatch x),h⟩⟩ hu
end
end HT
namespace L2
open PySem PySem.Spec PyProof.Rows
section
variable {X:Cx}
def zwx (K:W.Frag):R2:=fun x y H Q=>∃ a b ns ms,x=.ref a/\y=.ref b/\SqT K H a ns/\SqT K H b ms/\zm6 ns ms/\Q (.bl (zlx ns ms)) H
theorem zsU (hu:X.A.units<cLine):OpR X (compareOp .Lt) (zwx X.K):=by
 intro pins s σ H x y v u Q I rx ry h; obtain ⟨a,b,ns,ms,rfl,rfl,ha,hb,hc,q⟩:=h; cases rx; cases ry; obtain ⟨its,r1,p1,_⟩:=I.tuple ha; obtain ⟨its2,r2,p2,_⟩:=I.tuple hb
 exact HT.lt_tupVals p1 p2 (by simpa using r1) (by simpa using r2) hc hu ⟨.bl (zlx ns ms),H,I,rfl,q⟩
end
end L2
namespace L2
open PySem PySem.Spec PyProof.Rows
def Its (l:List Nat):It:=⟨fun i _=>i<l.length,fun i H x H'=>H'=H/\∃ c,l[i]?=some c/\x=.str (st [c]),fun i _=>i=l.length⟩
theorem zjP {P:Program} {w:World} {A:Around} {cls:String} (hA:A.handled=none) (it:Addr) (x:Str) (t:Tok) (hcls:cls="str_ascii_iterator"\/cls="str_iterator"):Walks P w A it [it] [it] x.cps.size (SignAt x) (fun i h=>h.IsStrIter it cls x t i):=by
 rcases hcls with rfl | rfl
 ·exact Walks.strAscii hA it x t
 ·exact Walks.strWide hA it x t
theorem zjR {P:Program} {w:World} {K:W.Frag} {tg:Expr} {cls:String} (x:Str) (t:Tok) (it:Addr) (hcls:cls="str_ascii_iterator"\/cls="str_iterator"):Turn P w K tg (Its x.cps.toList) [it] it (fun i h=>h.IsStrIter it cls x t i) where
 mem:=by simp
 obj:=fun i h stt b hb=>by
  have e:b=it:=by simpa using hb
  subst e; obtain ⟨o,e,c,d⟩:=stt
  exact ⟨o,e,fun v z=>by rw [d] at z; cases z⟩
 keep:=fun i h h' stt k=>by
  obtain ⟨o,e,r⟩:=stt
  exact ⟨o,k it (by simp) o e,r⟩
 item:=by
  intro X hP hw hK hc i pins s σ H E I hf stt hg
  subst hP hw hK
  obtain ⟨f0,f1,f2,f3,f4,f5⟩:=hf it (by simp)
  have hg':i<x.cps.toList.length:=hg
  refine (zjP (I.ok.hd hc) it x t hcls).item i s _ _ (by simpa using hg') stt fun v h' tk hv st' kk=>?_
  obtain ⟨c,u,hc',rfl⟩:=hv
  have I1:Inv X pins σ H { s with heap:=h',toks:=tk }:=I.turned (fun b o hb e=>kk b o (by simpa using hb) e) f0 f1 f3 f4 f5
  obtain ⟨o,e,hcl,d⟩:=id st'
  exact ⟨_,rfl,zll (s:={ s with heap:=h',toks:=tk }) e hcl d (by rcases hcls with rfl | rfl <;> decide) ⟨.str (st [c]),H,I1,⟨u,rfl⟩,⟨rfl,c,by simpa using hc',rfl⟩,st',fun b hb=>(hf b hb).1⟩⟩
 done:=by
  intro X hP hw hK hc i pins s σ H E I hf stt hg
  subst hP hw hK
  obtain ⟨f0,f1,f2,f3,f4,f5⟩:=hf it (by simp)
  have hg':i=x.cps.toList.length:=hg
  subst hg'
  refine (zjP (I.ok.hd hc) it x t hcls).done s _ _ (by simpa using stt) fun h' tk kk=>?_
  exact ⟨rfl,I.turned (fun b o hb e=>kk b o (by simpa using hb) e) f0 f1 f3 f4 f5⟩
 self:=fun A i s Q E stt h=>by
  rcases hcls with rfl | rfl
  ·exact wpAny_pyIter_striter_ascii stt h
  ·exact wpAny_pyIter_striter_wide stt h
section
variable {X:Cx} {tg:Expr}
end
def zdv (cells:List (Str × Addr)):List (Str × NameKind)->List (Str × Addr)->List (Str × Addr)
 | [],acc=>acc
 | (n,k) :: r,acc=>if k == .free then zdv cells r ((n,(cells.lookup n).getD 0) :: acc) else zdv cells r acc
theorem zgF {env:Env}:∀ (l:List (Str × NameKind)) (acc:List (Str × Addr)),(∀ y ∈ l,y.2=.free->∃ c,env.cells.lookup y.1=some c) ->
  (forIn (m:=Sem) l acc fun x r=>if (x.2 == NameKind.free)=true then do let a <- cellOf env x.1; pure (ForInStep.yield ((x.1,a) :: r)) else pure (ForInStep.yield r))=pure (zdv env.cells l acc)
 | [],acc,_=>rfl
 | (n,k) :: r,acc,h=>by
  rw [List.forIn_cons]
  have ih:=fun acc'=>zgF r acc' fun y hy=>h y (List.mem_cons_of_mem _ hy)
  by_cases hk:k=.free
  ·subst hk
   obtain ⟨c,hc⟩:=h (n,.free) (List.mem_cons_self ..) rfl
   have e:cellOf env n=pure c:=by
    unfold cellOf
    rw [show env.cells.lookup n=some c from hc]
   show ((if ((NameKind.free:NameKind) == NameKind.free)=true then _ else _) >>= _)=_
   rw [if_pos (by decide),e]
   unfold zdv
   rw [if_pos (by decide),show env.cells.lookup n=some c from hc]
   exact ih _
  ·have hb:(k == NameKind.free)=false:=by simpa using hk
   show ((if (k == NameKind.free)=true then _ else _) >>= _)=_
   rw [if_neg (by rw [hb]; decide)]
   unfold zdv
   rw [if_neg (by rw [hb]; decide)]
   exact ih _
theorem zgE {scope:Scope} {env:Env} (h:∀ y ∈ scope.names,y.2=.free->∃ c,env.cells.lookup y.1=some c):closureFor scope env=pure (zdv env.cells scope.names []):=by
 unfold closureFor; have e:=zgF scope.names [] h
 refine Eq.trans ?_ (congrArg (fun z=>z >>= fun cs=>(pure cs:Sem (List (Str × Addr)))) e)
 rfl
theorem zed {cells:List (Str × Addr)} {x:Str} {c:Addr}:∀ (l:List (Str × NameKind)) (acc:List (Str × Addr)),(∀ y ∈ l,y.2=.free->∃ c,cells.lookup y.1=some c)->(∀ x c,acc.lookup x=some c->cells.lookup x=some c)->(zdv cells l acc).lookup x=some c->cells.lookup x=some c
 | [],acc,_,ha,h=>ha x c h
 | (n,k) :: r,acc,hl,ha,h=>by
  unfold zdv at h; split at h
  ·rename_i hk
   obtain ⟨c',hc'⟩:=hl (n,k) (List.mem_cons_self ..) (by simpa using hk)
   refine zed r _ (fun y hy=>hl y (List.mem_cons_of_mem _ hy)) (fun z d hz=>?_) h
   rw [show cells.lookup n=some c' from hc'] at hz
   rw [List.lookup_cons] at hz
   cases hzn:z == n with
   | true =>
    rw [hzn] at hz
    have e1:z=n:=by simpa using hzn
    rw [e1,show cells.lookup n=some c' from hc']
    simpa using hz
   | false =>
    rw [hzn] at hz; exact ha z d hz
  ·exact zed r acc (fun y hy=>hl y (List.mem_cons_of_mem _ hy)) ha h
theorem zhA {cells:List (Str × Addr)} {x:Str}:∀ (l:List (Str × NameKind)) (acc:List (Str × Addr)),(∃ c,acc.lookup x=some c)->∃ c,(zdv cells l acc).lookup x=some c
 | [],_,h=>h
 | (n,k) :: r,acc,h=>by
  unfold zdv; split
  ·refine zhA r _ ?_
   rw [List.lookup_cons]; split
   ·exact ⟨_,rfl⟩
   ·exact h
  ·exact zhA r acc h
theorem zhz {cells:List (Str × Addr)} {x:Str}:∀ (l:List (Str × NameKind)) (acc:List (Str × Addr)),(x,NameKind.free) ∈ l->∃ c,(zdv cells l acc).lookup x=some c
 | [],_,h=>absurd h List.not_mem_nil
 | (n,k) :: r,acc,h=>by
  unfold zdv
  rcases List.mem_cons.mp h with e | e
  ·cases e
   rw [if_pos (by decide)]
   refine zhA r _ ?_; rw [List.lookup_cons,beq_self_eq_true]; exact ⟨_,rfl⟩
  ·split
   ·exact zhz r _ e
   ·exact zhz r _ e
theorem zew {x:Str} {k:NameKind}:∀ {l:List (Str × NameKind)},l.lookup x=some k->(x,k) ∈ l
 | [],h=>by simp at h
 | (n,j) :: r,h=>by
  rw [List.lookup_cons] at h
  cases e:x == n with
  | true =>
   rw [e] at h
   have e1:x=n:=by simpa using e
   have e2:j=k:=by simpa using h
   rw [e1,e2]; exact List.mem_cons_self ..
  | false =>
   rw [e] at h; exact List.mem_cons_of_mem _ (zew h)
theorem zgr {env:Env} (hk:env.scope.kind=.function) {x:Str} (hx:env.kindOf x=some .cell):∀ {l:List (Str × NameKind)},l.lookup x=some .free ->
  (l.map fun (n,k)=>if (k == NameKind.free && env.scope.kind == .function && env.kindOf n == some .cell) then (n,NameKind.cell) else (n,k)).lookup x=some .cell
 | [],h=>by simp at h
 | (n,k) :: r,h=>by
  rw [List.lookup_cons] at h; rw [List.map_cons]
  show List.lookup x ((if (k == NameKind.free && env.scope.kind == .function && env.kindOf n == some .cell)=true then (n,NameKind.cell) else (n,k)) :: _)=_
  cases e:x == n with
  | true =>
   rw [e] at h
   have e1:x=n:=by simpa using e
   have e2:k=.free:=by simpa using h
   subst e1 e2
   have z:((NameKind.free == NameKind.free && env.scope.kind == .function && env.kindOf x == some .cell):Bool)=true:=by rw [hk,hx]; decide
   rw [if_pos z,List.lookup_cons,beq_self_eq_true]
  | false =>
   rw [e] at h; have ih:=zgr hk hx (l:=r) h
   by_cases z:(k == NameKind.free && env.scope.kind == .function && env.kindOf n == some .cell)=true
   ·rw [if_pos z,List.lookup_cons,e]
    exact ih
   ·rw [if_neg z,List.lookup_cons,e]
    exact ih
theorem zgs {env:Env} {x:Str}:∀ {l:List (Str × NameKind)},(∀ y ∈ l,y.2≠.cell)->((l.map fun (n,k)=>if (k == NameKind.free && env.scope.kind == .function && env.kindOf n == some .cell) then (n,NameKind.cell) else (n,k)).lookup x=some .cell \/
  (l.map fun (n,k)=>if (k == NameKind.free && env.scope.kind == .function && env.kindOf n == some .cell) then (n,NameKind.cell) else (n,k)).lookup x=some .free)->(x,NameKind.free) ∈ l
 | [],_,h=>by simp at h
 | (n,k) :: r,hc,h=>by
  have again:∀ (z:(r.map fun (n,k)=>if (k == NameKind.free && env.scope.kind == .function && env.kindOf n == some .cell) then (n,NameKind.cell) else (n,k)).lookup x=some .cell\/(r.map fun (n,k)=>if (k == NameKind.free && env.scope.kind == .function && env.kindOf n == some .cell) then (n,NameKind.cell) else (n,k)).lookup x=some .free),(x,NameKind.free) ∈ (n,k) :: r :=
   fun z=>List.mem_cons_of_mem _ (zgs (fun y hy=>hc y (List.mem_cons_of_mem _ hy)) z)
  rw [List.map_cons] at h
  change List.lookup x ((if (k == NameKind.free && env.scope.kind == .function && env.kindOf n == some .cell)=true then (n,NameKind.cell) else (n,k)) :: _)=some NameKind.cell\/List.lookup x ((if (k == NameKind.free && env.scope.kind == .function && env.kindOf n == some .cell)=true then (n,NameKind.cell) else (n,k)) :: _)=some NameKind.free at h
  by_cases z:(k == NameKind.free && env.scope.kind == .function && env.kindOf n == some .cell)=true
  ·have hk:k=.free:=by
    simp only [Bool.and_eq_true,beq_iff_eq] at z; exact z.1.1
   rw [if_pos z,List.lookup_cons] at h
   cases e:x == n with
   | true =>
    have e1:x=n:=by simpa using e
    rw [e1,hk]; exact List.mem_cons_self ..
   | false =>
    rw [e] at h; exact again h
  ·rw [if_neg z,List.lookup_cons] at h
   cases e:x == n with
   | true =>
    rw [e] at h
    have e1:x=n:=by simpa using e
    rcases h with h | h
    ·exact absurd (by simpa using h) (hc (n,k) (List.mem_cons_self ..))
    ·have e2:k=.free:=by simpa using h
     rw [e1,e2]; exact List.mem_cons_self ..
   | false =>
    rw [e] at h; exact again h
structure Blk (N N':List Str) (src:List (Option Nat)) (fsc sc:Scope):Prop where
 kind:sc.kind=.function
 cell:∀ y ∈ sc.names,y.2≠.cell
 names:∀ y ∈ sc.names,y.2=.local->sc.names.lookup y.1=some .local
 free:∀ y ∈ sc.names,y.2=.free->fsc.names.lookup y.1=some .cell
 len:src.length=N'.length
 sees:((N'.zip src).all fun y=>match y.2 with | none=>true | some i=>decide (N[i]?=some y.1) && decide (sc.names.lookup y.1=some .free))=true
def znK (src:List (Option Nat)) (σ:St):St:=src.map fun o=>o.bind fun i=>(σ[i]?).join
abbrev blk (X:Cx) (N':List Str) (sc:Scope) (cl:List (Str × Addr)) (C:Addr) (s:Shared) (H:Hp) (fp:List Addr) (pn:List (Addr × Obj)):Cx :=
 { X with N:=N',s₀:=s,H₀:=H,env:=compEnvC sc cl C X.env,outer:=X.stack,ex:=fp,fn:=fun _=>false,pn:=pn }
theorem zpM {X:Cx} {N N':List Str} {src:List (Option Nat)} {fsc sc:Scope} {pins:List (Addr × Obj)} {σ:St} {H:Hp} {s:Shared} {fp:List Addr} {h':Heap} {tk:Nat} {m:Str->Option Value} (I:Inv X pins σ H s) (B:Blk N N' src fsc sc) (hN:X.N=N) (hs:X.env.scope=fsc)
  (f2:∀ b ∈ fp,zhD X pins H b) (fb:∀ b ∈ fp,b<s.heap.objs.size) (hn:h'.Ns s.heap.objs.size m) (kp:∀ b o,s.heap.get? b=some o->h'.get? b=some o) :
  Inv (blk X N' sc (zdv X.env.cells sc.names []) s.heap.objs.size s H fp (X.pn ++ pins)) [] (znK src σ) H { s with heap:=h',toks:=tk }:=by
 subst hN hs
 have hfr:∀ y ∈ sc.names,y.2=.free->∃ c,X.env.cells.lookup y.1=some c:=fun y hy e=>I.ok.has y.1 (.inl (B.free y hy e))
 have sub:∀ x c,(zdv X.env.cells sc.names []).lookup x=some c->X.env.cells.lookup x=some c:=fun x c e=>zed sc.names [] hfr (fun _ _ z=>by simp at z) e
 have has:∀ x,(x,NameKind.free) ∈ sc.names->∃ c,(zdv X.env.cells sc.names []).lookup x=some c:=fun x hx=>zhz sc.names [] hx
 have ok:Cx.Ok (blk X N' sc (zdv X.env.cells sc.names []) s.heap.objs.size s H fp (X.pn ++ pins)):=by
  refine ⟨I.ok.mod,B.kind,I.ok.glob,I.ok.blt,Nat.le_refl _,fun x y c e1 e2=>I.ok.inj x y c (sub x c e1) (sub y c e2),fun x hx=>has x (zgs B.cell hx),fun x c e=>(nomatch e),I.ok.hd,I.ok.frames,.inl rfl,fun b hb=>⟨Nat.ne_of_lt (fb b hb),fun x c e=>(f2 b hb).2.2.2.2.1 x c (sub x c e)⟩,
   I.bs,Nat.le_trans I.ok.bsz I.sz,fun b o e hb=>?_,fun b hb z=>?_,I.stack,I.stkFree,I.ok.tab.un I.base.tbls⟩
  ·rcases (f2 b hb).2.2.2.1 with z | z
   ·exact I.ok.noex b o e z
   ·exact absurd (Nat.lt_of_lt_of_le (Heap.lt_size e) (Nat.le_trans I.ok.bsz z)) (Nat.lt_irrefl _)
  ·rcases List.mem_cons.mp (I.stkSub b z) with e | e
   ·exact (f2 b hb).2.1 e
   ·exact (f2 b hb).2.2.1 e
 refine ⟨ok,rfl,I.bare,Un.kept kp,⟨m,hn,fun j x v e1 e2 e3=>?_⟩,fun x c e=>?_,I.hok.fresh (Nat.le_refl _),fun x c e=>I.freeC x c (sub x c e),fun p hp=>?_,I.hok.kept kp,?_⟩
 ·have e2':(src[j]?).map (fun o=>o.bind fun i=>(σ[i]?).join)=some (some v):=by
   have z:=e2; unfold znK at z; rw [List.getElem?_map] at z; exact z
  cases hj:src[j]? with
  | none=>rw [hj] at e2'; cases e2'
  | some o =>
   rw [hj] at e2'
   cases o with
   | none=>cases e2'
   | some i =>
    have hσ:σ[i]?=some (some v):=by
     have z:(σ[i]?).join=some v:=by simpa using e2'
     cases hz:σ[i]? with
     | none=>rw [hz] at z; cases z
     | some w=>rw [hz] at z; exact congrArg some z
    have hz:(x,some i) ∈ N'.zip src:=by
     have q:(N'.zip src)[j]?=some (x,some i):=by
      rw [List.getElem?_zip_eq_some]; exact ⟨e1,hj⟩
     exact List.mem_of_getElem? q
    have q:=List.all_eq_true.mp B.sees _ hz; simp only [Bool.and_eq_true,decide_eq_true_eq] at q; obtain ⟨q1,q2⟩:=q
    have hkc:X.env.kindOf x=some .cell:=B.free _ (zew q2) rfl
    obtain ⟨m0,_,hl⟩:=I.loc; obtain ⟨u,ru,lk⟩:=hl i x v q1 hσ (.inr (.inl hkc)); refine ⟨u,ru,.inr ⟨.inl (zgr I.ok.kind hkc q2),?_⟩⟩
    rcases lk with ⟨k,_⟩ | ⟨_,c,e,z⟩
    ·rw [hkc] at k; cases k
    ·obtain ⟨c',hc'⟩:=has x (zew q2)
     have e':=sub x c' hc'; rw [e] at e'; cases e'; obtain ⟨o,ho,hd⟩:=z; exact ⟨c,hc',o,kp _ _ ho,hd⟩
 ·obtain ⟨v,o,ho,hd⟩:=I.cell x c (sub x c e)
  exact ⟨v,o,kp _ _ ho,hd⟩
 ·rw [List.append_nil] at hp
  obtain ⟨e,n,ne,nf,d⟩:=I.pin p hp
  refine ⟨kp _ _ e,n,Nat.ne_of_lt (Heap.lt_size e),fun z=>?_,d⟩
  rcases List.mem_cons.mp (I.stkSub p.1 z) with q | q
  ·exact ne q
  ·exact nf q
 ·show (znK src σ).length=N'.length
  unfold znK; rw [List.length_map,B.len]
theorem Un.same {fs ex:List Addr} {H H1:Hp} {h h1 h2:Heap} {a:Addr} (u:Un fs ex H H1 h h1) (hs:Heap.SameBut a h1 h2) (ha:h.objs.size<=a):Un fs ex H H1 h h2:=by
 have ne:∀ b o,h.get? b=some o->b≠a:=fun b o e=>Nat.ne_of_lt (Nat.lt_of_lt_of_le (Heap.lt_size e) ha)
 refine ⟨fun b o e n h1 h2=>?_,fun b o e n h1 h2=>?_,u.free,fun b o e h1=>?_,u.tups,u.frzs,u.tbls⟩
 ·exact (hs.2 b (ne b o e)).trans (u.keep b o e n h1 h2)
 ·obtain ⟨sl,q⟩:=u.slot b o e n h1 h2
  exact ⟨sl,(hs.2 b (ne b o e)).trans q⟩
 ·obtain ⟨o',q⟩:=u.there b o e h1
  exact ⟨o',(hs.2 b (ne b o e)).trans q⟩
theorem HOk.same {P:Program} {w:World} {H:Hp} {h h':Heap} {a:Addr} (x:HOk P w H h) (hs:Heap.SameBut a h h') (ha:H a=none):HOk P w H h':=fun b o e=>by
 refine (x b o e).stay (fun c u hc q=>(hs.2 c ?_).trans q) (fun _ q=>q) fun _ _ q=>q
 rintro rfl
 rcases hc with rfl | hc
 ·rw [ha] at e; cases e
 ·rw [ha] at hc; cases hc
def PTs (X:Cx) (ifs:List Expr) (t:TT):Prop :=
 ∀ (pins:List (Addr × Obj)) (s:Shared) (σ:St) (H:Hp) (Q:Bool->Hp->Prop),Inv X pins σ H s->t σ H Q ->
  wpAny (model X.prog X.w) X.A (forIn ifs true fun c r=>if r=true then do let ok <- isTrue c X.env (eval c X.env); pure (ForInStep.yield ok) else pure (ForInStep.yield r)) (TP X pins σ Q) X.xe s
theorem zqi {X:Cx}:PTs X [] (fun _ H Q=>Q true H):=fun _ _ _ H _ I h=>wpAny_pure ⟨H,I,h⟩
theorem zqh {X:Cx} {c:Expr} {t:TT} (h:PT X c t):PTs X [c] t:=fun pins s σ H Q I q=>wpAny_tests_one (h pins s σ H Q I q)
end L2
namespace L2
open PySem PySem.Spec PyProof.Rows
theorem ziO {P:Program} {w:World} {A:Around} {R:Result->Shared->Prop} {s:Shared} {elt tg iter:Expr} {ifs:List Expr} {sc:Scope} {pos:Pos} {it acc:Value} {env:Env} (J:Nat->Shared->Prop)
  (turn:∀ k s',J k s'->wpAny (model P w) A (pyNext it) (fun r s1=>match r with
   | none=>R (.ok .next) s1
   | some v=>wpAny (model P w) A (letOwnedTupleGo tg it v) (fun _ s2=>wpAny (model P w) A (assign tg env v) (fun _ s3 =>
     wpAny (model P w) A (forIn ifs true fun c r=>if r=true then do let ok <- isTrue c env (eval c env); pure (ForInStep.yield ok) else pure (ForInStep.yield r)) (fun b s4 =>
      if b=true then wpAny (model P w) A (eval elt env) (fun y s5=>wpAny (model P w) A (call (.builtin "list.append") [acc,y]) (fun _ s6=>∃ m,m<k/\J m s6) (fun _ _=>False) s5) (fun _ _=>False) s4
      else ∃ m,m<k/\J m s4) (fun _ _=>False) s3) (fun _ _=>False) s2) (fun _ _=>False) s1) (fun _ _=>False) s')
  (k:Nat) (h:J k s):codeAny (model P w) A (.compLoop (.ListComp elt [⟨tg,iter,ifs,0⟩] sc pos) 0 it acc env) R s:=by
 have no:∀ {α:Type} {t:Sem α} {Q Q':α->Shared->Prop} {E:Value->Shared->Prop} {z:Shared},wpAny (model P w) A t Q (fun _ _=>False) z->(∀ a z',Q a z'->Q' a z')->wpAny (model P w) A t Q' E z:=fun g1 g2=>wpAny_mono g1 g2 fun _ _ f=>f.elim
 refine codeAny_loop rfl J (fun k s' hJ=>?_) k h
 show wpAny _ A ((compTurn (.ListComp elt [⟨tg,iter,ifs,0⟩] sc pos) 0 it acc env).onRaise (fun x=>do noteFrame x env; theTreesLotGoes x)) _ _ s'
 refine wpAny_noted ?_; rw [compTurn_list]
 refine wpAny_bind (wpAny_standAt (wpAny_bind (no (turn k s' hJ) fun r s1 h1=>?_)))
 cases r with
 | none=>exact wpAny_pure h1
 | some v =>
  refine wpAny_bind (no h1 fun _ s2 h2=>wpAny_bind (no h2 fun _ s3 h3=>wpAny_bind (no h3 fun b s4 h4=>?_)))
  cases b with
  | false=>exact wpAny_pure ⟨rfl,h4⟩
  | true=>exact wpAny_bind (wpAny_bind (no h4 fun y s5 h5=>wpAny_bind (no h5 fun _ s6 h6=>wpAny_pure (wpAny_pure ⟨rfl,h6⟩))))
def zrZ (wi:TI) (src:List (Option Nat)) (g:TG) (tc:TT) (te:TE):TE:=fun σ H Q=>wi σ H fun J H1=>∀ D,H1 D=none->∃ W:Nat->Nat->St->Hp->Prop,(∃ m,W 0 m (znK src σ) (upd H1 D (.lst [])))/\∀ i m σ2 H2,W i m σ2 H2 ->
 (J.stop i H2/\Q (.ref D) H2)\/(J.go i H2/\∃ M:St->Hp->Prop,(∀ σ' H',M σ' H'->∃ m',m'<m/\W (i+1) m' σ' H')/\∀ x H',J.yld i H2 x H'->g x σ2 H' fun σ3 H3=>tc σ3 H3 fun b H4 =>
  if b=true then te σ3 H4 fun y H5=>∃ ys,H5 D=some (.lst ys)/\ys.length<sizeLine/\M σ3 (upd H5 D (.lst (ys ++ [y]))) else M σ3 H4)
theorem zqH {X:Cx} {elt tg iter:Expr} {ifs:List Expr} {sc fsc:Scope} {pos:Pos} {wi:TI} {g:TG} {tc:TT} {te:TE} {N N':List Str} {src:List (Option Nat)} (B:Blk N N' src fsc sc) (hi:PI X tg iter wi)
  (hg:∀ cl C s H fp pn,PG (blk X N' sc cl C s H fp pn) tg g) (ht:∀ cl C s H fp pn,PTs (blk X N' sc cl C s H fp pn) ifs tc) (he:∀ cl C s H fp pn,PE (blk X N' sc cl C s H fp pn) elt te)
  (hx:X.xe=(fun _ _=>False):=by rfl) (hc:X.calm=true:=by rfl) (hN:X.N=N:=by rfl) (hs:X.env.scope=fsc:=by rfl)
  (hf:∀ x,foldedSetIterable iter X.env x=pure x:=by intro _; rfl):PE X (.ListComp elt [⟨tg,iter,ifs,0⟩] sc pos) (zrZ wi src g tc te):=by
 intro pins s σ H Q I h; rw [eval_ListComp]
 have hfr:∀ y ∈ sc.names,y.2=.free->∃ c,X.env.cells.lookup y.1=some c:=fun y hy e=>I.ok.has y.1 (.inl (by have:=B.free y hy e; rw [<- hs] at this; exact this))
 refine wpAny_comprehension_free (use:=none) (cl:=zdv X.env.cells sc.names []) rfl hf (zgE hfr) B.kind B.names ?_
 refine thn (hi pins s σ H _ I h) fun v s1 h1=>thn h1 fun itv s2 h2=>?_
 obtain ⟨it,fp,tn,J,H2,e,I2,T,st2,f2,q⟩:=h2; subst e
 obtain ⟨W,⟨m0,w0⟩,turn⟩:=q s2.heap.objs.size (I2.hok.fresh (Nat.le_refl _))
 refine wpAny_newObj_type (wpAny_newFunctionEnv B.cell (by intro y hy; simp at hy) (fun h1 hns hsb=>?_) B.kind)
 dsimp only at hns hsb ⊢
 have I3:Inv X pins σ (upd H2 s2.heap.objs.size (.lst [])) { s2 with heap:=s2.heap.push { cls:=.type "list",dict:=none,data:=.seq ([]:List Value).toArray } } :=
  I2.laid (t':=s2.toks) (fun b o e=>Heap.get?_push_of_some _ e) (Nat.le_refl _) ⟨Nat.zero_le _,[],0,.nil,Heap.get?_push_size _ rfl⟩
 have fb:∀ b ∈ fp,b<s2.heap.objs.size:=fun b hb=>by
  obtain ⟨o,e,_⟩:=T.obj 0 _ st2 b hb; exact Heap.lt_size e
 have f3:∀ b ∈ fp,zhD X pins (upd H2 s2.heap.objs.size (.lst [])) b:=fun b hb=>by
  refine ⟨?_,(f2 b hb).2⟩; rw [zq (Nat.ne_of_lt (fb b hb))]; exact (f2 b hb).1
 generalize hh3:s2.heap.push { cls:=.type "list",dict:=none,data:=.seq ([]:List Value).toArray }=h3 at hns hsb I3 ⊢
 have z3:s2.heap.objs.size<h3.objs.size:=by rw [<- hh3,Heap.size_push]; exact Nat.lt_succ_self _
 have k3:∀ b o,h3.get? b=some o->h1.get? b=some o:=fun b o e=>hsb.extBut b o (Nat.ne_of_lt (Heap.lt_size e)) (Heap.get?_push_of_some _ e)
 have I4:=zpM (tk:=s2.toks+([]:List (Str × Value)).length) I3 B hN hs f3 (fun b hb=>Nat.lt_trans (fb b hb) z3) hns k3
 have st4:tn 0 h1:=T.keep 0 _ _ st2 fun b hb o e=>k3 b o (by rw [<- hh3]; exact Heap.get?_push_of_some _ e)
 have fok:∀ {H':Hp},(∀ b ∈ fp,H' b=none)->∀ b ∈ fp,zhD (blk X N' sc (zdv X.env.cells sc.names []) h3.objs.size { s2 with heap:=h3 } (upd H2 s2.heap.objs.size (.lst [])) fp (X.pn ++ pins)) [] H' b:=fun hn b hb=>by
  obtain ⟨_,g1,g2,g3,g4,g5⟩:=f3 b hb
  refine ⟨hn b hb,Nat.ne_of_lt (Nat.lt_trans (fb b hb) z3),fun z=>?_,.inl hb,fun x c e=>g4 x c (zed sc.names [] hfr (fun _ _ z=>by simp at z) e),fun p hp=>g5 p (by rw [List.append_nil] at hp; exact hp)⟩
  rcases List.mem_cons.mp (I3.stkSub b z) with e | e
  ·exact g1 e
  ·exact g2 e
 have loop:∀ s4:Shared,s4={ s2 with heap:=h1,toks:=s2.toks+([]:List (Str × Value)).length } ->
   codeAny (model X.prog X.w) X.A (.compLoop (.ListComp elt [⟨tg,iter,ifs,0⟩] sc pos) 0 (.ref it) (.ref s2.heap.objs.size) (compEnvC sc (zdv X.env.cells sc.names []) h3.objs.size X.env))
    (compPost (model X.prog X.w) X.A X.xe none (EP X pins σ Q) (.ref s2.heap.objs.size) h3.objs.size) s4:=by
  rintro s4 rfl
  refine ziO (fun k s'=>∃ i σ5 H5,Inv (blk X N' sc (zdv X.env.cells sc.names []) h3.objs.size { s2 with heap:=h3 } (upd H2 s2.heap.objs.size (.lst [])) fp (X.pn ++ pins)) [] σ5 H5 s'/\tn i s'.heap/\(∀ b ∈ fp,H5 b=none)/\W i k σ5 H5) ?_ m0
   ⟨0,_,_,I4,st4,fun b hb=>(f3 b hb).1,w0⟩
  rintro k s5 ⟨i,σ5,H5,I5,st5,fr5,w5⟩
  rcases turn i k σ5 H5 w5 with ⟨stop,qd⟩ | ⟨go,M,hM,step⟩
  ·refine thn (T.done (blk X N' sc (zdv X.env.cells sc.names []) h3.objs.size { s2 with heap:=h3 } (upd H2 s2.heap.objs.size (.lst [])) fp (X.pn ++ pins)) rfl rfl rfl hc i [] s5 σ5 H5 _ I5 (fok fr5) st5 stop) fun r s6 ⟨hr,I6⟩=>?_
   subst hr; obtain ⟨m6,hn6,_⟩:=id I6.loc
   refine ⟨m6,hn6,fun h' hsb'=>⟨.ref s2.heap.objs.size,H5,?_,rfl,qd⟩⟩
   exact I3.call' (s':={ s6 with heap:=h' }) (ch:=fp) I6.os (Un.same I6.base hsb' (Nat.le_refl _)) (HOk.same I6.hok hsb' I6.free) I6.bare fun b hb=>⟨(f3 b hb).2.2.2.1,(f3 b hb).2.1,(f3 b hb).2.2.2.2.1,(f3 b hb).2.2.2.2.2⟩
  ·refine thn (T.item (blk X N' sc (zdv X.env.cells sc.names []) h3.objs.size { s2 with heap:=h3 } (upd H2 s2.heap.objs.size (.lst [])) fp (X.pn ++ pins)) rfl rfl rfl hc i [] s5 σ5 H5 _ I5 (fok fr5) st5 go) fun r s6 ⟨u,hr,h6⟩=>?_
   subst hr
   refine thn h6 fun _ s7 ⟨x,H7,I7,r7,y7,st7,fr7⟩=>?_
   have I7':=I7.pinned (fok fr7) (T.obj _ _ st7)
   have back:∀ {σ8:St} {H8:Hp} {s8:Shared},Inv (blk X N' sc (zdv X.env.cells sc.names []) h3.objs.size { s2 with heap:=h3 } (upd H2 s2.heap.objs.size (.lst [])) fp (X.pn ++ pins)) ([] ++ zgw fp s7.heap) σ8 H8 s8->tn (i+1) s8.heap/\∀ b ∈ fp,H8 b=none:=fun {σ8 H8 s8} I8=>by
    have pn8:∀ b ∈ fp,∀ o,s7.heap.get? b=some o->s8.heap.get? b=some o/\H8 b=none:=fun b hb o e=>by
     have q:=I8.pin (b,o) (List.mem_append_right _ (List.mem_append_right _ (zc4 hb e))); exact ⟨q.1,q.2.1⟩
    refine ⟨T.keep _ _ _ st7 fun b hb o e=>(pn8 b hb o e).1,fun b hb=>?_⟩
    obtain ⟨o,e,_⟩:=T.obj _ _ st7 b hb; exact (pn8 b hb o e).2
   have xf:∀ {α:Type} {t:Sem α} {Q1 Q2:α->Shared->Prop} {z:Shared},wpAny (model X.prog X.w) X.A t Q1 X.xe z->(∀ a z',Q1 a z'->Q2 a z')->wpAny (model X.prog X.w) X.A t Q2 (fun _ _=>False) z:=fun g1 g2=>by
    rw [hx] at g1; exact thn g1 g2
   refine xf (hg _ _ _ _ _ _ _ s7 σ5 H7 x u _ I7' r7 (step x H7 y7)) fun _ s8 ⟨σ8,H8,I8,q8⟩=>?_
   refine xf (ht _ _ _ _ _ _ _ s8 σ8 H8 _ I8 q8) fun b s9 ⟨H9,I9,q9⟩=>?_
   cases b with
   | false =>
    obtain ⟨m',hm,w'⟩:=hM σ8 H9 (by simpa using q9)
    obtain ⟨g1,g2⟩:=back I9; exact ⟨m',hm,i+1,σ8,H9,I9.unpinned,g1,g2,w'⟩
   | true =>
    rw [if_pos rfl] at q9 ⊢
    refine xf (he _ _ _ _ _ _ _ s9 σ8 H9 _ I9 q9) fun y s10 ⟨yv,H10,I10,r10,ys,hy,hz,w⟩=>?_
    obtain ⟨m',hm,w'⟩:=hM _ _ w
    refine xf (zfD (X:=(blk X N' sc (zdv X.env.cells sc.names []) h3.objs.size { s2 with heap:=h3 } (upd H2 s2.heap.objs.size (.lst [])) fp (X.pn ++ pins))) _ s10 σ8 H10 (.ref s2.heap.objs.size) [yv] _ [y] (fun _ H11=>H11=upd H10 s2.heap.objs.size (.lst (ys ++ [yv]))) I10 rfl (.cons r10 .nil) ⟨_,ys,yv,rfl,rfl,hy,hz,rfl⟩) fun _ s11 ⟨_,H11,I11,_,e11⟩=>?_
    subst e11; obtain ⟨g1,g2⟩:=back I11; exact ⟨m',hm,i+1,σ8,_,I11.unpinned,g1,g2,w'⟩
 exact codeAny_compStart_list (loop _ rfl) (T.self _ 0 _ _ _ st4 (loop _ rfl))
theorem ziN {J:It} {n:Nat} {g:TG} {tc:TT} {te:TE} {Q:VK} {D:Addr} {σ0:St} {H0:Hp} (Pv:Nat->St->Hp->Prop) (h0:Pv 0 σ0 H0)
  (hs:∀ i σ H,i<n->Pv i σ H->J.go i H/\∀ x H',J.yld i H x H'->g x σ H' fun σ3 H3=>tc σ3 H3 fun b H4=>if b=true then te σ3 H4 fun y H5=>∃ ys,H5 D=some (.lst ys)/\ys.length<sizeLine/\Pv (i+1) σ3 (upd H5 D (.lst (ys ++ [y]))) else Pv (i+1) σ3 H4)
  (hd:∀ σ H,Pv n σ H->J.stop n H/\Q (.ref D) H) :
  ∃ W:Nat->Nat->St->Hp->Prop,(∃ m,W 0 m σ0 H0)/\∀ i m σ2 H2,W i m σ2 H2 ->
   (J.stop i H2/\Q (.ref D) H2)\/(J.go i H2/\∃ M:St->Hp->Prop,(∀ σ' H',M σ' H'->∃ m',m'<m/\W (i+1) m' σ' H')/\∀ x H',J.yld i H2 x H'->g x σ2 H' fun σ3 H3=>tc σ3 H3 fun b H4 =>
    if b=true then te σ3 H4 fun y H5=>∃ ys,H5 D=some (.lst ys)/\ys.length<sizeLine/\M σ3 (upd H5 D (.lst (ys ++ [y]))) else M σ3 H4):=by
 refine ⟨fun i m σ H=>m=n-i/\i<=n/\Pv i σ H,⟨n,by simp,Nat.zero_le _,h0⟩,?_⟩
 rintro i m σ2 H2 ⟨rfl,hi,p⟩
 by_cases hlt:i<n
 ·obtain ⟨go,stp⟩:=hs i σ2 H2 hlt p
  exact .inr ⟨go,Pv (i+1),fun σ' H' p'=>⟨n-(i+1),by omega,rfl,hlt,p'⟩,stp⟩
 ·have e:i=n:=by omega
  subst e; exact .inl (hd σ2 H2 p)
end L2
namespace L2
open PySem
def XAt (a C:Addr) (dd:Option Addr):Heap->Prop:=fun h=>∃ vs sl,h.get? a=some ⟨.ref C,dd,.fields vs,sl⟩
end L2
namespace PL
open PySem L2
inductive D where
 | non | bl (b:Bool) | int (i:Int) | str (l:List Nat) | ty (n:String) | rng (lo hi:Int) | cls (C:Addr) | adr (b:Addr)
 | tup (l:List D) | lst (l:List D) | dic (l:List (D × D)) | dit (l:List (D × D)) | obj (C:Addr) (fs:List (Str × D)) | exc (C:Addr) (fs:List (Str × D))
inductive OD where
 | lst (l:List D) | dic (l:List (D × D)) | dit (l:List (D × D)) | obj (C:Addr) (fs:List (Str × D))
def OD.toD:OD->D
 | .lst l=>.lst l
 | .dic l=>.dic l
 | .dit l=>.dit l
 | .obj C fs=>.obj C fs
theorem paired_of {α β:Type} {R:α->β->Prop}:∀ {l:List α} {m:List β},l.length=m.length->(∀ (i:Nat) a b,l[i]?=some a->m[i]?=some b->R a b)->Paired R l m
 | [],[],_,_=>.nil
 | a :: l,b :: m,h,r=>.cons (r 0 a b rfl rfl) (paired_of (by simpa using h) fun i x y hx hy=>r (i+1) x y (by simpa using hx) (by simpa using hy))
 | [],_ :: _,h,_=>by simp at h
 | _ :: _,[],h,_=>by simp at h
theorem paired_get {α β:Type} {R:α->β->Prop}:∀ {l:List α} {m:List β} (i:Nat) {a:α} {b:β},Paired R l m->l[i]?=some a->m[i]?=some b->R a b
 | _,_,_,_,_,.nil,h,_=>by simp at h
 | _,_,0,_,_,.cons r _,h1,h2=>by simp at h1 h2; subst h1; subst h2; exact r
 | _,_,i+1,_,_,.cons _ t,h1,h2=>paired_get i t (by simpa using h1) (by simpa using h2)
theorem zg {α β:Type} {R:α->β->Prop} {l:List α} {m:List β} (h:Paired R l m):l.length=m.length:=Paired.length h
theorem zQ {α β:Type} {R:α->β->Prop} {l:List α} {m:List β} (h:Paired R l m) {i:Nat} {b:β} (e:m[i]?=some b):∃ a,l[i]?=some a/\R a b:=by
 have hl:=zg h
 have hi:i<l.length:=by rw [hl]; exact (List.getElem?_eq_some_iff.mp e).1
 exact ⟨l[i],List.getElem?_eq_getElem hi,paired_get i h (List.getElem?_eq_getElem hi) e⟩
theorem zcl {α β:Type} {R:α->β->Prop} {l:List α} {m:List β} (h:Paired R l m) {i:Nat} {a:α} (e:l[i]?=some a):∃ b,m[i]?=some b/\R a b:=by
 have hl:=zg h
 have hi:i<m.length:=by rw [<- hl]; exact (List.getElem?_eq_some_iff.mp e).1
 exact ⟨m[i],List.getElem?_eq_getElem hi,paired_get i h e (List.getElem?_eq_getElem hi)⟩
theorem zah {α β:Type} {R:α->β->Prop}:∀ {l l':List α} {m m':List β},Paired R l m->Paired R l' m'->Paired R (l ++ l') (m ++ m')
 | _,_,_,_,.nil,h=>h
 | _,_,_,_,.cons r t,h=>.cons r (zah t h)
theorem zfr {α β:Type} {R:α->β->Prop}:∀ {l:List α} {m:List β} (n:Nat),Paired R l m->Paired R (l.take n) (m.take n)
 | _,_,0,_=>.nil
 | _,_,_+1,.nil=>.nil
 | _,_,n+1,.cons r t=>.cons r (zfr n t)
theorem zfs {α β:Type} {R:α->β->Prop}:∀ {l:List α} {m:List β} (n:Nat),Paired R l m->Paired R (l.drop n) (m.drop n)
 | _,_,0,h=>h
 | _,_,_+1,.nil=>.nil
 | _,_,n+1,.cons _ t=>zfs n t
def keyD:Key->D
 | .inl i=>.int i
 | .inr x=>.str x.cps.toList
inductive Den (K:W.Frag) (H:Hp):V->D->Prop where
 | non:Den K H .non .non
 | bl (b:Bool):Den K H (.bl b) (.bl b)
 | int (i:Int):Den K H (.int i) (.int i)
 | str (l:List Nat):Den K H (.str (st l)) (.str l)
 | ty (n:String):Den K H (.ty n) (.ty n)
 | rng {a:Addr} {lo hi:Int} (h:Rd H a (.rng lo hi)):Den K H (.ref a) (.rng lo hi)
 | cls (C:Addr):Den K H (.ref C) (.cls C)
 | adr (b:Addr):Den K H (.ref b) (.adr b)
 | tup {a:Addr} {vs:List V} {ds:List D} (h:H a=some (.tup vs)) (l:vs.length=ds.length) (r:∀ (i:Nat) v d,vs[i]?=some v->ds[i]?=some d->Den K H v d):Den K H (.ref a) (.tup ds)
 | lst {a:Addr} {vs:List V} {ds:List D} (h:SqL K H a vs) (l:vs.length=ds.length) (r:∀ (i:Nat) v d,vs[i]?=some v->ds[i]?=some d->Den K H v d):Den K H (.ref a) (.lst ds)
 | dicK {a:Addr} {kvs:List (Key × V)} {ds:List (D × D)} (h:Rd H a (.dK kvs)) (l:kvs.length=ds.length) (r:∀ (i:Nat) p q,kvs[i]?=some p->ds[i]?=some q->q.1=keyD p.1) (r2:∀ (i:Nat) p q,kvs[i]?=some p->ds[i]?=some q->Den K H p.2 q.2):Den K H (.ref a) (.dic ds)
 | dicT {a:Addr} {kvs:List (List Key × V)} {ep:Nat} {ds:List (D × D)} (h:H a=some (.dE kvs ep)) (l:kvs.length=ds.length) (r:∀ (i:Nat) p q,kvs[i]?=some p->ds[i]?=some q->q.1=.tup (p.1.map keyD)) (r2:∀ (i:Nat) p q,kvs[i]?=some p->ds[i]?=some q->Den K H p.2 q.2):Den K H (.ref a) (.dit ds)
 | obj {a C dx:Addr} {fs:List (Str × V)} {ds:List (Str × D)} (h:H a=some (.ins C dx fs)) (l:fs.length=ds.length) (r:∀ (i:Nat) p q,fs[i]?=some p->ds[i]?=some q->q.1=p.1) (r2:∀ (i:Nat) p q,fs[i]?=some p->ds[i]?=some q->Den K H p.2 q.2):Den K H (.ref a) (.obj C ds)
 | excN {a C:Addr} (h:H a=some (.ext (XAt a C none))):Den K H (.ref a) (.exc C [])
 | exc {a C dx:Addr} {fs:List (Str × V)} {ds:List (Str × D)} (h:H a=some (.ext (XAt a C (some dx)))) (h2:H dx=some (.xd fs)) (l:fs.length=ds.length) (r:∀ (i:Nat) p q,fs[i]?=some p->ds[i]?=some q->q.1=p.1) (r2:∀ (i:Nat) p q,fs[i]?=some p->ds[i]?=some q->Den K H p.2 q.2):Den K H (.ref a) (.exc C ds)
abbrev ztL (K:W.Frag) (H:Hp):List (Key × V)->List (D × D)->Prop:=Paired fun p q=>q.1=keyD p.1/\Den K H p.2 q.2
abbrev zlA (K:W.Frag) (H:Hp):List (List Key × V)->List (D × D)->Prop:=Paired fun p q=>q.1=.tup (p.1.map keyD)/\Den K H p.2 q.2
abbrev zlB (K:W.Frag) (H:Hp):List (Str × V)->List (Str × D)->Prop:=Paired fun p q=>q.1=p.1/\Den K H p.2 q.2
abbrev zaV (K:W.Frag) (H:Hp):List V->List D->Prop:=Paired (Den K H)
section
variable {K:W.Frag} {H H':Hp} {v:V} {a:Addr} {vs:List V} {ds:List D}
theorem zeq {u:HO} (e:zU H H') (h:Rd H a u):Rd H' a u:=by
 rcases h with h | ⟨o,h⟩
 ·exact .inl (e _ _ h)
 ·exact .inr ⟨o,e _ _ h⟩
theorem zC (e:zU H H') (h:SqT K H a vs):SqT K H' a vs:=by
 rcases h with h | h
 ·exact .inl (zeq e h)
 ·exact .inr h
theorem zE (e:zU H H') (h:SqL K H a vs):SqL K H' a vs:=by
 rcases h with h | h
 ·exact .inl (zeq e h)
 ·exact .inr h
theorem Den.mono {d:D} (h:Den K H v d) (e:zU H H'):Den K H' v d:=by
 induction h with
 | non=>exact .non
 | bl b=>exact .bl b
 | int i=>exact .int i
 | str l=>exact .str l
 | ty n=>exact .ty n
 | rng h=>exact .rng (zeq e h)
 | cls C=>exact .cls C
 | adr C=>exact .adr C
 | tup h l r ih=>exact .tup (e _ _ h) l ih
 | lst h l r ih=>exact .lst (zE e h) l ih
 | dicK h l r r2 ih=>exact .dicK (zeq e h) l r ih
 | dicT h l r r2 ih=>exact .dicT (e _ _ h) l r ih
 | obj h l r r2 ih=>exact .obj (e _ _ h) l r ih
 | excN h=>exact .excN (e _ _ h)
 | exc h h2 l r r2 ih=>exact .exc (e _ _ h) (e _ _ h2) l r ih
theorem zaV.mono (h:zaV K H vs ds) (e:zU H H'):zaV K H' vs ds:=Paired.mapP h fun _ _ q=>q.mono e
theorem ztL.mono {kvs:List (Key × V)} {es:List (D × D)} (h:ztL K H kvs es) (e:zU H H'):ztL K H' kvs es:=Paired.mapP h fun _ _ q=>⟨q.1,q.2.mono e⟩
theorem zlA.mono {kvs:List (List Key × V)} {es:List (D × D)} (h:zlA K H kvs es) (e:zU H H'):zlA K H' kvs es:=Paired.mapP h fun _ _ q=>⟨q.1,q.2.mono e⟩
theorem zlB.mono {fs:List (Str × V)} {es:List (Str × D)} (h:zlB K H fs es) (e:zU H H'):zlB K H' fs es:=Paired.mapP h fun _ _ q=>⟨q.1,q.2.mono e⟩
theorem Den.mkO {C dx:Addr} {fs:List (Str × V)} {es:List (Str × D)} (h:H a=some (.ins C dx fs)) (r:zlB K H fs es):Den K H (.ref a) (.obj C es):=.obj h (zg r) (fun i _ _ h1 h2=>(paired_get i r h1 h2).1) fun i _ _ h1 h2=>(paired_get i r h1 h2).2
theorem Den.objI {C:Addr} {es:List (Str × D)} (h:Den K H v (.obj C es)):∃ a dx fs,v=.ref a/\H a=some (.ins C dx fs)/\zlB K H fs es:=by
 cases h with
 | obj h l r r2=>exact ⟨_,_,_,rfl,h,paired_of l fun i p q h1 h2=>⟨r i p q h1 h2,r2 i p q h1 h2⟩⟩
def zwO (K:W.Frag) (H:Hp) (dd:Option Addr) (es:List (Str × D)):Prop:=(dd=none/\es=[])\/∃ dx fs,dd=some dx/\H dx=some (.xd fs)/\zlB K H fs es
theorem Den.excI {C:Addr} {es:List (Str × D)} (h:Den K H v (.exc C es)):∃ a dd,v=.ref a/\H a=some (.ext (XAt a C dd))/\zwO K H dd es:=by
 cases h with
 | excN h=>exact ⟨_,_,rfl,h,.inl ⟨rfl,rfl⟩⟩
 | exc h h2 l r r2=>exact ⟨_,_,rfl,h,.inr ⟨_,_,rfl,h2,paired_of l fun i p q h1 h2=>⟨r i p q h1 h2,r2 i p q h1 h2⟩⟩⟩
theorem Den.adrI {b:Addr} (h:Den K H v (.adr b)):v=.ref b:=by cases h; rfl
theorem Den.mkDK {kvs:List (Key × V)} {es:List (D × D)} (h:Rd H a (.dK kvs)) (r:ztL K H kvs es):Den K H (.ref a) (.dic es):=.dicK h (zg r) (fun i _ _ h1 h2=>(paired_get i r h1 h2).1) fun i _ _ h1 h2=>(paired_get i r h1 h2).2
theorem Den.mkDT {kvs:List (List Key × V)} {ep:Nat} {es:List (D × D)} (h:H a=some (.dE kvs ep)) (r:zlA K H kvs es):Den K H (.ref a) (.dit es):=.dicT h (zg r) (fun i _ _ h1 h2=>(paired_get i r h1 h2).1) fun i _ _ h1 h2=>(paired_get i r h1 h2).2
theorem Den.ditI {es:List (D × D)} (h:Den K H v (.dit es)):∃ a kvs ep,v=.ref a/\H a=some (.dE kvs ep)/\zlA K H kvs es:=by
 cases h with
 | dicT h l r r2=>exact ⟨_,_,_,rfl,h,paired_of l fun i p q h1 h2=>⟨r i p q h1 h2,r2 i p q h1 h2⟩⟩
theorem Den.mkT (h:H a=some (.tup vs)) (r:zaV K H vs ds):Den K H (.ref a) (.tup ds):=.tup h (zg r) fun i _ _ h1 h2=>paired_get i r h1 h2
theorem Den.mkL (h:SqL K H a vs) (r:zaV K H vs ds):Den K H (.ref a) (.lst ds):=.lst h (zg r) fun i _ _ h1 h2=>paired_get i r h1 h2
theorem Den.tupJ (h:Den K H v (.tup ds)):∃ a vs,v=.ref a/\H a=some (.tup vs)/\zaV K H vs ds:=by
 cases h with
 | tup h l r=>exact ⟨_,_,rfl,h,paired_of l r⟩
theorem Den.tupI (h:Den K H v (.tup ds)):∃ a vs,v=.ref a/\SqT K H a vs/\zaV K H vs ds:=by
 cases h with
 | tup h l r=>exact ⟨_,_,rfl,SqT.of h,paired_of l r⟩
theorem Den.lstI (h:Den K H v (.lst ds)):∃ a vs,v=.ref a/\SqL K H a vs/\zaV K H vs ds:=by
 cases h with
 | lst h l r=>exact ⟨_,_,rfl,h,paired_of l r⟩
theorem Den.intI {i:Int} (h:Den K H v (.int i)):v=.int i:=by cases h; rfl
theorem Den.blI {b:Bool} (h:Den K H v (.bl b)):v=.bl b:=by cases h; rfl
theorem Den.strI {l:List Nat} (h:Den K H v (.str l)):v=.str (st l):=by cases h; rfl
theorem Den.nonI (h:Den K H v .non):v=.non:=by cases h; rfl
theorem Den.non_iff {d:D} (h:Den K H v d):v=.non↔d=.non:=by cases h <;> simp
end
inductive Slot where
 | emp | val (d:D) | own (o:OD)
 | bk (d:D->D) (b:Addr) (xs:OD)
abbrev Sts:=List Slot
structure Wd where
 H₀:Hp
 Hi₀:Hp
 F:List Addr
def zaU (K:W.Frag) (Hi H:Hp) (a:Addr):OD->Prop
 | .lst ds=>∃ vs,H a=some (.lst vs)/\zaV K Hi vs ds
 | .dic ds=>∃ kvs,H a=some (.dK kvs)/\ztL K Hi kvs ds
 | .dit ds=>∃ kvs ep,H a=some (.dE kvs ep)/\zlA K Hi kvs ds
 | .obj C ds=>∃ dx fs,H a=some (.ins C dx fs)/\zlB K Hi fs ds
def zp8:Option (Option V)->Option Addr
 | some (some (.ref a))=>some a
 | _=>none
def adr (n:Nat) (W:Wd) (σ:St) (i:Nat):Option Addr:=if i<n then zp8 σ[i]? else W.F[i-n]?
structure Free (n:Nat) (W:Wd) (Γ:Sts) (σ:St) (a:Addr):Prop where
 own:∀ (j:Nat) o',Γ[j]?=some (.own o')->adr n W σ j≠some a
 bk:∀ (j:Nat) d xs,Γ[j]?≠some (.bk d a xs)
def Hol (K:W.Frag) (d:D->D):Prop:=∀ (b:Addr) (Hi:Hp) (v:V) (o:OD),Den K Hi (.ref b) o.toD->Den K Hi v (d (.adr b))->Den K Hi v (d o.toD)
structure BkAt (K:W.Frag) (n:Nat) (W:Wd) (Hi:Hp) (Γ:Sts) (σ:St) (H:Hp) (i:Nat) (d:D->D) (b:Addr) (xs:OD):Prop where
 val:∃ v,σ[i]?=some (some v)/\Den K Hi v (d (.adr b))
 hol:Hol K d
 hi:Hi b=none
 h0:b ∉ W.F->W.H₀ b=none
 at_:zaU K Hi H b xs
 one:∀ (j:Nat) d' xs',Γ[j]?=some (.bk d' b xs')->j=i
 ne:∀ (j:Nat) o',Γ[j]?=some (.own o')->adr n W σ j≠some b
structure Fz (Hi H:Hp):Prop where
 sub:zU Hi H
 tups:∀ a xs,H a=some (.tup xs)->Hi a=some (.tup xs)
structure Good (K:W.Frag) (n:Nat) (W:Wd) (Hi:Hp) (Γ:Sts) (σ:St) (H:Hp):Prop where
 len:σ.length=n
 fz:Fz Hi H
 keep:∀ a o,W.H₀ a=some o->a ∉ W.F->H a=some o
 there:∀ a o,W.H₀ a=some o->∃ o',H a=some o'
 fro:∀ a o,W.H₀ a=some o->Hi a=W.Hi₀ a
 val:∀ (i:Nat) d,Γ[i]?=some (.val d)->∃ v,σ[i]?=some (some v)/\Den K Hi v d
 own:∀ (i:Nat) o,Γ[i]?=some (.own o)->∃ a,adr n W σ i=some a/\Hi a=none/\(i<n->W.H₀ a=none)/\zaU K Hi H a o
 apart:∀ (i j:Nat) o o' a,Γ[i]?=some (.own o)->Γ[j]?=some (.own o')->adr n W σ i=some a->adr n W σ j=some a->i=j
 bk:∀ (i:Nat) d b xs,Γ[i]?=some (.bk d b xs)->BkAt K n W Hi Γ σ H i d b xs
theorem Good.sub {K:W.Frag} {n:Nat} {W:Wd} {Hi:Hp} {Γ:Sts} {σ:St} {H:Hp} (g:Good K n W Hi Γ σ H):zU Hi H:=g.fz.sub
structure Ext (Hi H Hi' H':Hp):Prop where
 hi:zU Hi Hi'
 h:zU H H'
 fz:Fz Hi' H'
 fro:∀ a o,H a=some o->Hi' a=Hi a
theorem Ext.refl {Hi H:Hp} (s:Fz Hi H):Ext Hi H Hi H:=⟨zU.refl _,zU.refl _,s,fun _ _ _=>rfl⟩
theorem Ext.trans {A B A1 B1 A2 B2:Hp} (x:Ext A B A1 B1) (y:Ext A1 B1 A2 B2):Ext A B A2 B2 :=
 ⟨x.hi.trans y.hi,x.h.trans y.h,y.fz,fun a o e=>(y.fro a o (x.h a o e)).trans (x.fro a o e)⟩
theorem zO {H:Hp} {p:Addr} (h:H p=none) (o:HO):zU H (upd H p o):=fun b u q=>by rw [zq (zI q h)]; exact q
theorem Ext.new {Hi H:Hp} {p:Addr} (s:Fz Hi H) (h:H p=none) (o:HO):Ext Hi H (upd Hi p o) (upd H p o):=by
 have hi:Hi p=none:=s.sub.free h
 refine ⟨zO hi o,zO h o,⟨fun b u q=>?_,fun b xs q=>?_⟩,fun b u q=>?_⟩
 ·by_cases e:b=p
  ·subst e; rw [zj] at q ⊢; exact q
  ·rw [zq e] at q ⊢; exact s.sub b u q
 ·by_cases e:b=p
  ·subst e; rw [zj] at q ⊢; exact q
  ·rw [zq e] at q ⊢; exact s.tups b xs q
 ·exact zq (zI q h)
theorem Ext.newO {Hi H:Hp} {p:Addr} (s:Fz Hi H) (h:H p=none) (o:HO) (ho:∀ xs,o≠.tup xs):Ext Hi H Hi (upd H p o) :=
 ⟨zU.refl _,zO h o,⟨s.sub.trans (zO h o),fun b xs q=>by
  by_cases e:b=p
  ·subst e; rw [zj] at q; exact absurd (Option.some.inj q) (ho xs)
  ·rw [zq e] at q; exact s.tups b xs q⟩,fun _ _ _=>rfl⟩
section
variable {K:W.Frag} {n:Nat} {W:Wd} {Hi Hi' H H':Hp} {Γ:Sts} {σ:St} {a:Addr} {o:OD}
theorem zaU.there (h:zaU K Hi H a o):∃ u,H a=some u:=by
 cases o with
 | lst ds=>obtain ⟨vs,e,_⟩:=h; exact ⟨_,e⟩
 | dic ds=>obtain ⟨kvs,e,_⟩:=h; exact ⟨_,e⟩
 | dit ds=>obtain ⟨kvs,ep,e,_⟩:=h; exact ⟨_,e⟩
 | obj C ds=>obtain ⟨dx,fs,e,_⟩:=h; exact ⟨_,e⟩
theorem zaU.mono (h:zaU K Hi H a o) (hi:zU Hi Hi') (e:∀ u,H a=some u->H' a=some u):zaU K Hi' H' a o:=by
 cases o with
 | lst ds=>obtain ⟨vs,q,r⟩:=h; exact ⟨vs,e _ q,r.mono hi⟩
 | dic ds=>obtain ⟨kvs,q,r⟩:=h; exact ⟨kvs,e _ q,r.mono hi⟩
 | dit ds=>obtain ⟨kvs,ep,q,r⟩:=h; exact ⟨kvs,ep,e _ q,r.mono hi⟩
 | obj C ds=>obtain ⟨dx,fs,q,r⟩:=h; exact ⟨dx,fs,e _ q,r.mono hi⟩
theorem zaU.notTup (h:zaU K Hi H a o):∀ xs,H a≠some (.tup xs):=fun xs z=>by
 cases o with
 | lst ds=>obtain ⟨vs,e,_⟩:=h; rw [e] at z; cases z
 | dic ds=>obtain ⟨kvs,e,_⟩:=h; rw [e] at z; cases z
 | dit ds=>obtain ⟨kvs,ep,e,_⟩:=h; rw [e] at z; cases z
 | obj C ds=>obtain ⟨dx,fs,e,_⟩:=h; rw [e] at z; cases z
theorem Good.ext (g:Good K n W Hi Γ σ H) (e:Ext Hi H Hi' H'):Good K n W Hi' Γ σ H' where
 len:=g.len
 fz:=e.fz
 keep:=fun a o h n=>e.h a o (g.keep a o h n)
 there:=fun a o h=>by
  obtain ⟨o',q⟩:=g.there a o h; exact ⟨o',e.h a o' q⟩
 fro:=fun a o h=>by
  obtain ⟨o',q⟩:=g.there a o h; exact (e.fro a o' q).trans (g.fro a o h)
 val:=fun i d h=>by
  obtain ⟨v,h1,h2⟩:=g.val i d h; exact ⟨v,h1,h2.mono e.hi⟩
 own:=fun i o h=>by
  obtain ⟨a,h1,h2,h3,h4⟩:=g.own i o h; obtain ⟨u,hu⟩:=h4.there
  exact ⟨a,h1,(e.fro a u hu).trans h2,h3,h4.mono e.hi fun u q=>e.h a u q⟩
 apart:=g.apart
 bk:=fun i d b xs h=>by
  obtain ⟨⟨v,h0,h1⟩,h2,h3,h4,h5,h6,h7⟩:=g.bk i d b xs h
  obtain ⟨u,hu⟩:=h5.there
  exact ⟨⟨v,h0,h1.mono e.hi⟩,h2,(e.fro b u hu).trans h3,h4,h5.mono e.hi fun u q=>e.h b u q,h6,h7⟩
theorem zgt {o:Option (Option V)} (h:zp8 o=some a):o=some (some (.ref a)):=by
 unfold zp8 at h; split at h
 ·cases h; rfl
 ·cases h
theorem Good.set (g:Good K n W Hi Γ σ H) {i:Nat} {v:V} {d:D} (hi:i<n) (r:Den K Hi v d):Good K n W Hi (Γ.set i (.val d)) (σ.set i (some v)) H:=by
 have ad:∀ j,j≠i->adr n W (σ.set i (some v)) j=adr n W σ j:=fun j hj=>by
  unfold adr
  rw [List.getElem?_set_ne (fun z=>hj z.symm)]
 have inv:∀ (j:Nat) (s:Slot),(Γ.set i (.val d))[j]?=some s->(j=i/\s=.val d)\/(j≠i/\Γ[j]?=some s):=fun j s e=>by
  by_cases hj:j=i
  ·subst hj
   refine .inl ⟨rfl,?_⟩; rw [List.getElem?_set] at e; simp only [if_true] at e; split at e
   ·exact (Option.some.inj e).symm
   ·cases e
  ·rw [List.getElem?_set_ne (fun z=>hj z.symm)] at e
   exact .inr ⟨hj,e⟩
 refine ⟨by rw [List.length_set]; exact g.len,g.fz,g.keep,g.there,g.fro,fun j d' e=>?_,fun j o e=>?_,fun j k o o' a e1 e2 h1 h2=>?_,fun j d' b xs e=>?_⟩
 ·rcases inv j _ e with ⟨rfl,z⟩ | ⟨hj,z⟩
  ·cases z
   exact ⟨v,by rw [List.getElem?_set_self (by rw [g.len]; exact hi)],r⟩
  ·obtain ⟨w,h1,h2⟩:=g.val j d' z
   exact ⟨w,by rw [List.getElem?_set_ne (fun z=>hj z.symm)]; exact h1,h2⟩
 ·rcases inv j _ e with ⟨rfl,z⟩ | ⟨hj,z⟩
  ·cases z
  ·obtain ⟨a,h1,h2⟩:=g.own j o z
   exact ⟨a,by rw [ad j hj]; exact h1,h2⟩
 ·rcases inv j _ e1 with ⟨rfl,z⟩ | ⟨hj,z⟩
  ·cases z
  ·rcases inv k _ e2 with ⟨rfl,y⟩ | ⟨hk,y⟩
   ·cases y
   ·exact g.apart j k o o' a z y (by rw [<- ad j hj]; exact h1) (by rw [<- ad k hk]; exact h2)
 ·rcases inv j _ e with ⟨rfl,z⟩ | ⟨hj,z⟩
  ·cases z
  ·obtain ⟨⟨w,w1,w2⟩,h1,h2,h3,h4,h5,h6⟩:=g.bk j d' b xs z
   refine ⟨⟨w,by rw [List.getElem?_set_ne (fun z=>hj z.symm)]; exact w1,w2⟩,h1,h2,h3,h4,fun k d' xs' q=>?_,fun k o' q=>?_⟩
   ·rcases inv k _ q with ⟨rfl,y⟩ | ⟨hk,y⟩
    ·cases y
    ·exact h5 k _ _ y
   ·rcases inv k _ q with ⟨rfl,y⟩ | ⟨hk,y⟩
    ·cases y
    ·rw [ad k hk]
     exact h6 k o' y
theorem Good.setO (g:Good K n W Hi Γ σ H) {i:Nat} (hi:i<n) (h0:Hi a=none) (h1:W.H₀ a=none) (fr:Free n W Γ σ a) (h3:zaU K Hi H a o):Good K n W Hi (Γ.set i (.own o)) (σ.set i (some (.ref a))) H:=by
 have ad:∀ j,j≠i->adr n W (σ.set i (some (.ref a))) j=adr n W σ j:=fun j hj=>by
  unfold adr
  rw [List.getElem?_set_ne (fun z=>hj z.symm)]
 have ai:adr n W (σ.set i (some (.ref a))) i=some a:=by
  unfold adr
  rw [if_pos hi,List.getElem?_set_self (by rw [g.len]; exact hi)]
  rfl
 have inv:∀ (j:Nat) (s:Slot),(Γ.set i (.own o))[j]?=some s->(j=i/\s=.own o)\/(j≠i/\Γ[j]?=some s):=fun j s e=>by
  by_cases hj:j=i
  ·subst hj
   refine .inl ⟨rfl,?_⟩; rw [List.getElem?_set] at e; simp only [if_true] at e; split at e
   ·exact (Option.some.inj e).symm
   ·cases e
  ·rw [List.getElem?_set_ne (fun z=>hj z.symm)] at e
   exact .inr ⟨hj,e⟩
 refine ⟨by rw [List.length_set]; exact g.len,g.fz,g.keep,g.there,g.fro,fun j d' e=>?_,fun j o e=>?_,fun j k o o' b e1 e2 q1 q2=>?_,fun j d' b xs e=>?_⟩
 ·rcases inv j _ e with ⟨rfl,z⟩ | ⟨hj,z⟩
  ·cases z
  ·obtain ⟨w,h1,h2⟩:=g.val j d' z
   exact ⟨w,by rw [List.getElem?_set_ne (fun z=>hj z.symm)]; exact h1,h2⟩
 ·rcases inv j _ e with ⟨rfl,z⟩ | ⟨hj,z⟩
  ·cases z
   exact ⟨a,ai,h0,fun _=>h1,h3⟩
  ·obtain ⟨b,q1,q2⟩:=g.own j o z
   exact ⟨b,by rw [ad j hj]; exact q1,q2⟩
 ·rcases inv j _ e1 with ⟨rfl,z⟩ | ⟨hj,z⟩
  ·rcases inv k _ e2 with ⟨rfl,y⟩ | ⟨hk,y⟩
   ·rfl
   ·rw [ai] at q1
    cases q1; rw [ad k hk] at q2; exact absurd q2 (fr.own k _ y)
  ·rcases inv k _ e2 with ⟨rfl,y⟩ | ⟨hk,y⟩
   ·rw [ai] at q2
    cases q2; rw [ad j hj] at q1; exact absurd q1 (fr.own j _ z)
   ·exact g.apart j k o o' b z y (by rw [<- ad j hj]; exact q1) (by rw [<- ad k hk]; exact q2)
 ·rcases inv j _ e with ⟨rfl,z⟩ | ⟨hj,z⟩
  ·cases z
  ·obtain ⟨⟨w,w1,w2⟩,h1,h2,h3,h4,h5,h6⟩:=g.bk j d' b xs z
   refine ⟨⟨w,by rw [List.getElem?_set_ne (fun z=>hj z.symm)]; exact w1,w2⟩,h1,h2,h3,h4,fun k d' xs' q=>?_,fun k o' q=>?_⟩
   ·rcases inv k _ q with ⟨rfl,y⟩ | ⟨hk,y⟩
    ·cases y
    ·exact h5 k _ _ y
   ·rcases inv k _ q with ⟨rfl,y⟩ | ⟨hk,y⟩
    ·rw [ai]
     intro w; cases w; exact fr.bk j _ _ z
    ·rw [ad k hk]
     exact h6 k o' y
theorem Good.put (g:Good K n W Hi Γ σ H) {i:Nat} {o0:OD} {u:HO} (e0:Γ[i]?=some (.own o0)) (ha:adr n W σ i=some a) (hn:zaU K Hi (upd H a u) a o):Good K n W Hi (Γ.set i (.own o)) σ (upd H a u):=by
 obtain ⟨a',h1,h2,h3,h4⟩:=g.own i _ e0; rw [ha] at h1; cases h1
 have hF:i<n\/a ∈ W.F:=by
  by_cases hi:i<n
  ·exact .inl hi
  ·unfold adr at ha
   rw [if_neg hi] at ha; exact .inr (List.mem_of_getElem? ha)
 have inv:∀ (j:Nat) (s:Slot),(Γ.set i (.own o))[j]?=some s->(j=i/\s=.own o)\/(j≠i/\Γ[j]?=some s):=fun j s e=>by
  by_cases hj:j=i
  ·subst hj
   refine .inl ⟨rfl,?_⟩; rw [List.getElem?_set] at e; simp only [if_true] at e; split at e
   ·exact (Option.some.inj e).symm
   ·cases e
  ·rw [List.getElem?_set_ne (fun z=>hj z.symm)] at e
   exact .inr ⟨hj,e⟩
 refine ⟨g.len,⟨fun b w q=>?_,fun b xs q=>?_⟩,fun b w q nf=>?_,fun b w q=>?_,g.fro,fun j d' e=>?_,fun j o' e=>?_,fun j k o1 o2 b e1 e2 q1 q2=>?_,fun j d' b xs e=>?_⟩
 ·rw [zq (fun z=>by rw [z,h2] at q; cases q)]
  exact g.sub b w q
 ·by_cases hb:b=a
  ·subst hb
   exact absurd q (hn.notTup xs)
  ·rw [zq hb] at q
   exact g.fz.tups b xs q
 ·have hb:b≠a:=fun z=>by
   subst z
   rcases hF with hi | hf
   ·rw [h3 hi] at q; cases q
   ·exact nf hf
  rw [zq hb]; exact g.keep b w q nf
 ·by_cases hb:b=a
  ·exact ⟨u,by rw [hb,zj]⟩
  ·obtain ⟨w',hw⟩:=g.there b w q
   exact ⟨w',by rw [zq hb]; exact hw⟩
 ·rcases inv j _ e with ⟨rfl,z⟩ | ⟨hj,z⟩
  ·cases z
  ·exact g.val j d' z
 ·rcases inv j _ e with ⟨rfl,z⟩ | ⟨hj,z⟩
  ·cases z
   exact ⟨a,ha,h2,h3,hn⟩
  ·obtain ⟨b,q1,q2,q3,q4⟩:=g.own j o' z
   have hb:b≠a:=fun w=>hj (g.apart j i _ _ a z e0 (by rw [<- w]; exact q1) ha)
   exact ⟨b,q1,q2,q3,q4.mono (zU.refl _) fun w hw=>by rw [zq hb]; exact hw⟩
 ·have e1':∃ oo,Γ[j]?=some (.own oo):=by
   rcases inv j _ e1 with ⟨rfl,z⟩ | ⟨hj,z⟩
   ·exact ⟨_,e0⟩
   ·exact ⟨_,z⟩
  have e2':∃ oo,Γ[k]?=some (.own oo):=by
   rcases inv k _ e2 with ⟨rfl,z⟩ | ⟨hj,z⟩
   ·exact ⟨_,e0⟩
   ·exact ⟨_,z⟩
  obtain ⟨_,z1⟩:=e1'; obtain ⟨_,z2⟩:=e2'; exact g.apart j k _ _ b z1 z2 q1 q2
 ·rcases inv j _ e with ⟨rfl,z⟩ | ⟨hj,z⟩
  ·cases z
  ·obtain ⟨p0,p1,p2,p3,p4,p5,p6⟩:=g.bk j d' b xs z
   have hb:b≠a:=fun w=>p6 i _ e0 (by rw [w]; exact ha)
   refine ⟨p0,p1,p2,p3,p4.mono (zU.refl _) fun w hw=>by rw [zq hb]; exact hw,fun k d' xs' q=>?_,fun k o' q=>?_⟩
   ·rcases inv k _ q with ⟨rfl,y⟩ | ⟨hk,y⟩
    ·cases y
    ·exact p5 k _ _ y
   ·rcases inv k _ q with ⟨rfl,y⟩ | ⟨hk,y⟩
    ·exact p6 k _ e0
    ·exact p6 k o' y
theorem Good.freezeA (g:Good K n W Hi Γ σ H) (h0:Hi a=none) (h1:W.H₀ a=none) (fr:Free n W Γ σ a) {u:HO} (hu:H a=some u):Good K n W (upd Hi a u) Γ σ H:=by
 have hs:zU Hi (upd Hi a u):=zO h0 u
 refine ⟨g.len,⟨fun b w q=>?_,fun b xs q=>?_⟩,g.keep,g.there,fun b w q=>?_,fun j d' e=>?_,fun j o' e=>?_,g.apart,fun j d' b xs e=>?_⟩
 ·by_cases hb:b=a
  ·subst hb; rw [zj] at q; cases q; exact hu
  ·rw [zq hb] at q; exact g.sub b w q
 ·have hb:b≠a:=fun z=>by
   have:=g.fz.tups b xs q
   rw [z,h0] at this; cases this
  rw [zq hb]; exact g.fz.tups b xs q
 ·have hb:b≠a:=fun z=>by subst z; rw [h1] at q; cases q
  rw [zq hb]; exact g.fro b w q
 ·obtain ⟨w,q1,q2⟩:=g.val j d' e
  exact ⟨w,q1,q2.mono hs⟩
 ·obtain ⟨b,q1,q2,q3,q4⟩:=g.own j o' e
  have hb:b≠a:=fun z=>fr.own j o' e (by rw [<- z]; exact q1)
  exact ⟨b,q1,by rw [zq hb]; exact q2,q3,q4.mono hs fun _ z=>z⟩
 ·obtain ⟨⟨w,w1,w2⟩,p1,p2,p3,p4,p5,p6⟩:=g.bk j d' b xs e
  have hb:b≠a:=fun z=>fr.bk j _ _ (by rw [<- z]; exact e)
  exact ⟨⟨w,w1,w2.mono hs⟩,p1,by rw [zq hb]; exact p2,p3,p4.mono hs fun _ z=>z,p5,p6⟩
theorem zaU.den (h:zaU K Hi H a o) (h0:Hi a=none) {u:HO} (hu:H a=some u):Den K (upd Hi a u) (.ref a) o.toD:=by
 cases o with
 | lst ds =>
  obtain ⟨vs,q,r⟩:=h; rw [hu] at q; cases q; exact Den.mkL (SqL.of zj) (r.mono (zO h0 _))
 | dic ds =>
  obtain ⟨kvs,q,r⟩:=h; rw [hu] at q; cases q; exact Den.mkDK (.inl zj) (r.mono (zO h0 _))
 | dit ds =>
  obtain ⟨kvs,ep,q,r⟩:=h; rw [hu] at q; cases q; exact Den.mkDT zj (r.mono (zO h0 _))
 | obj C ds =>
  obtain ⟨dx,fs,q,r⟩:=h; rw [hu] at q; cases q; exact Den.mkO zj (r.mono (zO h0 _))
end
end PL
namespace PL
open PySem L2
abbrev TE':=Sts->(D->Sts->Prop)->Prop
abbrev TT':=Sts->(Bool->Sts->Prop)->Prop
abbrev TA':=Sts->(List D->Sts->Prop)->Prop
abbrev TO':=Sts->(OD->Sts->Prop)->Prop
abbrev TI':=Sts->(List D->Sts->Prop)->Prop
abbrev TG':=D->Sts->(Sts->Prop)->Prop
inductive Res where
 | val (d:D) | own (o:OD)
 | bk (d:D->D) (o:OD)
def Res.toD:Res->D
 | .val d=>d
 | .own o=>o.toD
 | .bk d o=>d o.toD
structure Ends' where
 nx:Sts->Prop
 rt:Res->Sts->Prop
 bk:Sts->Prop:=fun _=>False
 ct:Sts->Prop:=fun _=>False
abbrev TS':=Ends'->Sts->Prop
def zvI (K:W.Frag) (n:Nat) (W:Wd) (Hi:Hp) (σ:St) (Q:D->Sts->Prop):VK:=fun v H'=>∃ Hi' d Γ',zU Hi Hi'/\Good K n W Hi' Γ' σ H'/\Den K Hi' v d/\Q d Γ'
def tOf (K:W.Frag) (n:Nat) (t:TE'):TE:=fun σ H Q2=>∃ W Hi Γ Q,Good K n W Hi Γ σ H/\t Γ Q/\∀ v H',zvI K n W Hi σ Q v H'->Q2 v H'
def zrE (K:W.Frag) (n:Nat) (t:TT'):TT:=fun σ H Q2=>∃ W Hi Γ Q,Good K n W Hi Γ σ H/\t Γ Q/\∀ b H' Hi' Γ',zU Hi Hi'->Good K n W Hi' Γ' σ H'->Q b Γ'->Q2 b H'
def zus (K:W.Frag) (n:Nat) (t:TA'):TA:=fun σ H Q2=>∃ W Hi Γ Q,Good K n W Hi Γ σ H/\t Γ Q/\∀ vs H' Hi' Γ' ds,zU Hi Hi'->Good K n W Hi' Γ' σ H'->zaV K Hi' vs ds->Q ds Γ'->Q2 vs H'
structure New (K:W.Frag) (n:Nat) (W:Wd) (Hi:Hp) (Γ:Sts) (σ:St) (H:Hp) (a:Addr) (o:OD):Prop where
 hi:Hi a=none
 h0:W.H₀ a=none
 ne:Free n W Γ σ a
 own:zaU K Hi H a o
def oOf (K:W.Frag) (n:Nat) (t:TO'):TE:=fun σ H Q2=>∃ W Hi Γ Q,Good K n W Hi Γ σ H/\t Γ Q/\∀ a H' Hi' Γ' o,zU Hi Hi'->Good K n W Hi' Γ' σ H'->New K n W Hi' Γ' σ H' a o->Q o Γ'->Q2 (.ref a) H'
def gOf (K:W.Frag) (n:Nat) (g:TG'):TG:=fun v σ H Q2=>∃ W Hi Γ d Q,Good K n W Hi Γ σ H/\Den K Hi v d/\g d Γ Q/\∀ σ' H' Hi' Γ',zU Hi Hi'->Good K n W Hi' Γ' σ' H'->Q Γ'->Q2 σ' H'
def ztG (K:W.Frag) (H₀ Hi H:Hp) (v:V):Res->Prop
 | .val d=>Den K Hi v d
 | .own o=>∃ a,v=.ref a/\Hi a=none/\H₀ a=none/\zaU K Hi H a o
 | .bk d o=>∃ b,Den K Hi v (d (.adr b))/\Hol K d/\Hi b=none/\H₀ b=none/\zaU K Hi H b o
structure Lifts (K:W.Frag) (n:Nat) (W:Wd) (Hi:Hp) (N:Ends') (N2:Ends):Prop where
 nx:∀ σ' H' Hi' Γ',zU Hi Hi'->Good K n W Hi' Γ' σ' H'->N.nx Γ'->N2.nx σ' H'
 bk:∀ σ' H' Hi' Γ',zU Hi Hi'->Good K n W Hi' Γ' σ' H'->N.bk Γ'->N2.bk σ' H'
 ct:∀ σ' H' Hi' Γ',zU Hi Hi'->Good K n W Hi' Γ' σ' H'->N.ct Γ'->N2.ct σ' H'
 rt:∀ v σ' H' Hi' Γ' r,zU Hi Hi'->Good K n W Hi' Γ' σ' H'->ztG K W.H₀ Hi' H' v r->N.rt r Γ'->N2.rt v H'
theorem Lifts.mono {K:W.Frag} {n:Nat} {W:Wd} {Hi Hi':Hp} {N:Ends'} {N2:Ends} (l:Lifts K n W Hi N N2) (s:zU Hi Hi'):Lifts K n W Hi' N N2 :=
 ⟨fun σ' H' Hi2 Γ' e=>l.nx σ' H' Hi2 Γ' (s.trans e),fun σ' H' Hi2 Γ' e=>l.bk σ' H' Hi2 Γ' (s.trans e),fun σ' H' Hi2 Γ' e=>l.ct σ' H' Hi2 Γ' (s.trans e),fun v σ' H' Hi2 Γ' r e=>l.rt v σ' H' Hi2 Γ' r (s.trans e)⟩
def sOf (K:W.Frag) (n:Nat) (t:TS'):TS:=fun N2 σ H=>∃ W Hi Γ N,Good K n W Hi Γ σ H/\t N Γ/\Lifts K n W Hi N N2
def ItD (K:W.Frag) (Hi:Hp) (J:It) (ds:List D):Prop:=∀ Hi' H',zU Hi Hi'->Fz Hi' H' ->
 (∀ (i:Nat) d,ds[i]?=some d->J.go i H'/\∀ x H'',J.yld i H' x H''->∃ Hi'',Ext Hi' H' Hi'' H''/\Den K Hi'' x d)/\J.stop ds.length H'
def iOf (K:W.Frag) (n:Nat) (t:TI'):TI:=fun σ H R=>∃ W Hi Γ Q,Good K n W Hi Γ σ H/\t Γ Q/\∀ J H' Hi' Γ' ds,zU Hi Hi'->Good K n W Hi' Γ' σ H'->ItD K Hi' J ds->Q ds Γ'->R J H'
structure PE' (X:Cx) (e:Expr) (t:TE'):Prop where
 h:PE X e (tOf X.K X.N.length t)
structure PO' (X:Cx) (e:Expr) (t:TO'):Prop where
 h:PE X e (oOf X.K X.N.length t)
structure PT' (X:Cx) (e:Expr) (t:TT'):Prop where
 h:PT X e (zrE X.K X.N.length t)
structure PW' (X:Cx) (e:Expr) (t:TT'):Prop where
 h:PW X e (zrE X.K X.N.length t)
def zcR:Expr->Bool
 | .Starred _ _=>true
 | _=>false
def zbN:List Expr->Bool
 | []=>true
 | e :: es=>!zcR e && zbN es
theorem zK {e:Expr} {es:List Expr} {env:Env} (h:zcR e=false):starEach (e :: es) env=(false,eval e env) :: starEach es env:=by
 cases e <;> first | rfl | (exact absurd (show true=false from h) Bool.noConfusion)
theorem zay {pos:Pos} {env:Env}:∀ {es:List Expr},zbN es=true->(backTo pos (starEach es env)).any (·.1)=false
 | [],_=>rfl
 | e :: es,h=>by
  have h1:zcR e=false/\zbN es=true:=by
   unfold zbN at h
   simpa using h
  rw [zK h1.1]
  show (false || (backTo pos (starEach es env)).any (·.1))=false
  rw [zay h1.2]; rfl
theorem zM {e:Expr} {es:List Expr} (h:zbN (e :: es)=true):zcR e=false/\zbN es=true:=by
 unfold zbN at h
 simpa using h
structure PA' (X:Cx) (es:List Expr) (t:TA'):Prop where
 pa:PA X es (zus X.K X.N.length t)
 pl:zbN es=true
structure PS' (X:Cx) (s:Stmt) (t:TS'):Prop where
 h:PS X s (sOf X.K X.N.length t)
structure PSs' (X:Cx) (s:List Stmt) (t:TS'):Prop where
 h:PSs X s (sOf X.K X.N.length t)
structure PG' (X:Cx) (tg:Expr) (g:TG'):Prop where
 h:PG X tg (gOf X.K X.N.length g)
structure PI' (X:Cx) (tg iter:Expr) (t:TI'):Prop where
 h:PI X tg iter (iOf X.K X.N.length t)
section
variable {X:Cx}
theorem PE.weak {e:Expr} {t t2:TE} (h:PE X e t) (w:∀ σ H Q,t2 σ H Q->t σ H Q):PE X e t2:=fun pins s σ H Q I q=>h pins s σ H Q I (w _ _ _ q)
theorem PT.weak {e:Expr} {t t2:TT} (h:PT X e t) (w:∀ σ H Q,t2 σ H Q->t σ H Q):PT X e t2:=fun pins s σ H Q I q=>h pins s σ H Q I (w _ _ _ q)
theorem PW.weak {e:Expr} {t t2:TT} (h:PW X e t) (w:∀ σ H Q,t2 σ H Q->t σ H Q):PW X e t2:=fun wh pins s σ H Q I q=>h wh pins s σ H Q I (w _ _ _ q)
theorem PA.weak {es:List Expr} {t t2:TA} (h:PA X es t) (w:∀ σ H Q,t2 σ H Q->t σ H Q):PA X es t2:=fun pos pins s σ H Q I q=>h pos pins s σ H Q I (w _ _ _ q)
theorem PS.weak {st:Stmt} {t t2:TS} (h:PS X st t) (w:∀ N σ H,t2 N σ H->t N σ H):PS X st t2:=fun pins s σ H N I q=>h pins s σ H N I (w _ _ _ q)
theorem PSs.weak {st:List Stmt} {t t2:TS} (h:PSs X st t) (w:∀ N σ H,t2 N σ H->t N σ H):PSs X st t2:=fun pins s σ H N I q=>h pins s σ H N I (w _ _ _ q)
theorem PG.weak {tg:Expr} {t t2:TG} (h:PG X tg t) (w:∀ v σ H Q,t2 v σ H Q->t v σ H Q):PG X tg t2:=fun pins s σ H v u Q I r q=>h pins s σ H v u Q I r (w _ _ _ _ q)
theorem PI.weak {tg iter:Expr} {t t2:TI} (h:PI X tg iter t) (w:∀ σ H Q,t2 σ H Q->t σ H Q):PI X tg iter t2:=fun pins s σ H Q I q=>h pins s σ H Q I (w _ _ _ q)
def zJ (i:Nat):TE':=fun Γ Q=>∃ d,Γ[i]?=some (.val d)/\Q d Γ
def tC' (d:D):TE':=fun Γ Q=>Q d Γ
theorem pv' (i:Nat) {x:Str} {pos:Pos} (hN:X.N[i]?=some x:=by rfl) (hv:Vis X.env.scope x:=by first | exact Or.inl rfl | exact Or.inr (Or.inl rfl) | exact Or.inr (Or.inr rfl)) (hd:(x == ("__debug__":Str))=false:=by decide)
  (hcd:(x == ("__classdict__":Str))=false:=by decide):PE' X (.Name x pos) (zJ i):=by
 refine ⟨PE.weak (zdZ (i:=i) hN hv hd hcd) ?_⟩
 rintro σ H Q ⟨W,Hi,Γ,Q',g,⟨d,e,q⟩,fin⟩
 obtain ⟨v,h1,h2⟩:=g.val i d e; exact ⟨v,h1,fin v H ⟨Hi,d,Γ,zU.refl _,g,h2,q⟩⟩
theorem zjn {e:Expr} {v:V} {d:D} (h:PE X e (tC v)) (r:∀ Hi,Den X.K Hi v d):PE' X e (tC' d):=by
 refine ⟨PE.weak h ?_⟩
 rintro σ H Q ⟨W,Hi,Γ,Q',g,q,fin⟩
 exact fin v H ⟨Hi,d,Γ,zU.refl _,g,r Hi,q⟩
theorem zd {i j pos}:PE' X (.Constant (.int i) j pos) (tC' (.int i)):=zjn zmj fun _=>.int i
theorem zpn {b j pos}:PE' X (.Constant (.bool b) j pos) (tC' (.bl b)):=zjn zuY fun _=>.bl b
theorem zaa {j pos}:PE' X (.Constant .none j pos) (tC' .non):=zjn zsK fun _=>.non
theorem zD (l:List Nat) {x j pos} (h:x=st l:=by decide +kernel):PE' X (.Constant (.str x) j pos) (tC' (.str l)):=by
 subst h
 exact zjn zsF fun _=>.str l
theorem zqE {x:Str} {v:V} {u:Value} {d:D} {pos:Pos} (hm:X.mg x=some u) (r:zao v u) (rd:∀ Hi,Den X.K Hi v d) (hg:Gl X x:=by rfl) (hd:(x == ("__debug__":Str))=false:=by decide):PE' X (.Name x pos) (tC' d):=zjn (zqD hg hm r hd) rd
theorem zd1 {x:Str} {l:List Nat} {t:Tok} {pos:Pos} (hm:X.mg x=some (.str (st l) t)) (hg:Gl X x:=by rfl) (hd:(x == ("__debug__":Str))=false:=by decide):PE' X (.Name x pos) (tC' (.str l)):=zqE (v:=.str (st l)) hm ⟨_,rfl⟩ (fun _=>.str l) hg hd
theorem zsN {x:Str} {i:Int} {t:Tok} {pos:Pos} (hm:X.mg x=some (.int i t)) (hg:Gl X x:=by rfl) (hd:(x == ("__debug__":Str))=false:=by decide):PE' X (.Name x pos) (tC' (.int i)):=zqE (v:=.int i) hm ⟨_,rfl⟩ (fun _=>.int i) hg hd
theorem zsD {x:Str} {c:String} {pos:Pos} (hm:X.mg x=none) (hv:bootBuiltins x=some (.type c)) (hg:Gl X x:=by rfl) (hn:x≠"__name__":=by decide) (hd:(x == ("__debug__":Str))=false:=by decide):PE' X (.Name x pos) (tC' (.ty c)) :=
 zjn (zqK (v:=.ty c) hg hm hv rfl hn hd) fun _=>.ty c
def zf6 (t:TO'):TE':=fun Γ Q=>t Γ fun o Γ1=>Q o.toD Γ1
theorem zbB {e:Expr} {t:TO'} (h:PO' X e t):PE' X e (zf6 t):=by
 refine ⟨PE.weak h.h ?_⟩
 rintro σ H Q ⟨W,Hi,Γ,Q',g,q,fin⟩
 refine ⟨W,Hi,Γ,_,g,q,?_⟩; intro a H' Hi' Γ' o s1 g1 nw q1; obtain ⟨u,hu⟩:=nw.own.there; exact fin _ _ ⟨upd Hi' a u,_,Γ',s1.trans (zO nw.hi u),g1.freezeA nw.hi nw.h0 nw.ne hu,nw.own.den nw.hi hu,q1⟩
abbrev R2':=D->D->(D->Prop)->Prop
def zjM (K:W.Frag) (r:R2) (r':R2'):Prop:=∀ (Hi H:Hp) (x y:V) (dx dy:D) (Q:D->Prop) (Q2:VK),Fz Hi H->Den K Hi x dx->Den K Hi y dy->r' dx dy Q->(∀ Hi' H' v d,Ext Hi H Hi' H'->Den K Hi' v d->Q d->Q2 v H')->r x y H Q2
def zcX (r:R2') (ta tb:TE'):TE':=fun Γ Q=>ta Γ fun x Γ1=>tb Γ1 fun y Γ2=>r x y fun d=>Q d Γ2
theorem zjU {K:W.Frag} {n:Nat} {r:R2} {r':R2'} {ta tb:TE'} {σ:St} {H:Hp} {Q:VK} (l:zjM K r r') (h:tOf K n (zcX r' ta tb) σ H Q):tOp r (tOf K n ta) (tOf K n tb) σ H Q:=by
 obtain ⟨W,Hi,Γ,Q',g,h,fin⟩:=h; refine ⟨W,Hi,Γ,_,g,h,?_⟩
 rintro x H1 ⟨Hi1,dx,Γ1,s1,g1,den1,h1⟩
 refine ⟨W,Hi1,Γ1,_,g1,h1,?_⟩
 rintro y H2 ⟨Hi2,dy,Γ2,s2,g2,den2,h2⟩
 refine l Hi2 H2 x y dx dy _ _ g2.fz (den1.mono s2) den2 h2 ?_
 rintro Hi3 H3 v d e den q
 exact fin v H3 ⟨Hi3,d,Γ2,s1.trans (s2.trans e.hi),g2.ext e,den,q⟩
structure Op2 (X:Cx) (f:Value->Value->Sem Value) (r':R2'):Prop where
 ex:∃ r,OpR X f r/\zjM X.K r r'
theorem Op2.or {f:Value->Value->Sem Value} {r r':R2'} (h:Op2 X f r) (h':Op2 X f r'):Op2 X f (fun x y Q=>r x y Q\/r' x y Q):=by
 obtain ⟨a,ha,la⟩:=h.ex; obtain ⟨b,hb,lb⟩:=h'.ex
 refine ⟨_,ha.or hb,fun Hi H x y dx dy Q Q2 s d1 d2 q fin=>?_⟩
 rcases q with q | q
 ·exact .inl (la Hi H x y dx dy Q Q2 s d1 d2 q fin)
 ·exact .inr (lb Hi H x y dx dy Q Q2 s d1 d2 q fin)
theorem zk {a b:Expr} {op:Operator} {r':R2'} {ta tb:TE'} {pos:Pos} (h:Op2 X (binaryOp op) r') (ha:PE' X a ta) (hb:PE' X b tb):PE' X (.BinOp a op b pos) (zcX r' ta tb):=by
 obtain ⟨r,ho,l⟩:=h.ex
 exact ⟨PE.weak (zsH ho ha.h hb.h) fun σ H Q q=>zjU l q⟩
theorem zg7 {a b:Expr} {op:CmpOp} {r':R2'} {ta tb:TE'} {pos:Pos} (h:Op2 X (compareOp op) r') (ha:PE' X a ta) (hb:PE' X b tb) (hm:behindInMarks op b=false:=by first | exact zpp _ | rfl):PE' X (.Compare a [op] [b] pos) (zcX r' ta tb):=by
 obtain ⟨r,ho,l⟩:=h.ex
 exact ⟨PE.weak (zqI ho ha.h hb.h hm) fun σ H Q q=>zjU l q⟩
def tB' (t:TE'):TT':=fun Γ Q=>t Γ fun d Γ1=>∃ b,d=.bl b/\Q b Γ1
theorem zr0 {K:W.Frag} {n:Nat} {t:TE'} {σ:St} {H:Hp} {Q:Bool->Hp->Prop} (h:zrE K n (tB' t) σ H Q):tOf K n t σ H fun x H1=>∃ c,x=.bl c/\Q c H1:=by
 obtain ⟨W,Hi,Γ,Q',g,h,fin⟩:=h; refine ⟨W,Hi,Γ,_,g,h,?_⟩
 rintro x H1 ⟨Hi1,dx,Γ1,s1,g1,den1,b,rfl,h1⟩
 exact ⟨b,den1.blI,fin b H1 Hi1 Γ1 s1 g1 h1⟩
theorem zer {e:Expr} {t:TE'} (h:PE' X e t) (he:∀ whole,isTrue e X.env whole=(do let v <- whole; standAt e.pos; holding [v] (truthy v)):=by intro _; rfl):PT' X e (tB' t) :=
 ⟨PT.weak (zsw h.h he) fun σ H Q q=>zr0 q⟩
theorem zo {a b:Expr} {op:CmpOp} {r':R2'} {ta tb:TE'} {pos:Pos} (h:Op2 X (compareOp op) r') (ha:PE' X a ta) (hb:PE' X b tb) (hm:behindInMarks op b=false:=by first | exact zpp _ | rfl):PT' X (.Compare a [op] [b] pos) (tB' (zcX r' ta tb)):=by
 obtain ⟨r,ho,l⟩:=h.ex
 exact ⟨PT.weak (zqj ho ha.h hb.h hm) fun σ H Q q=>zjU l (zr0 q)⟩
def zff (t u:TT'):TT':=fun Γ Q=>t Γ fun c Γ1=>if c=true then u Γ1 Q else Q false Γ1
def zlN (t u:TT'):TT':=fun Γ Q=>t Γ fun c Γ1=>if c=true then Q true Γ1 else u Γ1 Q
def zgN (t:TT'):TT':=fun Γ Q=>t Γ fun c Γ1=>Q (!c) Γ1
variable {a b c:Expr} {tA tB2:TT'} {zdp:List Expr} {pos:Pos} {ta tb:TE'}
theorem zeV (ha:PT' X a tA):PW' X (.BoolOp .And [a] pos) tA:=⟨zqe ha.h⟩
theorem zg2 (ha:PT' X a tA):PW' X (.BoolOp .Or [a] pos) tA:=⟨zst ha.h⟩
theorem zg3 (ha:PT' X a tA) (hb:PW' X (.BoolOp .And (b :: zdp) pos) tB2):PW' X (.BoolOp .And (a :: b :: zdp) pos) (zff tA tB2):=by
 refine ⟨PW.weak (zsu ha.h hb.h) ?_⟩
 rintro σ H Q ⟨W,Hi,Γ,Q',g,h,fin⟩
 refine ⟨W,Hi,Γ,_,g,h,?_⟩; intro k H1 Hi1 Γ1 s1 g1 h1
 cases k with
 | true=>exact ⟨W,Hi1,Γ1,_,g1,h1,fun b H2 Hi2 Γ2 s2 g2 q=>fin b H2 Hi2 Γ2 (s1.trans s2) g2 q⟩
 | false=>exact fin false H1 Hi1 Γ1 s1 g1 h1
theorem zj6 (ha:PT' X a tA) (hb:PW' X (.BoolOp .Or (b :: zdp) pos) tB2):PW' X (.BoolOp .Or (a :: b :: zdp) pos) (zlN tA tB2):=by
 refine ⟨PW.weak (zuU ha.h hb.h) ?_⟩
 rintro σ H Q ⟨W,Hi,Γ,Q',g,h,fin⟩
 refine ⟨W,Hi,Γ,_,g,h,?_⟩; intro k H1 Hi1 Γ1 s1 g1 h1
 cases k with
 | false=>exact ⟨W,Hi1,Γ1,_,g1,h1,fun b H2 Hi2 Γ2 s2 g2 q=>fin b H2 Hi2 Γ2 (s1.trans s2) g2 q⟩
 | true=>exact fin true H1 Hi1 Γ1 s1 g1 h1
theorem PW'.pt {e:Expr} {t:TT'} (h:PW' X e t):PT' X e t:=⟨h.h _⟩
def zdn (ta tb:TE'):TE':=fun Γ Q=>ta Γ fun x Γ1=>∃ c,x=.bl c/\if c=true then tb Γ1 Q else Q (.bl false) Γ1
def zf2 (ta tb:TE'):TE':=fun Γ Q=>ta Γ fun x Γ1=>∃ c,x=.bl c/\if c=true then Q (.bl true) Γ1 else tb Γ1 Q
def zdf (ta:TE'):TE':=fun Γ Q=>ta Γ fun x Γ1=>∃ c,x=.bl c/\Q (.bl (!c)) Γ1
theorem zmi {op} (h:PE' X a ta):PE' X (.BoolOp op [a] pos) ta:=⟨zsI h.h⟩
theorem zqL (ha:PE' X a ta) (hb:PE' X (.BoolOp .And (b :: zdp) pos) tb):PE' X (.BoolOp .And (a :: b :: zdp) pos) (zdn ta tb):=by
 refine ⟨PE.weak (zsP ha.h hb.h) ?_⟩
 rintro σ H Q ⟨W,Hi,Γ,Q',g,h,fin⟩
 refine ⟨W,Hi,Γ,_,g,h,?_⟩
 rintro x H1 ⟨Hi1,dx,Γ1,s1,g1,den1,k,rfl,h1⟩
 refine ⟨k,den1.blI,?_⟩
 cases k with
 | true=>exact ⟨W,Hi1,Γ1,_,g1,h1,fun v H2 ⟨Hi2,d,Γ2,s2,g2,d2,q⟩=>fin v H2 ⟨Hi2,d,Γ2,s1.trans s2,g2,d2,q⟩⟩
 | false=>exact fin _ H1 ⟨Hi1,_,Γ1,s1,g1,.bl false,h1⟩
theorem zsG (ha:PE' X a ta) (hb:PE' X (.BoolOp .Or (b :: zdp) pos) tb):PE' X (.BoolOp .Or (a :: b :: zdp) pos) (zf2 ta tb):=by
 refine ⟨PE.weak (pe_or ha.h hb.h) ?_⟩
 rintro σ H Q ⟨W,Hi,Γ,Q',g,h,fin⟩
 refine ⟨W,Hi,Γ,_,g,h,?_⟩
 rintro x H1 ⟨Hi1,dx,Γ1,s1,g1,den1,k,rfl,h1⟩
 refine ⟨k,den1.blI,?_⟩
 cases k with
 | false=>exact ⟨W,Hi1,Γ1,_,g1,h1,fun v H2 ⟨Hi2,d,Γ2,s2,g2,d2,q⟩=>fin v H2 ⟨Hi2,d,Γ2,s1.trans s2,g2,d2,q⟩⟩
 | true=>exact fin _ H1 ⟨Hi1,_,Γ1,s1,g1,.bl true,h1⟩
theorem zqz (ha:PE' X a ta):PE' X (.UnaryOp .Not a pos) (zdf ta):=by
 refine ⟨PE.weak (zsJ ha.h) ?_⟩
 rintro σ H Q ⟨W,Hi,Γ,Q',g,h,fin⟩
 refine ⟨W,Hi,Γ,_,g,h,?_⟩
 rintro x H1 ⟨Hi1,dx,Γ1,s1,g1,den1,k,rfl,h1⟩
 exact ⟨k,den1.blI,fin _ H1 ⟨Hi1,_,Γ1,s1,g1,.bl _,h1⟩⟩
def zjV (t:TT') (ta tb:TE'):TE':=fun Γ Q=>t Γ fun c Γ1=>if c=true then ta Γ1 Q else tb Γ1 Q
theorem zpm (hc:PT' X c tA) (ha:PE' X a ta) (hb:PE' X b tb):PE' X (.IfExp c a b pos) (zjV tA ta tb):=by
 refine ⟨PE.weak (zoe hc.h ha.h hb.h) ?_⟩
 rintro σ H Q ⟨W,Hi,Γ,Q',g,h,fin⟩
 refine ⟨W,Hi,Γ,_,g,h,?_⟩; intro k H1 Hi1 Γ1 s1 g1 h1
 cases k with
 | true=>exact ⟨W,Hi1,Γ1,_,g1,h1,fun v H2 ⟨Hi2,d,Γ2,s2,g2,d2,q⟩=>fin v H2 ⟨Hi2,d,Γ2,s1.trans s2,g2,d2,q⟩⟩
 | false=>exact ⟨W,Hi1,Γ1,_,g1,h1,fun v H2 ⟨Hi2,d,Γ2,s2,g2,d2,q⟩=>fin v H2 ⟨Hi2,d,Γ2,s1.trans s2,g2,d2,q⟩⟩
def zbx:TA':=fun Γ Q=>Q [] Γ
def zad (ta:TE') (tr:TA'):TA':=fun Γ Q=>ta Γ fun x Γ1=>tr Γ1 fun xs Γ2=>Q (x :: xs) Γ2
theorem zb:PA' X [] zbx:=by
 refine ⟨PA.weak zke ?_,rfl⟩
 rintro σ H Q ⟨W,Hi,Γ,Q',g,h,fin⟩
 exact fin [] H Hi Γ [] (zU.refl _) g .nil h
theorem za {e:Expr} {es:List Expr} {te:TE'} {t:TA'} (ha:PE' X e te) (hr:PA' X es t) (hs:zcR e=false:=by rfl):PA' X (e :: es) (zad te t):=by
 refine ⟨PA.weak (zcO ha.h hr.pa (zK hs)) ?_,by unfold zbN; rw [hs,hr.pl]; rfl⟩
 rintro σ H Q ⟨W,Hi,Γ,Q',g,h,fin⟩
 refine ⟨W,Hi,Γ,_,g,h,?_⟩
 rintro x H1 ⟨Hi1,dx,Γ1,s1,g1,den1,h1⟩
 refine ⟨W,Hi1,Γ1,_,g1,h1,?_⟩; intro vs H2 Hi2 Γ2 ds s2 g2 dl q; exact fin (x :: vs) H2 Hi2 Γ2 (dx :: ds) (s1.trans s2) g2 (.cons (den1.mono s2) dl) q
def zeJ (t:TA'):TE':=fun Γ Q=>t Γ fun ds Γ1=>ds.length<=sizeLine/\Q (.tup ds) Γ1
theorem zw {es:List Expr} {t:TA'} {x1} (h:PA' X es t):PE' X (.Tuple es x1 pos) (zeJ t):=by
 refine ⟨PE.weak (zsE h.pa) ?_⟩
 rintro σ H Q ⟨W,Hi,Γ,Q',g,h,fin⟩
 refine ⟨W,Hi,Γ,_,g,h,?_⟩
 rintro vs H1 Hi1 Γ1 ds s1 g1 dl ⟨hl,q⟩
 refine ⟨by rw [zg dl]; exact hl,fun p hp=>?_⟩
 have e:=Ext.new g1.fz hp (.tup vs); exact fin _ _ ⟨_,_,Γ1,s1.trans e.hi,g1.ext e,Den.mkT zj (dl.mono e.hi),q⟩
theorem New.mk' {K:W.Frag} {n:Nat} {W:Wd} {Hi H:Hp} {Γ:Sts} {σ:St} {p:Addr} {u:HO} {o:OD} (g:Good K n W Hi Γ σ H) (hp:H p=none) (own:zaU K Hi (upd H p u) p o):New K n W Hi Γ σ (upd H p u) p o:=by
 refine ⟨g.sub.free hp,?_,⟨fun j o' e z=>?_,fun j d xs e=>?_⟩,own⟩
 ·cases q:W.H₀ p with
  | none=>rfl
  | some w =>
   obtain ⟨w',hw⟩:=g.there p w q
   rw [hp] at hw; cases hw
 ·obtain ⟨a,h1,_,_,h4⟩:=g.own j o' e
  rw [z] at h1; cases h1; obtain ⟨w,hw⟩:=h4.there
  rw [hp] at hw; cases hw
 ·obtain ⟨w,hw⟩:=(g.bk j d p xs e).at_.there
  rw [hp] at hw; cases hw
def zf5 (t:TA'):TO':=fun Γ Q=>t Γ fun ds Γ1=>ds.length<=sizeLine/\Q (.lst ds) Γ1
theorem zdY {es:List Expr} {t:TA'} (h:PA' X es t):PO' X (.List es pos) (zf5 t):=by
 refine ⟨PE.weak (zsL h.pa) ?_⟩
 rintro σ H Q ⟨W,Hi,Γ,Q',g,h,fin⟩
 refine ⟨W,Hi,Γ,_,g,h,?_⟩
 rintro vs H1 Hi1 Γ1 ds s1 g1 dl ⟨hl,q⟩
 refine ⟨by rw [zg dl]; exact hl,fun p hp=>?_⟩
 exact fin p _ Hi1 Γ1 (.lst ds) s1 (g1.ext (Ext.newO g1.fz hp _ (fun _ z=>by cases z))) (New.mk' g1 hp ⟨vs,zj,dl⟩) q
abbrev RC':=List D->(D->Prop)->Prop
def ztI (K:W.Frag) (r:List V->Hp->VK->Prop) (r':RC'):Prop:=∀ (Hi H:Hp) (vs:List V) (ds:List D) (Q:D->Prop) (Q2:VK),Fz Hi H->zaV K Hi vs ds->r' ds Q->(∀ Hi' H' v d,Ext Hi H Hi' H'->Den K Hi' v d->Q d->Q2 v H')->r vs H Q2
structure Cal (X:Cx) (f:Value) (r':RC'):Prop where
 ex:∃ r,zbZ X f r/\ztI X.K r r'
theorem Cal.or {f:Value} {r r':RC'} (h:Cal X f r) (h':Cal X f r'):Cal X f (fun x Q=>r x Q\/r' x Q):=by
 obtain ⟨a,ha,la⟩:=h.ex; obtain ⟨b,hb,lb⟩:=h'.ex
 refine ⟨_,ha.or hb,fun Hi H vs ds Q Q2 s d q fin=>?_⟩
 rcases q with q | q
 ·exact .inl (la Hi H vs ds Q Q2 s d q fin)
 ·exact .inr (lb Hi H vs ds Q Q2 s d q fin)
def zjW (r:RC') (t:TA'):TE':=fun Γ Q=>t Γ fun ds Γ1=>r ds fun d=>Q d Γ1
theorem zpd {K:W.Frag} {n:Nat} {r:List V->Hp->VK->Prop} {r':RC'} {t:TA'} {σ:St} {H:Hp} {Q:VK} (l:ztI K r r') (h:tOf K n (zjW r' t) σ H Q):tCB r (zus K n t) σ H Q:=by
 obtain ⟨W,Hi,Γ,Q',g,h,fin⟩:=h; refine ⟨W,Hi,Γ,_,g,h,?_⟩; intro vs H1 Hi1 Γ1 ds s1 g1 dl h1; refine l Hi1 H1 vs ds _ _ g1.fz dl h1 ?_; intro Hi2 H2 v d e den q; exact fin v H2 ⟨Hi2,d,Γ1,s1.trans e.hi,g1.ext e,den,q⟩
variable {x:Str} {p:Pos} {e:Expr} {es:List Expr} {t:TA'} {id T:String}
theorem zt {r':RC'} (hc:Cal X (.builtin id) r') (hm:X.mg x=none) (hv:bootBuiltins x=some (.builtin id)) (ha:PA' X (e :: es) t) (hg:Gl X x:=by rfl) (hn:x≠"__name__":=by decide) (hdb:(x == ("__debug__":Str))=false:=by decide):PE' X (.Call (.Name x p) (e :: es) [] pos) (zjW r' t):=by
 obtain ⟨r,ho,l⟩:=hc.ex; obtain ⟨p1,p2⟩:=zM ha.pl
 exact ⟨PE.weak (zoh ho hg hm hv ha.pa hn hdb (zK p1) (zay p2)) fun σ H Q q=>zpd l q⟩
theorem zaq {r':RC'} (hc:Cal X (.type T) r') (hm:X.mg x=none) (hv:bootBuiltins x=some (.type T)) (ha:PA' X (e :: es) t) (hg:Gl X x:=by rfl) (hn:x≠"__name__":=by decide) (hdb:(x == ("__debug__":Str))=false:=by decide):PE' X (.Call (.Name x p) (e :: es) [] pos) (zjW r' t):=by
 obtain ⟨r,ho,l⟩:=hc.ex; obtain ⟨p1,p2⟩:=zM ha.pl
 exact ⟨PE.weak (zh5 ho hg hm hv ha.pa hn hdb (zK p1) (zay p2)) fun σ H Q q=>zpd l q⟩
end
end PL
namespace PL
open PySem L2
section
variable {X:Cx} {a b c:Expr} {pos:Pos} {ta tb:TE'}
structure Ixs (X:Cx) (r':R2'):Prop where
 ex:∃ r,IxR X r/\zjM X.K r r'
theorem Ixs.or {r r':R2'} (h:Ixs X r) (h':Ixs X r'):Ixs X (fun x y Q=>r x y Q\/r' x y Q):=by
 obtain ⟨a,ha,la⟩:=h.ex; obtain ⟨b,hb,lb⟩:=h'.ex
 refine ⟨_,ha.or hb,fun Hi H x y dx dy Q Q2 s d1 d2 q fin=>?_⟩
 rcases q with q | q
 ·exact .inl (la Hi H x y dx dy Q Q2 s d1 d2 q fin)
 ·exact .inr (lb Hi H x y dx dy Q Q2 s d1 d2 q fin)
theorem zl {r':R2'} (h:Ixs X r') (ha:PE' X a ta) (hb:PE' X b tb) (hs:znh b:=by intro _ _; rfl):PE' X (.Subscript a b pos) (zcX r' ta tb):=by
 obtain ⟨r,ho,l⟩:=h.ex
 exact ⟨PE.weak (zuX ho ha.h hb.h hs) fun σ H Q q=>zjU l q⟩
abbrev TP':=Sts->(Option Int->Sts->Prop)->Prop
def zwe (K:W.Frag) (n:Nat) (t:TP'):TO:=fun σ H Q2=>∃ W Hi Γ Q,Good K n W Hi Γ σ H/\t Γ Q/\∀ i H' Hi' Γ',zU Hi Hi'->Good K n W Hi' Γ' σ H'->Q i Γ'->Q2 i H'
structure PB' (X:Cx) (e:Option Expr) (t:TP'):Prop where
 h:PO X e (zwe X.K X.N.length t)
def zeK:TP':=fun Γ Q=>Q none Γ
def zkR (t:TE'):TP':=fun Γ Q=>t Γ fun d Γ1=>∃ i,d=.int i/\Q (some i) Γ1
theorem PO.weak {e:Option Expr} {t t2:TO} (h:PO X e t) (w:∀ σ H Q,t2 σ H Q->t σ H Q):PO X e t2:=fun pins s σ H Q I q=>h pins s σ H Q I (w _ _ _ q)
theorem zd2:PB' X none zeK:=by
 refine ⟨PO.weak zqo ?_⟩
 rintro σ H Q ⟨W,Hi,Γ,Q',g,h,fin⟩
 exact fin none H Hi Γ (zU.refl _) g h
theorem zb0 {e:Expr} {te:TE'} (h:PE' X e te):PB' X (some e) (zkR te):=by
 refine ⟨PO.weak (zqn h.h) ?_⟩
 rintro σ H Q ⟨W,Hi,Γ,Q',g,h,fin⟩
 refine ⟨W,Hi,Γ,_,g,h,?_⟩
 rintro v H1 ⟨Hi1,d,Γ1,s1,g1,den,i,rfl,q⟩
 exact ⟨i,den.intI,fin _ H1 Hi1 Γ1 s1 g1 q⟩
abbrev RS':=D->Option Int->Option Int->(D->Prop)->Prop
def zvK (K:W.Frag) (r:V->Option Int->Option Int->Hp->VK->Prop) (r':RS'):Prop:=∀ (Hi H:Hp) (x:V) (dx:D) (lo hi:Option Int) (Q:D->Prop) (Q2:VK),Fz Hi H->Den K Hi x dx->r' dx lo hi Q->(∀ Hi' H' v d,Ext Hi H Hi' H'->Den K Hi' v d->Q d->Q2 v H')->r x lo hi H Q2
structure Sli (X:Cx) (r':RS'):Prop where
 ex:∃ r,SlR X r/\zvK X.K r r'
theorem Sli.or {r r':RS'} (h:Sli X r) (h':Sli X r'):Sli X (fun x lo hi Q=>r x lo hi Q\/r' x lo hi Q):=by
 obtain ⟨a,ha,la⟩:=h.ex; obtain ⟨b,hb,lb⟩:=h'.ex
 refine ⟨_,ha.or hb,fun Hi H x dx lo hi Q Q2 s d1 q fin=>?_⟩
 rcases q with q | q
 ·exact .inl (la Hi H x dx lo hi Q Q2 s d1 q fin)
 ·exact .inr (lb Hi H x dx lo hi Q Q2 s d1 q fin)
def zkP (r:RS') (te:TE') (tl th:TP'):TE':=fun Γ Q=>te Γ fun x Γ1=>tl Γ1 fun l Γ2=>th Γ2 fun u Γ3=>r x l u fun d=>Q d Γ3
theorem zbg {e:Expr} {lo hi:Option Expr} {p2:Pos} {te:TE'} {tl th:TP'} {r':RS'} (h:Sli X r') (he:PE' X e te) (hl:PB' X lo tl) (hu:PB' X hi th):PE' X (.Subscript e (.Slice lo hi none p2) pos) (zkP r' te tl th):=by
 obtain ⟨r,ho,l⟩:=h.ex; refine ⟨PE.weak (zod ho he.h hl.h hu.h) ?_⟩
 rintro σ H Q ⟨W,Hi,Γ,Q',g,h,fin⟩
 refine ⟨W,Hi,Γ,_,g,h,?_⟩
 rintro x H1 ⟨Hi1,dx,Γ1,s1,g1,den1,h1⟩
 refine ⟨W,Hi1,Γ1,_,g1,h1,?_⟩; intro i H2 Hi2 Γ2 s2 g2 h2; refine ⟨W,Hi2,Γ2,_,g2,h2,?_⟩; intro j H3 Hi3 Γ3 s3 g3 h3; refine l Hi3 H3 x dx i j _ _ g3.fz (den1.mono (s2.trans s3)) h3 ?_; intro Hi4 H4 v d e den q; exact fin v H4 ⟨Hi4,d,Γ3,s1.trans (s2.trans (s3.trans e.hi)),g3.ext e,den,q⟩
abbrev RM':=D->List D->(D->Prop)->Prop
def zvL (K:W.Frag) (T:String) (r:V->List V->Hp->VK->Prop) (r':RM'):Prop:=∀ (Hi H:Hp) (x:V) (vs:List V) (dx:D) (ds:List D) (Q:D->Prop) (Q2:VK),Fz Hi H->Den K Hi x dx->zaV K Hi vs ds->r' dx ds Q->(∀ Hi' H' v d,Ext Hi H Hi' H'->Den K Hi' v d->Q d->Q2 v H')->r x vs H Q2
def tyD (T:String):D->Prop
 | .str _=>T="str"
 | .int _=>T="int"
 | .lst _=>T="list"
 | _=>False
theorem zrO {K:W.Frag} {Hi H:Hp} {x:V} {dx:D} (s:zU Hi H) (den:Den K Hi x dx) (h:tyD T dx):tyV K T x H:=by
 cases den with
 | str l=>exact h
 | int i=>exact h
 | lst hq l r =>
  refine .inl ⟨h,_,zE s hq⟩
 | _=>exact h.elim
structure Met (X:Cx) (T:String) (id:String) (r':RM'):Prop where
 ex:∃ r,MtR X id r/\zvL X.K T r r'
def znj (T:String) (r:RM') (to:TE') (t:TA'):TE':=fun Γ Q=>to Γ fun x Γ1=>tyD T x/\t Γ1 fun ds Γ2=>r x ds fun d=>Q d Γ2
theorem zsO {o e:Expr} {es:List Expr} {to:TE'} {t:TA'} {name:Str} {apos cpos:Pos} {T id:String} {r':RM'} (h:Met X T id r') (pa:PlainAttrs T) (slot:PySem.Slot T name id) (hty:typeOf (.builtin id)=pure (.type "method_descriptor")) (ho:PE' X o to) (ha:PA' X (e :: es) t)
  (hbase:attributeBase o name X.env (eval o X.env)=eval o X.env:=by rfl) (hlen:(e :: es).length<30:=by decide)
  (hline:(apos.endLine == cpos.line)=true:=by rfl) :
  PE' X (.Call (.Attribute o name apos) (e :: es) [] cpos) (znj T r' to t):=by
 obtain ⟨r,hm,l⟩:=h.ex; obtain ⟨p1,p2⟩:=zM ha.pl
 have hfew:((backTo cpos (starEach (e :: es) X.env)).all (fun x=>!x.1) && (backToKw cpos (keywordEach [] X.env)).all (fun x=>x.1.isSome)
   && decide ((e :: es).length+([]:List Keyword).length+(if ([]:List Keyword).isEmpty then 0 else 1)<30))=true:=by
  have h1:(backTo cpos (starEach (e :: es) X.env)).all (fun x=>!x.1)=true:=by
   rw [List.all_eq_true]; intro y hy
   have:=zay (pos:=cpos) (env:=X.env) ha.pl
   rw [List.any_eq_false] at this
   simpa using this y hy
  rw [h1,decide_eq_true (by simpa using hlen)]
  rfl
 refine ⟨PE.weak (zqJ pa slot hty hm ho.h ha.pa hbase hfew hline (zK p1) (zay p2)) ?_⟩
 rintro σ H Q ⟨W,Hi,Γ,Q',g,h,fin⟩
 refine ⟨W,Hi,Γ,_,g,h,?_⟩
 rintro x H1 ⟨Hi1,dx,Γ1,s1,g1,den1,ty,h1⟩
 refine ⟨zrO g1.sub den1 ty,W,Hi1,Γ1,_,g1,h1,?_⟩; intro vs H2 Hi2 Γ2 ds s2 g2 dl h2; refine l Hi2 H2 x vs dx ds _ _ g2.fz (den1.mono s2) dl h2 ?_; intro Hi3 H3 v d e den q; exact fin v H3 ⟨Hi3,d,Γ2,s1.trans (s2.trans e.hi),g2.ext e,den,q⟩
def zbn:TS':=fun N Γ=>N.nx Γ
def zdN (t u:TS'):TS':=fun N Γ=>t { N with nx:=u N } Γ
theorem zn:PSs' X [] zbn:=by
 refine ⟨PSs.weak zqk ?_⟩
 rintro N2 σ H ⟨W,Hi,Γ,N,g,h,l⟩
 exact l.nx σ H Hi Γ (zU.refl _) g h
theorem zc {s:Stmt} {zdp:List Stmt} {t u:TS'} (h1:PS' X s t) (h2:PSs' X zdp u):PSs' X (s :: zdp) (zdN t u):=by
 refine ⟨PSs.weak (zdW h1.h h2.h) ?_⟩
 rintro N2 σ H ⟨W,Hi,Γ,N,g,h,l⟩
 refine ⟨W,Hi,Γ,_,g,h,?_,l.bk,l.ct,l.rt⟩; intro σ1 H1 Hi1 Γ1 s1 g1 q; exact ⟨W,Hi1,Γ1,N,g1,q,l.mono s1⟩
theorem ze {s:Stmt} {t:TS'} (h1:PS' X s t):PSs' X [s] t:=⟨zes h1.h⟩
def zbQ (te:TE'):TS':=fun N Γ=>te Γ fun d Γ1=>N.rt (.val d) Γ1
def zde (te:TO'):TS':=fun N Γ=>te Γ fun o Γ1=>N.rt (.own o) Γ1
theorem zh {e:Expr} {te:TE'} (he:PE' X e te):PS' X (.Return (some e) pos) (zbQ te):=by
 refine ⟨PS.weak (zmb he.h) ?_⟩
 rintro N2 σ H ⟨W,Hi,Γ,N,g,h,l⟩
 refine ⟨W,Hi,Γ,_,g,h,?_⟩
 rintro v H1 ⟨Hi1,d,Γ1,s1,g1,den,q⟩
 exact l.rt v σ H1 Hi1 Γ1 (.val d) s1 g1 den q
theorem znY {e:Expr} {te:TO'} (he:PO' X e te):PS' X (.Return (some e) pos) (zde te):=by
 refine ⟨PS.weak (zmb he.h) ?_⟩
 rintro N2 σ H ⟨W,Hi,Γ,N,g,h,l⟩
 refine ⟨W,Hi,Γ,_,g,h,?_⟩; intro a H1 Hi1 Γ1 o s1 g1 nw q; exact l.rt _ σ H1 Hi1 Γ1 (.own o) s1 g1 ⟨a,rfl,nw.hi,nw.h0,nw.own⟩ q
def zdd (n i:Nat):TS':=fun N Γ=>i<n/\∃ o,Γ[i]?=some (.own o)/\N.rt (.own o) Γ
theorem zj9 (i:Nat) {x:Str} {p:Pos} (hN:X.N[i]?=some x:=by rfl) (hv:Vis X.env.scope x:=by first | exact Or.inl rfl | exact Or.inr (Or.inl rfl) | exact Or.inr (Or.inr rfl)) (hd:(x == ("__debug__":Str))=false:=by decide)
  (hcd:(x == ("__classdict__":Str))=false:=by decide):PS' X (.Return (some (.Name x p)) pos) (zdd X.N.length i):=by
 refine ⟨PS.weak (zmb (zdZ (i:=i) hN hv hd hcd)) ?_⟩
 rintro N2 σ H ⟨W,Hi,Γ,N,g,⟨hi,o,e,q⟩,l⟩
 obtain ⟨a,h1,h2,h3,h4⟩:=g.own i o e; unfold adr at h1; rw [if_pos hi] at h1; exact ⟨.ref a,zgt h1,l.rt _ σ H Hi Γ (.own o) (zU.refl _) g ⟨a,rfl,h2,h3 hi,h4⟩ q⟩
def zda (c:TT') (t u:TS'):TS':=fun N Γ=>c Γ fun b Γ1=>if b=true then t N Γ1 else u N Γ1
theorem zB {c:Expr} {sa sb:List Stmt} {tc:TT'} {t u:TS'} (hc:PT' X c tc) (ha:PSs' X sa t) (hb:PSs' X sb u):PS' X (.If c sa sb pos) (zda tc t u):=by
 refine ⟨PS.weak (zuV hc.h ha.h hb.h) ?_⟩
 rintro N2 σ H ⟨W,Hi,Γ,N,g,h,l⟩
 refine ⟨W,Hi,Γ,_,g,h,?_⟩; intro k H1 Hi1 Γ1 s1 g1 q
 cases k with
 | true=>exact ⟨W,Hi1,Γ1,N,g1,q,l.mono s1⟩
 | false=>exact ⟨W,Hi1,Γ1,N,g1,q,l.mono s1⟩
def zcy (te:TE'):TS':=fun N Γ=>te Γ fun _ Γ1=>N.nx Γ1
theorem zci {e:Expr} {te:TE'} (he:PE' X e te) (hs:swapsWith e none pos.line X.env=pure false:=by rfl):PS' X (.Expr e pos) (zcy te):=by
 refine ⟨PS.weak (zjk he.h hs) ?_⟩
 rintro N2 σ H ⟨W,Hi,Γ,N,g,h,l⟩
 refine ⟨W,Hi,Γ,_,g,h,?_⟩
 rintro v H1 ⟨Hi1,d,Γ1,s1,g1,den,q⟩
 exact l.nx σ H1 Hi1 Γ1 s1 g1 q
def zac (i:Nat):TG':=fun d Γ Q=>Q (Γ.set i (.val d))
theorem zY (i:Nat) {x:Str} (hN:X.N.Nodup) (hi:X.N[i]?=some x:=by rfl) (hx:Loc X.env.scope x:=by first | exact Or.inl rfl | exact Or.inr rfl) (hf:X.fn x=true\/X.env.scope.names.lookup x=some .local:=by first | exact .inl rfl | exact .inr rfl | assumption):PG' X (.Name x pos) (zac i):=by
 refine ⟨PG.weak (zqx (i:=i) hN hi hx hf) ?_⟩
 rintro v σ H Q ⟨W,Hi,Γ,d,Q',g,den,q,fin⟩
 exact fin _ H Hi _ (zU.refl _) (g.set (List.getElem?_eq_some_iff.mp hi).1 den) q
def zdx (te:TE') (g:TG'):TS':=fun N Γ=>te Γ fun d Γ1=>g d Γ1 N.nx
theorem zm (i:Nat) {x:Str} {e:Expr} {te:TE'} {pos':Pos} (hN:X.N.Nodup) (he:PE' X e te) (hi:X.N[i]?=some x:=by rfl) (hx:Loc X.env.scope x:=by first | exact Or.inl rfl | exact Or.inr rfl) (hs:swapsWith e (some (.Name x pos')) pos.line X.env=pure false:=by rfl)
  (hf:X.fn x=true\/X.env.scope.names.lookup x=some .local:=by first | exact .inl rfl | exact .inr rfl | assumption):PS' X (.Assign [.Name x pos'] e pos) (zdx te (zac i)):=by
 refine ⟨PS.weak (zpk (i:=i) hN hi hx he.h hs hf) ?_⟩
 rintro N2 σ H ⟨W,Hi,Γ,N,g,h,l⟩
 refine ⟨W,Hi,Γ,_,g,h,?_⟩
 rintro v H1 ⟨Hi1,d,Γ1,s1,g1,den,q⟩
 exact l.nx _ H1 Hi1 _ s1 (g1.set (List.getElem?_eq_some_iff.mp hi).1 den) q
def zdm (te:TO') (i:Nat):TS':=fun N Γ=>te Γ fun o Γ1=>N.nx (Γ1.set i (.own o))
theorem zeY (i:Nat) {x:Str} {e:Expr} {te:TO'} {pos':Pos} (hN:X.N.Nodup) (he:PO' X e te) (hi:X.N[i]?=some x:=by rfl) (hx:Loc X.env.scope x:=by first | exact Or.inl rfl | exact Or.inr rfl) (hs:swapsWith e (some (.Name x pos')) pos.line X.env=pure false:=by rfl)
  (hf:X.fn x=true\/X.env.scope.names.lookup x=some .local:=by first | exact .inl rfl | exact .inr rfl | assumption):PS' X (.Assign [.Name x pos'] e pos) (zdm te i):=by
 refine ⟨PS.weak (zpk (i:=i) hN hi hx he.h hs hf) ?_⟩
 rintro N2 σ H ⟨W,Hi,Γ,N,g,h,l⟩
 refine ⟨W,Hi,Γ,_,g,h,?_⟩; intro a H1 Hi1 Γ1 o s1 g1 nw q; exact l.nx _ H1 Hi1 _ s1 (g1.setO (List.getElem?_eq_some_iff.mp hi).1 nw.hi nw.h0 nw.ne nw.own) q
def zi2 (g:TG') (tb:TS') (N:Ends'):List D->Sts->Prop
 | [],Γ=>N.nx Γ
 | d :: ds,Γ=>g d Γ fun Γ2=>tb { N with nx:=zi2 g tb N ds,ct:=zi2 g tb N ds,bk:=N.nx } Γ2
def zf7 (ti:TI') (g:TG') (tb:TS'):TS':=fun N Γ=>ti Γ fun ds Γ1=>zi2 g tb N ds Γ1
theorem zch {tg iter:Expr} {body:List Stmt} {ti:TI'} {g:TG'} {tb:TS'} (hi:PI' X tg iter ti) (hg:PG' X tg g) (hb:PSs' X body tb) (hp:PassesOwn (model X.prog X.w) X.A X.env X.xe:=by exact PassesOwn.never) (hc:X.calm=true:=by rfl)
  (hs:∀ x,foldedSetIterable iter X.env x=pure x:=by intro _; rfl):PS' X (.For tg iter body [] pos) (zf7 ti g tb):=by
 refine ⟨PS.weak (zsx hp hc hi.h hg.h hb.h hs) ?_⟩
 rintro N2 σ H ⟨W,Hi,Γ,N,gd,h,l⟩
 refine ⟨W,Hi,Γ,_,gd,h,?_⟩; intro J H1 Hi1 Γ1 ds s1 g1 itd q
 refine ⟨fun i m σ' H'=>m=ds.length-i/\i<=ds.length/\∃ Hi' Γ',zU Hi1 Hi'/\Good X.K X.N.length W Hi' Γ' σ' H'/\zi2 g tb N (ds.drop i) Γ',⟨ds.length,by simp,Nat.zero_le _,Hi1,Γ1,zU.refl _,g1,by simpa using q⟩,?_⟩
 rintro i m σ' H' ⟨rfl,hi',Hi',Γ',s2,g2,q2⟩
 have wk:=itd Hi' H' s2 g2.fz
 by_cases hlt:i<ds.length
 ·have hd:ds.drop i=ds[i] :: ds.drop (i+1):=List.drop_eq_getElem_cons hlt
  rw [hd] at q2; obtain ⟨go,yl⟩:=wk.1 i ds[i] (List.getElem?_eq_getElem hlt)
  refine .inr ⟨go,fun σ3 H3=>∃ Hi3 Γ3,zU Hi' Hi3/\Good X.K X.N.length W Hi3 Γ3 σ3 H3/\zi2 g tb N (ds.drop (i+1)) Γ3,fun σ3 H3 ⟨Hi3,Γ3,s3,g3,q3⟩=>⟨ds.length-(i+1),by omega,rfl,hlt,Hi3,Γ3,s2.trans s3,g3,q3⟩,fun x H'' y=>?_⟩
  obtain ⟨Hi'',ex,den⟩:=yl x H'' y; refine ⟨W,Hi'',Γ',ds[i],_,g2.ext ex,den,q2,?_⟩; intro σ4 H4 Hi4 Γ4 s4 g4 q4
  have sx:zU Hi' Hi4:=ex.hi.trans s4
  refine ⟨W,Hi4,Γ4,_,g4,q4,?_⟩
  refine ⟨fun σ5 H5 Hi5 Γ5 s5 g5 q5=>⟨Hi5,Γ5,sx.trans s5,g5,q5⟩,fun σ5 H5 Hi5 Γ5 s5 g5 q5=>l.nx σ5 H5 Hi5 Γ5 (s1.trans (s2.trans (sx.trans s5))) g5 q5,fun σ5 H5 Hi5 Γ5 s5 g5 q5=>⟨Hi5,Γ5,sx.trans s5,g5,q5⟩,fun v σ5 H5 Hi5 Γ5 r s5 g5 ro q5=>l.rt v σ5 H5 Hi5 Γ5 r (s1.trans (s2.trans (sx.trans s5))) g5 ro q5⟩
 ·have e:i=ds.length:=by omega
  subst e; rw [List.drop_eq_nil_of_le (Nat.le_refl _)] at q2; exact .inl ⟨wk.2,l.nx σ' H' Hi' Γ' (s1.trans s2) g2 q2⟩
def zlM (c:TT') (tb:TS'):TS':=fun N Γ=>∃ Wv:Nat->Sts->Prop,(∃ m,Wv m Γ)/\∀ m Γ,Wv m Γ->c Γ fun b Γ1=>if b=true then tb { N with nx:=fun Γ2=>∃ m',m'<m/\Wv m' Γ2,ct:=fun Γ2=>∃ m',m'<m/\Wv m' Γ2,bk:=N.nx } Γ1 else N.nx Γ1
theorem zfp {c:Expr} {body:List Stmt} {tc:TT'} {tb:TS'} (hc:PT' X c tc) (hb:PSs' X body tb) (hp:PassesOwn (model X.prog X.w) X.A X.env X.xe:=by exact PassesOwn.never):PS' X (.While c body [] pos) (zlM tc tb):=by
 refine ⟨PS.weak (znX hp hc.h hb.h) ?_⟩
 rintro N2 σ H ⟨W,Hi,Γ,N,gd,⟨Wv,⟨m0,w0⟩,turn⟩,l⟩
 refine ⟨fun m σ' H'=>∃ Hi' Γ',zU Hi Hi'/\Good X.K X.N.length W Hi' Γ' σ' H'/\Wv m Γ',⟨m0,Hi,Γ,zU.refl _,gd,w0⟩,?_⟩
 rintro m σ' H' ⟨Hi',Γ',s1,g1,w1⟩
 refine ⟨W,Hi',Γ',_,g1,turn m Γ' w1,?_⟩; intro k H1 Hi1 Γ1 s2 g2 q
 cases k with
 | false=>exact l.nx σ' H1 Hi1 Γ1 (s1.trans s2) g2 q
 | true =>
  refine ⟨fun σ3 H3=>∃ m',m'<m/\∃ Hi3 Γ3,zU Hi Hi3/\Good X.K X.N.length W Hi3 Γ3 σ3 H3/\Wv m' Γ3,fun σ3 H3 z=>z,W,Hi1,Γ1,_,g2,q,?_⟩
  refine ⟨fun σ5 H5 Hi5 Γ5 s5 g5 ⟨m',hm,q5⟩=>⟨m',hm,Hi5,Γ5,s1.trans (s2.trans s5),g5,q5⟩,fun σ5 H5 Hi5 Γ5 s5 g5 q5=>l.nx σ5 H5 Hi5 Γ5 (s1.trans (s2.trans s5)) g5 q5,fun σ5 H5 Hi5 Γ5 s5 g5 ⟨m',hm,q5⟩=>⟨m',hm,Hi5,Γ5,s1.trans (s2.trans s5),g5,q5⟩,fun v σ5 H5 Hi5 Γ5 r s5 g5 ro q5=>l.rt v σ5 H5 Hi5 Γ5 r (s1.trans (s2.trans s5)) g5 ro q5⟩
theorem zoS {K:W.Frag} {Hi:Hp} {a:Addr} {vs:List V} {ds:List D} (h:SqL K Hi a vs) (r:zaV K Hi vs ds):ItD K Hi (Itl K a) ds:=by
 intro Hi' H' s1 s2
 have hq:SqL K H' a vs:=zE (s1.trans s2.sub) h
 refine ⟨fun i d e=>?_,vs,hq,by rw [zg r]; exact Nat.le_refl _⟩
 obtain ⟨v,e1,e2⟩:=zQ r e; refine ⟨⟨vs,v,hq,e1⟩,?_⟩
 rintro x H'' ⟨rfl,y⟩
 have:=y vs hq
 rw [e1] at this; cases this; exact ⟨Hi',Ext.refl s2,e2.mono s1⟩
theorem zrf {K:W.Frag} {Hi:Hp} {a:Addr} {vs:List V} {ds:List D} (h:SqT K Hi a vs) (r:zaV K Hi vs ds):ItD K Hi (Itt K a) ds:=by
 intro Hi' H' s1 s2
 have hq:SqT K H' a vs:=zC (s1.trans s2.sub) h
 refine ⟨fun i d e=>?_,vs,hq,by rw [zg r]; exact Nat.le_refl _⟩
 obtain ⟨v,e1,e2⟩:=zQ r e; refine ⟨⟨vs,v,hq,e1⟩,?_⟩
 rintro x H'' ⟨rfl,y⟩
 have:=y vs hq
 rw [e1] at this; cases this; exact ⟨Hi',Ext.refl s2,e2.mono s1⟩
theorem zrg {K:W.Frag} {Hi:Hp} (l:List Nat):ItD K Hi (Its l) (l.map fun c=>.str [c]):=by
 intro Hi' H' s1 s2
 refine ⟨fun i d e=>?_,by rw [List.length_map]; rfl⟩
 rw [List.getElem?_map] at e
 cases hc:l[i]? with
 | none=>rw [hc] at e; cases e
 | some c =>
  rw [hc] at e; cases e; refine ⟨(List.getElem?_eq_some_iff.mp hc).1,?_⟩
  rintro x H'' ⟨rfl,c',e',rfl⟩
  rw [hc] at e'; cases e'; exact ⟨Hi',Ext.refl s2,.str [c]⟩
theorem zrh {K:W.Frag} {Hi:Hp} (lo:Int) (n:Nat):ItD K Hi (Itr lo n) ((List.range n).map fun k=>.int (lo+(k:Nat))):=by
 intro Hi' H' s1 s2
 refine ⟨fun i d e=>?_,by rw [List.length_map,List.length_range]; exact Nat.le_refl _⟩
 rw [List.getElem?_map] at e
 cases hc:(List.range n)[i]? with
 | none=>rw [hc] at e; cases e
 | some c =>
  rw [hc] at e; cases e
  have hi:i<n:=by
   have:=(List.getElem?_eq_some_iff.mp hc).1
   rwa [List.length_range] at this
  have ec:c=i:=by
   rw [List.getElem?_range hi] at hc; exact (Option.some.inj hc).symm
  subst ec; refine ⟨hi,?_⟩
  rintro x H'' ⟨rfl,rfl⟩
  exact ⟨Hi',Ext.refl s2,.int _⟩
def zp2:D->Option (List D)
 | .lst ds=>some ds
 | .tup ds=>some ds
 | .str l=>some (l.map fun c=>.str [c])
 | _=>none
def zfQ (t:TE'):TI':=fun Γ Q=>t Γ fun d Γ1=>∃ ds,zp2 d=some ds/\Q ds Γ1
theorem zqs {l tg:Expr} {tl:TE} (hl:PE X l tl):PI X tg l (fun σ H R=>tl σ H fun x H1=>(∃ a,x=.ref a/\(∃ xs,SqL X.K H1 a xs)/\R (Itl X.K a) H1)\/(∃ a,x=.ref a/\(∃ xs,SqT X.K H1 a xs)/\R (Itt X.K a) H1)\/(∃ z,x=.str z/\R (Its z.cps.toList) H1)):=by
 intro pins s σ H R I h
 refine thn (hl pins s σ H _ I h) fun v s1 ⟨x,H1,I1,r1,q1⟩=>?_
 have fin:∀ b ∈ [s1.heap.objs.size],zhD X pins H1 b:=fun b hb=>by
  have e:b=s1.heap.objs.size:=by simpa using hb
  subst e; exact I1.fpOk (Nat.le_refl _) (I1.hok.fresh (Nat.le_refl _))
 rcases q1 with ⟨a,rfl,⟨xs,hq⟩,q⟩ | ⟨a,rfl,⟨xs,hq⟩,q⟩ | ⟨z,rfl,q⟩
 ·cases r1
  obtain ⟨its,rv,p,hz⟩:=I1.list hq; refine wpAny_pyIter_list p.isList ?_
  exact ⟨s1.heap.objs.size,[s1.heap.objs.size],_,_,H1,rfl,I1.kept (t':=s1.toks) fun b o e=>Heap.get?_push_of_some _ e,zlG a _,⟨_,Heap.get?_push_size _ rfl,rfl,rfl⟩,fin,q⟩
 ·cases r1
  obtain ⟨its,rv,p,hz⟩:=I1.tuple hq
  refine wpAny_pyIter_tuple (show s1.heap.IsTuple a its.toArray from p) ?_
  exact ⟨s1.heap.objs.size,[s1.heap.objs.size],_,_,H1,rfl,I1.kept (t':=s1.toks) fun b o e=>Heap.get?_push_of_some _ e,zkN a _,⟨_,Heap.get?_push_size _ rfl,rfl,rfl⟩,fin,q⟩
 ·obtain ⟨t,rfl⟩:=r1
  cases ha:z.cps.all (·<128)
  ·refine wpAny_pyIter_wide ha ?_
   exact ⟨s1.heap.objs.size,[s1.heap.objs.size],_,_,H1,rfl,I1.kept (t':=s1.toks) fun b o e=>Heap.get?_push_of_some _ e,zjR z t _ (.inr rfl),⟨_,Heap.get?_push_size _ rfl,rfl,rfl⟩,fin,q⟩
  ·refine wpAny_pyIter_ascii ha ?_
   exact ⟨s1.heap.objs.size,[s1.heap.objs.size],_,_,H1,rfl,I1.kept (t':=s1.toks) fun b o e=>Heap.get?_push_of_some _ e,zjR z t _ (.inl rfl),⟨_,Heap.get?_push_size _ rfl,rfl,rfl⟩,fin,q⟩
theorem zcj {l tg:Expr} {t:TE'} (hl:PE' X l t):PI' X tg l (zfQ t):=by
 refine ⟨PI.weak (zqs hl.h) ?_⟩
 rintro σ H R ⟨W,Hi,Γ,Q',g,h,fin⟩
 refine ⟨W,Hi,Γ,_,g,h,?_⟩
 rintro v H1 ⟨Hi1,d,Γ1,s1,g1,den,ds,e,q⟩
 cases d with
 | lst es =>
  cases e; obtain ⟨a,vs,rfl,h1,h2⟩:=den.lstI; exact .inl ⟨a,rfl,⟨vs,zE g1.sub h1⟩,fin _ H1 Hi1 Γ1 _ s1 g1 (zoS h1 h2) q⟩
 | tup es =>
  cases e; obtain ⟨a,vs,rfl,h1,h2⟩:=den.tupI; exact .inr (.inl ⟨a,rfl,⟨vs,zC g1.sub h1⟩,fin _ H1 Hi1 Γ1 _ s1 g1 (zrf h1 h2) q⟩)
 | str l =>
  cases e; refine .inr (.inr ⟨_,den.strI,?_⟩); rw [zV]; exact fin _ H1 Hi1 Γ1 _ s1 g1 (zrg l) q
 | _=>cases e
def zdr (t:TA'):TI':=fun Γ Q=>t Γ fun ds Γ1=>∃ j:Int,ds=[.int j]/\-(2 ^ 62)<=j/\j<2 ^ 62/\Q ((List.range j.toNat).map fun k=>.int (0+(k:Nat))) Γ1
theorem zeb {K:W.Frag} {H:Hp} {vs:List V} {d:D} (h:zaV K H vs [d]):∃ v,vs=[v]/\Den K H v d:=by
 cases h with
 | cons r t=>cases t; exact ⟨_,rfl,r⟩
theorem zlp {K:W.Frag} {H:Hp} {vs:List V} {d e:D} (h:zaV K H vs [d,e]):∃ v w,vs=[v,w]/\Den K H v d/\Den K H w e:=by
 cases h with
 | cons r t =>
  obtain ⟨w,rfl,q⟩:=zeb t; exact ⟨_,w,rfl,r,q⟩
theorem zc3 {a tg:Expr} {t:TA'} {p pos:Pos} (hm:X.mg "range"=none) (ha:PA' X [a] t) (hg:Gl X "range":=by rfl):PI' X tg (.Call (.Name "range" p) [a] [] pos) (zdr t):=by
 refine ⟨PI.weak (zmh hg hm ha.pa (zK (zM ha.pl).1)) ?_⟩
 rintro σ H R ⟨W,Hi,Γ,Q',g,h,fin⟩
 refine ⟨W,Hi,Γ,_,g,h,?_⟩
 rintro vs H1 Hi1 Γ1 ds s1 g1 dl ⟨j,rfl,b1,b2,q⟩
 obtain ⟨v,rfl,den⟩:=zeb dl; rw [den.intI]; exact ⟨j,rfl,b1,b2,fin _ H1 Hi1 Γ1 _ s1 g1 (zrh 0 _) q⟩
def znt (src:List (Option Nat)) (Γ:Sts):Sts:=src.map fun o=>match o with
 | none=>.emp
 | some i=>match Γ[i]? with
  | some (.val d)=>.val d
  | _=>.emp
def voS:Slot->Slot
 | .val d=>.val d
 | _=>.emp
def vo (Γ:Sts):Sts:=Γ.map voS
def zcW (g:TG') (tc:TT') (te:TE') (Q:List D->Prop):List D->List D->Sts->Prop
 | [],acc,_=>Q acc
 | d :: ds,acc,Γ=>g d Γ fun Γ2=>tc Γ2 fun b Γ3=>if b=true then te Γ3 fun y Γ4=>zcW g tc te Q ds (acc ++ [y]) (vo Γ4) else zcW g tc te Q ds acc (vo Γ3)
def zcq (ti:TI') (src:List (Option Nat)) (g:TG') (tc:TT') (te:TE'):TO':=fun Γ Q=>ti Γ fun ds Γ1=>ds.length<=sizeLine/\zcW g tc te (fun acc=>Q (.lst acc) Γ1) ds [] (znt src Γ1)
structure PTs' (X:Cx) (ifs:List Expr) (t:TT'):Prop where
 h:PTs X ifs (zrE X.K X.N.length t)
def zi1:TT':=fun Γ Q=>Q true Γ
theorem zeX:PTs' X [] zi1:=by
 refine ⟨?_⟩; intro pins s σ H Q I h; obtain ⟨W,Hi,Γ,Q',g,h,fin⟩:=h; exact zqi pins s σ H Q I (fin true H Hi Γ (zU.refl _) g h)
theorem zeW {c:Expr} {t:TT'} (h:PT' X c t):PTs' X [c] t:=⟨zqh h.h⟩
theorem zet {elt tg iter:Expr} {ifs:List Expr} {sc fsc:Scope} {ti:TI'} {g:TG'} {tc:TT'} {te:TE'} {N N':List Str} {src:List (Option Nat)} (B:Blk N N' src fsc sc) (hi:PI' X tg iter ti)
  (hg:∀ cl C s H fp pn,PG' (blk X N' sc cl C s H fp pn) tg g) (ht:∀ cl C s H fp pn,PTs' (blk X N' sc cl C s H fp pn) ifs tc) (he:∀ cl C s H fp pn,PE' (blk X N' sc cl C s H fp pn) elt te)
  (hx:X.xe=(fun _ _=>False):=by rfl) (hc:X.calm=true:=by rfl) (hN:X.N=N:=by rfl) (hs:X.env.scope=fsc:=by rfl)
  (hf:∀ x,foldedSetIterable iter X.env x=pure x:=by intro _; rfl):PO' X (.ListComp elt [⟨tg,iter,ifs,0⟩] sc pos) (zcq ti src g tc te):=by
 refine ⟨PE.weak (zqH (g:=gOf X.K N'.length g) (tc:=zrE X.K N'.length tc) (te:=tOf X.K N'.length te) B hi.h (fun a b c d e f=>(hg a b c d e f).h) (fun a b c d e f=>(ht a b c d e f).h) (fun a b c d e f=>(he a b c d e f).h) hx hc hN hs hf) ?_⟩
 rintro σ H Q2 ⟨W,Hi,Γ,Q,gd,h,fin⟩
 refine ⟨W,Hi,Γ,_,gd,h,?_⟩
 rintro J H1 Hi1 Γ1 ds s1 g1 itd ⟨hlen,q⟩
 intro A hA
 -- the state between two turns
 have hn':src.length=N'.length:=B.len
 refine ziN (n:=ds.length) (fun i σ' H'=>∃ Hi' acc vs Γ',zU Hi1 Hi'/\Fz Hi' H'/\(∀ b o,H1 b=some o->H' b=some o)/\(∀ b o,H1 b=some o->Hi' b=Hi1 b)/\Hi' A=none/\H' A=some (.lst vs)/\zaV X.K Hi' vs acc/\vs.length<=i/\σ'.length=N'.length /\
   (∀ (j:Nat) s,Γ'[j]?=some s->s=.emp\/∃ d,s=.val d/\∃ v,σ'[j]?=some (some v)/\Den X.K Hi' v d)/\zcW g tc te (fun acc=>Q (.lst acc) Γ1) (ds.drop i) acc Γ') ?_ ?_ ?_
 ·refine ⟨Hi1,[],[],znt src Γ1,zU.refl _,(Ext.newO g1.fz hA _ (fun _ z=>by cases z)).fz,fun b o e=>zO hA _ b o e,fun b o e=>rfl,g1.sub.free hA,zj,.nil,Nat.zero_le _,?_,fun j s e=>?_,by simpa using q⟩
  ·unfold znK; rw [List.length_map,hn']
  ·unfold znt at e
   rw [List.getElem?_map] at e
   cases hj:src[j]? with
   | none=>rw [hj] at e; cases e
   | some o =>
    rw [hj] at e
    cases o with
    | none=>cases e; exact .inl rfl
    | some i =>
     have e':(match Γ1[i]? with | some (.val d)=>Slot.val d | _=>.emp)=s:=Option.some.inj e
     cases hΓ:Γ1[i]? with
     | none=>rw [hΓ] at e'; exact .inl e'.symm
     | some sl =>
      rw [hΓ] at e'
      cases sl with
      | val d =>
       refine .inr ⟨d,e'.symm,?_⟩; obtain ⟨v,h1,h2⟩:=g1.val i d hΓ; refine ⟨v,?_,h2⟩; unfold znK; rw [List.getElem?_map,hj]
       show some ((some i).bind fun i=>(σ[i]?).join)=some (some v)
       show some ((σ[i]?).join)=some (some v)
       rw [h1]; rfl
      | emp=>exact .inl e'.symm
      | own o=>exact .inl e'.symm
      | bk _ _ _=>exact .inl e'.symm
 ·rintro i σ' H' hlt ⟨Hi',acc,vs,Γ',s2,s3,k1,k2,hA1,hA2,dl,hv,hl,hsl,q⟩
  have hd:ds.drop i=ds[i] :: ds.drop (i+1):=List.drop_eq_getElem_cons hlt
  rw [hd] at q; obtain ⟨go,yl⟩:=(itd Hi' H' s2 s3).1 i ds[i] (List.getElem?_eq_getElem hlt)
  refine ⟨go,fun x H'' y=>?_⟩
  obtain ⟨Hi'',ex,den⟩:=yl x H'' y
  have gb:Good X.K N'.length ⟨H'',Hi'',[]⟩ Hi'' Γ' σ' H'':=by
   refine ⟨hl,ex.fz,fun b o e _=>e,fun b o e=>⟨o,e⟩,fun b o e=>rfl,fun j d e=>?_,fun j o e=>?_,fun j k o o' b e=>?_,fun j d b xs e=>?_⟩
   ·rcases hsl j _ e with z | ⟨d',z,v,h1,h2⟩
    ·cases z
    ·cases z; exact ⟨v,h1,h2.mono ex.hi⟩
   ·rcases hsl j _ e with z | ⟨d',z,_⟩ <;> cases z
   ·rcases hsl j _ e with z | ⟨d',z,_⟩ <;> cases z
   ·rcases hsl j _ e with z | ⟨d',z,_⟩ <;> cases z
  refine ⟨⟨H'',Hi'',[]⟩,Hi'',Γ',ds[i],_,gb,den,q,?_⟩; intro σ3 H3 Hi3 Γ3 s4 g3 q3; refine ⟨⟨H'',Hi'',[]⟩,Hi3,Γ3,_,g3,q3,?_⟩; intro b H4 Hi4 Γ4 s5 g4 q4
  -- what the state is behind a turn
  have back:∀ {Γ5:Sts} {Hi5 H5:Hp},zU Hi4 Hi5->Good X.K N'.length ⟨H'',Hi'',[]⟩ Hi5 Γ5 σ3 H5 ->
    zU Hi1 Hi5/\Fz Hi5 H5/\(∀ b o,H1 b=some o->H5 b=some o)/\(∀ b o,H1 b=some o->Hi5 b=Hi1 b)/\Hi5 A=none/\H5 A=some (.lst vs)/\zU Hi' Hi5:=fun {Γ5 Hi5 H5} s6 g5=>by
   have sx:zU Hi' Hi5:=ex.hi.trans (s4.trans (s5.trans s6))
   have hA3:H'' A=some (.lst vs):=ex.h _ _ hA2
   refine ⟨s2.trans sx,g5.fz,fun b o e=>g5.keep b o (ex.h _ _ (k1 b o e)) (by simp),fun b o e=>?_,?_,g5.keep A _ hA3 (by simp),sx⟩
   ·rw [g5.fro b o (ex.h _ _ (k1 b o e))]
    show Hi'' b=Hi1 b
    rw [ex.fro b o (k1 b o e),k2 b o e]
   ·rw [g5.fro A _ hA3]
    show Hi'' A=none
    rw [ex.fro A _ hA2,hA1]
  have sl:∀ {Γ5:Sts} {Hi5 H5:Hp},Good X.K N'.length ⟨H'',Hi'',[]⟩ Hi5 Γ5 σ3 H5->∀ (j:Nat) s,(vo Γ5)[j]?=some s->s=.emp\/∃ d,s=.val d/\∃ v,σ3[j]?=some (some v)/\Den X.K Hi5 v d:=fun {Γ5 Hi5 H5} g5 j s e=>by
   unfold vo at e; rw [List.getElem?_map] at e
   cases hj:Γ5[j]? with
   | none=>rw [hj] at e; cases e
   | some sl =>
    rw [hj] at e
    cases sl with
    | val d =>
     cases e; exact .inr ⟨d,rfl,g5.val j d hj⟩
    | emp=>cases e; exact .inl rfl
    | own o=>cases e; exact .inl rfl
    | bk _ _ _=>cases e; exact .inl rfl
  cases b with
  | false =>
   simp only [Bool.false_eq_true,if_false] at q4 ⊢; obtain ⟨b1,b2,b3,b4,b5,b6,b7⟩:=back (zU.refl _) g4
   exact ⟨Hi4,acc,vs,vo Γ4,b1,b2,b3,b4,b5,b6,dl.mono b7,by omega,g4.len,sl g4,q4⟩
  | true =>
   simp only [if_true] at q4 ⊢; refine ⟨⟨H'',Hi'',[]⟩,Hi4,Γ4,_,g4,q4,?_⟩
   rintro y' H5 ⟨Hi5,dy,Γ5,s6,g5,den5,q5⟩
   obtain ⟨b1,b2,b3,b4,b5,b6,b7⟩:=back s6 g5
   refine ⟨vs,b6,by omega,Hi5,acc ++ [dy],vs ++ [y'],vo Γ5,b1,?_,?_,b4,b5,zj,zah (dl.mono b7) (.cons den5 .nil),by rw [List.length_append]; simp; omega,g5.len,sl g5,q5⟩
   ·refine ⟨fun b o e=>?_,fun b xs e=>?_⟩
    ·rw [zq (fun z=>by rw [z,b5] at e; cases e)]
     exact b2.sub b o e
    ·by_cases hb:b=A
     ·subst hb; rw [zj] at e; cases e
     ·rw [zq hb] at e; exact b2.tups b xs e
   ·intro b o e
    rw [zq (zI e hA)]; exact b3 b o e
 ·rintro σ' H' ⟨Hi',acc,vs,Γ',s2,s3,k1,k2,hA1,hA2,dl,hv,hl,hsl,q⟩
  refine ⟨(itd Hi' H' s2 s3).2,?_⟩; rw [List.drop_eq_nil_of_le (Nat.le_refl _)] at q
  have ex:Ext Hi1 H1 Hi' H':=⟨s2,k1,s3,k2⟩
  refine fin A H' Hi' Γ1 (.lst acc) (s1.trans s2) (g1.ext ex) ⟨hA1,?_,⟨fun j o' e z=>?_,fun j d xs e=>?_⟩,vs,hA2,dl⟩ q
  ·cases hq:W.H₀ A with
   | none=>rfl
   | some w =>
    obtain ⟨w',hw⟩:=g1.there A w hq
    rw [hA] at hw; cases hw
  ·obtain ⟨a,h1,_,_,h4⟩:=g1.own j o' e
   rw [z] at h1; cases h1; obtain ⟨w,hw⟩:=h4.there
   rw [hA] at hw; cases hw
  ·obtain ⟨w,hw⟩:=(g1.bk j d A xs e).at_.there
   rw [hA] at hw; cases hw
abbrev Sp':=List D->(Res->Prop)->Prop
def zlU (K:W.Frag) (sp:Sp'):Sp:=fun vs H Q2 _=>∃ Hi ds Q,Fz Hi H/\zaV K Hi vs ds/\sp ds Q/\∀ Hi' H' v r,Ext Hi H Hi' H'->ztG K H Hi' H' v r->Q r->Q2 v H'
def zbe (sp:Sp') (t:TA'):TE':=fun Γ Q=>t Γ fun ds Γ1=>sp ds fun r=>Q r.toD Γ1
def zb5 (sp:Sp') (t:TA'):TO':=fun Γ Q=>t Γ fun ds Γ1=>sp ds fun r=>∃ o,r=.own o/\Q o Γ1
variable {k:Nat} {f:Addr} {fd:FuncData} {ps:List Str} {sp:Sp'} {x:Str} {p:Pos} {e:Expr} {es:List Expr} {t:TA'}
theorem zeT {K:W.Frag} {n:Nat} {W:Wd} {Hi H Hi' H':Hp} {Γ:Sts} {σ:St} {a:Addr} {o:OD} (g:Good K n W Hi Γ σ H) (ex:Ext Hi H Hi' H') (h1:Hi' a=none) (h2:H a=none) (h3:zaU K Hi' H' a o):New K n W Hi' Γ σ H' a o:=by
 refine ⟨h1,?_,⟨fun j o' e z=>?_,fun j d xs e=>?_⟩,h3⟩
 ·cases q:W.H₀ a with
  | none=>rfl
  | some w =>
   obtain ⟨w',hw⟩:=g.there a w q
   rw [h2] at hw; cases hw
 ·obtain ⟨b,q1,_,_,q4⟩:=g.own j o' e
  rw [z] at q1; cases q1; obtain ⟨w,hw⟩:=q4.there
  rw [h2] at hw; cases hw
 ·obtain ⟨w,hw⟩:=(g.bk j d a xs e).at_.there
  rw [h2] at hw; cases hw
theorem zoj (F:FnOk X.prog X.w X.K X.mg X.base CX0 k f fd ps (zlU X.K sp)) (hr:Room k X.A) (hm:X.mg x=some (.ref f)) (hk:W.keepIn X.K (.ref f)=true) (hb:zbi X.K fd ps [])
  (ha:PA' X (e :: es) t) (hg:Gl X x:=by rfl) (hdb:(x == ("__debug__":Str))=false:=by decide) :
  PE' X (.Call (.Name x p) (e :: es) [] pos) (zbe sp t):=by
 refine ⟨PE.weak (zjm (E:=E0) (dvs:=[]) F hr hg hm hk hb .nil zml ha.pa hdb (zK (zM ha.pl).1) (zay (zM ha.pl).2)) ?_⟩
 rintro σ H Q ⟨W,Hi,Γ,Q',g,h,fin⟩
 refine ⟨W,Hi,Γ,_,g,h,?_⟩; intro vs H1 Hi1 Γ1 ds s1 g1 dl q; rw [List.append_nil]; refine ⟨Hi1,ds,_,g1.fz,dl,q,?_⟩; intro Hi2 H2 v r ex ro q2
 cases r with
 | val d=>exact fin v H2 ⟨Hi2,d,Γ1,s1.trans ex.hi,g1.ext ex,ro,q2⟩
 | own o =>
  obtain ⟨a,rfl,h1,h2,h3⟩:=ro; have nw:=zeT g1 ex h1 h2 h3; obtain ⟨u,hu⟩:=h3.there; exact fin _ H2 ⟨upd Hi2 a u,_,Γ1,s1.trans (ex.hi.trans (zO h1 u)),(g1.ext ex).freezeA nw.hi nw.h0 nw.ne hu,h3.den h1 hu,q2⟩
 | bk d o =>
  obtain ⟨b,dv,hol,h1,h2,h3⟩:=ro; have nw:=zeT g1 ex h1 h2 h3; obtain ⟨u,hu⟩:=h3.there; exact fin _ H2 ⟨upd Hi2 b u,_,Γ1,s1.trans (ex.hi.trans (zO h1 u)),(g1.ext ex).freezeA nw.hi nw.h0 nw.ne hu,hol b _ v o (h3.den h1 hu) (dv.mono (zO h1 u)),q2⟩
end
def zcr (N:List Str) (ds:List D):Sts:=ds.map .val ++ List.replicate (N.length-ds.length) .emp
section
variable {P:Program} {w:World} {K:W.Frag} {mg:Str->Option Value} {base:Heap}
theorem Fun.ok' {x qual:Str} {st:Stmt} {f:Addr} {fd:FuncData} {N ps:List Str} {k:Nat} {sp:Sp'} (F:Fun K x qual st f fd) (S:FnScope N ps (zf st)) (len:∀ ds Q,sp ds Q->ds.length=ps.length)
  (hbody:∀ (cdv:Value) (A:Around) (outer:List Env) (s:Shared) (H:Hp) (E:XK),Room k (A.deeper (PyProof.Rows.envOfC qual (zf st) s.heap.objs.size f cdv))->∀ ds Q,sp ds Q ->
   ∃ t,PSs' (zhF CX0 P w K mg base N qual (zf st) f cdv A outer s H E).nox (zG st) t/\t { nx:=fun _=>Q (.val .non),rt:=fun r _=>Q r } (zcr N ds)):FnOk P w K mg base CX0 (k+1) f fd ps (zlU K sp):=by
 refine F.ok S (fun vs H Q E h=>?_) (fun cdv A outer s H vs Q E hr h=>?_)
 ·obtain ⟨Hi,ds,Q',_,dl,h,_⟩:=h
  rw [zg dl]; exact len ds Q' h
 obtain ⟨Hi,ds,Q',sb,dl,h,fin⟩:=h; obtain ⟨t,h1,h2⟩:=hbody cdv A outer s H E hr ds Q' h
 have hlen:ds.length=ps.length:=len ds Q' h
 have hpl:ps.length<=N.length:=by have:=congrArg List.length S.pre; rw [List.length_take] at this; omega
 have hvl:=zg dl; refine ⟨_,h1.h,⟨H,Hi,[]⟩,Hi,zcr N ds,_,?_,h2,?_⟩
 ·refine ⟨?_,sb,fun b o e _=>e,fun b o e=>⟨o,e⟩,fun b o e=>rfl,fun j d e=>?_,fun j o e=>?_,fun j k o o' b e=>?_,fun j d b xs e=>?_⟩
  ·unfold L2.start
   show _=N.length
   rw [List.length_append,List.length_map,List.length_replicate]; omega
  all_goals
   unfold zcr at e
   by_cases hj:j<ds.length
   ·rw [List.getElem?_append_left (by simpa using hj),List.getElem?_map,List.getElem?_eq_getElem hj] at e
    try cases e
    try
     obtain ⟨v,e1,e2⟩:=zQ dl (List.getElem?_eq_getElem hj); refine ⟨v,?_,e2⟩; unfold L2.start
     rw [List.getElem?_append_left (by rw [List.length_map]; omega),List.getElem?_map,e1]
     rfl
   ·rw [List.getElem?_append_right (by simpa using hj),List.getElem?_replicate] at e
    split at e <;> cases e
 ·refine ⟨fun σ' H' Hi' Γ' s1 g1 q=>?_,fun _ _ _ _ _ _ q=>q.elim,fun _ _ _ _ _ _ q=>q.elim,fun v σ' H' Hi' Γ' r s1 g1 ro q=>?_⟩
  ·exact fin Hi' H' .non (.val .non) ⟨s1,fun b o e=>g1.keep b o e (by simp),g1.fz,fun b o e=>g1.fro b o e⟩ .non q
  ·exact fin Hi' H' v r ⟨s1,fun b o e=>g1.keep b o e (by simp),g1.fz,fun b o e=>g1.fro b o e⟩ ro q
end
end PL
namespace L2
open PySem PySem.Spec PyProof.Rows
section
variable {X:Cx}
theorem zl3 (r:Addr) (a b:Int) (t u v:Tok) (i:Int) (t':Tok):Meets (Builtin.«range.__contains__» ⟨[.ref r,.int i t'],[]⟩) (fun _ R s=>s.heap.get? r=some { cls:=.type "range",dict:=none,data:=.fields #[.int a t,.int b u,.int 1 v],slots:=#[] } /\
  R (.ok (.ret (.bool (Builtin.Range.rangePlace? a b 1 i).isSome))) s) :=
 .of_wp fun prog w A R s h=>by obtain ⟨hp,g,d,tk,os⟩:=s; obtain ⟨hl,h⟩:=h; wp_walk; exact ⟨_,rfl,h⟩
theorem zk6 (a b i:Int):(Builtin.Range.rangePlace? a b 1 i).isSome=decide (a<=i/\i<b):=by
 unfold Builtin.Range.rangePlace?
 have h1:(1:Int) > 0:=by decide
 have h2:(i-a) % 1=0:=Int.emod_one _
 simp only [h1,if_true,h2,beq_self_eq_true,Bool.and_true]
 by_cases h:a<=i/\i<b
 ·have e:(decide (a<=i) && decide (i<b))=true:=by simp [h.1,h.2]
  rw [if_pos e,decide_eq_true h]; rfl
 ·have e:¬ (decide (a<=i) && decide (i<b))=true:=by
   intro z; simp only [Bool.and_eq_true,decide_eq_true_eq] at z; exact h z
  rw [if_neg e,decide_eq_false h]; rfl
def zwz (neg:Bool):R2:=fun x y H Q=>∃ i p lo hi,x=.int i/\y=.ref p/\Rd H p (.rng lo hi)/\Q (.bl (if neg then !decide (lo<=i/\i<hi) else decide (lo<=i/\i<hi))) H
theorem zh9:OpR X (compareOp .NotIn) (zwz true):=by
 intro pins s σ H x y v u Q I rx ry h; obtain ⟨i,p,lo,hi,rfl,rfl,hp,q⟩:=h; obtain ⟨t,rfl⟩:=rx; cases ry; obtain ⟨t1,t2,t3,e⟩:=hp.ok I.hok; refine PySem.SeqRoads2.notIn_meets ⟨_,e,rfl⟩ F.slot_range_contains F.entry_range_contains (F.args_range_contains_2 _ _) (zl3 p lo hi t1 t2 t3 i t) ⟨e,_,rfl,⟨.bl _,H,I,rfl,?_⟩⟩; rw [zk6]; exact q
def ztK (K:W.Frag) (H:Hp):V->String->Prop
 | .non,t=>t="NoneType"
 | .bl _,t=>t="bool"
 | .int _,t=>t="int"
 | .str _,t=>t="str"
 | .ref a,t=>(t="list"/\∃ xs,SqL K H a xs)\/(t="tuple"/\∃ xs,SqT K H a xs)\/(t="dict"/\((∃ kvs,Rd H a (.dK kvs))\/∃ kvs,Rd H a (.dT kvs)))
 | _,_=>False
end
end L2
namespace PL
open PySem L2
section
variable {X:Cx} {K:W.Frag}
theorem zhj {g:Int->Int->V} (g':Int->Int->D) (hg:∀ i j Hi,Den K Hi (g i j) (g' i j)):zjM K (rI0 g) (fun x y Q=>∃ i j,x=.int i/\y=.int j/\Q (g' i j)):=by
 rintro Hi H x y dx dy Q Q2 s d1 d2 ⟨i,j,rfl,rfl,q⟩ fin
 exact ⟨i,j,d1.intI,d2.intI,fin Hi H _ _ (Ext.refl s) (hg i j Hi) q⟩
theorem zkl {C:Int->Int->Prop} {g:Int->Int->V} (g':Int->Int->D) (hg:∀ i j Hi,Den K Hi (g i j) (g' i j)):zjM K (rI C g) (fun x y Q=>∃ i j,x=.int i/\y=.int j/\C i j/\Q (g' i j)):=by
 rintro Hi H x y dx dy Q Q2 s d1 d2 ⟨i,j,rfl,rfl,c,q⟩ fin
 exact ⟨i,j,d1.intI,d2.intI,c,fin Hi H _ _ (Ext.refl s) (hg i j Hi) q⟩
def zqc (g:Int->Int->D):R2':=fun x y Q=>∃ i j,x=.int i/\y=.int j/\Q (g i j)
def rI' (C:Int->Int->Prop) (g:Int->Int->D):R2':=fun x y Q=>∃ i j,x=.int i/\y=.int j/\C i j/\Q (g i j)
theorem zvc:Op2 X (binaryOp .Add) (zqc fun i j=>.int (i+j)):=⟨_,zsX,zhj _ fun i j _=>.int _⟩
theorem zqV:Op2 X (binaryOp .Sub) (zqc fun i j=>.int (i-j)):=⟨_,zsQ,zhj _ fun i j _=>.int _⟩
theorem zu7:Op2 X (binaryOp .Mult) (rI' zpa fun i j=>.int (i * j)):=⟨_,zsS,zkl _ fun i j _=>.int _⟩
theorem zaN:Op2 X (binaryOp .FloorDiv) (rI' zni fun i j=>.int (i / j)):=⟨_,zqQ,zkl _ fun i j _=>.int _⟩
theorem zbl:Op2 X (binaryOp .Mod) (rI' (fun _ j=>0<j) fun i j=>.int (i % j)):=⟨_,zsT,zkl _ fun i j _=>.int _⟩
theorem zs1:Op2 X (compareOp .Lt) (zqc fun i j=>.bl (decide (i<j))):=⟨_,zu2,zhj _ fun i j _=>.bl _⟩
theorem zs2:Op2 X (compareOp .Gt) (zqc fun i j=>.bl (decide (j<i))):=⟨_,zu3,zhj _ fun i j _=>.bl _⟩
def zjj:R2':=fun x y Q=>∃ l m,x=.str l/\y=.str m/\l.length+m.length<=sizeLine/\Q (.str (l ++ m))
theorem zs4:Op2 X (binaryOp .Add) zjj:=⟨_,zk7,by
 rintro Hi H x y dx dy Q Q2 s d1 d2 ⟨l,m,rfl,rfl,hl,q⟩ fin
 refine ⟨_,_,d1.strI,d2.strI,by rw [zbF,zbF]; exact hl,?_⟩
 rw [zr4]; exact fin Hi H _ _ (Ext.refl s) (.str _) q⟩
def eqS:D->D->Option Bool
 | .non,.non=>some true
 | .non,.int _=>some false
 | .non,.bl _=>some false
 | .non,.str _=>some false
 | .int _,.non=>some false
 | .bl _,.non=>some false
 | .str _,.non=>some false
 | .int i,.int j=>some (decide (i=j))
 | .bl i,.bl j=>some (decide (i=j))
 | .str i,.str j=>some (decide (i=j))
 | .int _,.str _=>some false
 | .str _,.int _=>some false
 | .bl _,.str _=>some false
 | .str _,.bl _=>some false
 | _,_=>none
inductive Scl (K:W.Frag) (Hi:Hp) (x:V):D->Prop where
 | n (h:x=.non):Scl K Hi x .non
 | b (b:Bool) (h:x=.bl b):Scl K Hi x (.bl b)
 | i (i:Int) (h:x=.int i):Scl K Hi x (.int i)
 | s (l:List Nat) (h:x=.str (st l)):Scl K Hi x (.str l)
theorem zd9 {dx dy:D} {b:Bool} (h:eqS dx dy=some b):dx=.non\/(∃ b,dx=.bl b)\/(∃ i,dx=.int i)\/∃ l,dx=.str l:=by
 cases dx with
 | non=>exact .inl rfl
 | bl b=>exact .inr (.inl ⟨b,rfl⟩)
 | int i=>exact .inr (.inr (.inl ⟨i,rfl⟩))
 | str l=>exact .inr (.inr (.inr ⟨l,rfl⟩))
 | _=>cases dy <;> exact nomatch h
theorem zmM (dx dy:D) {b:Bool} (h:eqS dx dy=some b):∃ c,eqS dy dx=some c:=by
 rcases zd9 h with rfl | ⟨i,rfl⟩ | ⟨i,rfl⟩ | ⟨i,rfl⟩ <;> cases dy <;> first | exact ⟨_,rfl⟩ | exact nomatch h
theorem Den.scl {Hi:Hp} {x:V} {d:D} (d1:Den K Hi x d) (h:d=.non\/(∃ b,d=.bl b)\/(∃ i,d=.int i)\/∃ l,d=.str l):Scl K Hi x d:=by
 rcases h with rfl | ⟨i,rfl⟩ | ⟨i,rfl⟩ | ⟨i,rfl⟩
 ·exact .n d1.nonI
 ·exact .b _ d1.blI
 ·exact .i _ d1.intI
 ·exact .s _ d1.strI
theorem zpG {Hi:Hp} {x y:V} {dx dy:D} {b:Bool} (d1:Den K Hi x dx) (d2:Den K Hi y dy) (h:eqS dx dy=some b):zp3 x y=true/\decide (x=y)=b:=by
  have s1:=d1.scl (zd9 h); have s2:=d2.scl (zd9 (zmM _ _ h).choose_spec)
  cases s1 <;> rename_i e1 <;> subst e1 <;> cases s2 <;> rename_i e2 <;> subst e2 <;> first
    | (exact absurd (show (none:Option Bool)=some b from h) (fun z=>nomatch z))
    | (refine ⟨rfl,?_⟩
       have h':=Option.some.inj h
       subst h'
       first
         | rfl
         | (exact decide_eq_decide.mpr ⟨fun z=>V.int.inj z,fun z=>congrArg V.int z⟩)
         | (exact decide_eq_decide.mpr ⟨fun z=>V.bl.inj z,fun z=>congrArg V.bl z⟩)
         | (exact decide_eq_decide.mpr ⟨fun z=>st_inj (V.str.inj z),fun z=>congrArg (fun l=>V.str (st l)) z⟩)
         | (exact decide_eq_false (fun z=>nomatch z)))
def znT (neg:Bool):R2':=fun x y Q=>∃ c l,x=.str [c]/\y=.str l/\Q (.bl (if neg then !decide (c ∈ l) else decide (c ∈ l)))
theorem zva:Op2 X (compareOp .In) (znT false):=⟨_,zmn,by
 rintro Hi H x y dx dy Q Q2 s d1 d2 ⟨c,l,rfl,rfl,q⟩ fin
 refine ⟨_,_,d1.strI,d2.strI,?_⟩; rw [zpE]; exact fin Hi H _ _ (Ext.refl s) (.bl _) q⟩
theorem zon:Op2 X (compareOp .NotIn) (znT true):=⟨_,zh7,by
 rintro Hi H x y dx dy Q Q2 s d1 d2 ⟨c,l,rfl,rfl,q⟩ fin
 refine ⟨_,_,d1.strI,d2.strI,?_⟩; rw [zpE]; exact fin Hi H _ _ (Ext.refl s) (.bl _) q⟩
def znU (neg:Bool):R2':=fun x y Q=>∃ i lo hi,x=.int i/\y=.rng lo hi/\Q (.bl (if neg then !decide (lo<=i/\i<hi) else decide (lo<=i/\i<hi)))
theorem zoo:Op2 X (compareOp .NotIn) (znU true):=⟨_,zh9,by
 rintro Hi H x y dx dy Q Q2 s d1 d2 ⟨i,lo,hi,rfl,rfl,q⟩ fin
 cases d2 with
 | rng h=>exact ⟨i,_,lo,hi,d1.intI,rfl,zeq s.sub h,fin Hi H _ _ (Ext.refl s) (.bl _) q⟩⟩
def zeE (neg:Bool):R2':=fun x y Q=>y=.non/\∃ b:Bool,(b=true↔x=.non)/\Q (.bl (if neg then !b else b))
theorem zfA:Op2 X (compareOp .Is) (zeE false):=⟨_,zsV,by
 rintro Hi H x y dx dy Q Q2 s d1 d2 ⟨rfl,b,e,q⟩ fin
 refine ⟨d2.nonI,?_⟩
 have z:decide (x=.non)=b:=by
  rw [Bool.eq_iff_iff,e,decide_eq_true_eq]; exact d1.non_iff
 rw [z]; exact fin Hi H _ _ (Ext.refl s) (.bl _) q⟩
theorem zhg:Op2 X (compareOp .IsNot) (zeE true):=⟨_,zqO,by
 rintro Hi H x y dx dy Q Q2 s d1 d2 ⟨rfl,b,e,q⟩ fin
 refine ⟨d2.nonI,?_⟩
 have z:decide (x=.non)=b:=by
  rw [Bool.eq_iff_iff,e,decide_eq_true_eq]; exact d1.non_iff
 rw [z]; exact fin Hi H _ _ (Ext.refl s) (.bl _) q⟩
def znk:R2':=fun x y Q=>∃ i,y=.int i/\((∃ ds d,x=.lst ds/\atI ds i=some d/\Q d)\/(∃ ds d,x=.tup ds/\atI ds i=some d/\Q d)\/∃ l c,x=.str l/\l.length<=sizeLine/\atI l i=some c/\Q (.str [c]))
theorem znf {Hi:Hp} {vs:List V} {ds:List D} {i:Int} {d:D} (r:zaV K Hi vs ds) (h:atI ds i=some d):∃ v,atI vs i=some v/\Den K Hi v d:=by
 unfold atI at h ⊢
 rw [zg r]
 cases e:ixN ds.length i with
 | none=>rw [e] at h; cases h
 | some j =>
  rw [e] at h
  obtain ⟨v,h1,h2⟩:=zQ r (show ds[j]?=some d from h)
  exact ⟨v,h1,h2⟩
theorem zvj:Ixs X znk:=⟨_,ztj,by
 rintro Hi H x y dx dy Q Q2 s d1 d2 ⟨i,rfl,h⟩ fin
 rcases h with ⟨ds,d,rfl,e,q⟩ | ⟨ds,d,rfl,e,q⟩ | ⟨l,c,rfl,hl,e,q⟩
 ·obtain ⟨a,vs,rfl,h1,h2⟩:=d1.lstI
  obtain ⟨v,h3,h4⟩:=znf h2 e; exact .inl ⟨a,vs,i,v,rfl,d2.intI,zE s.sub h1,h3,fin Hi H _ _ (Ext.refl s) h4 q⟩
 ·obtain ⟨a,vs,rfl,h1,h2⟩:=d1.tupI
  obtain ⟨v,h3,h4⟩:=znf h2 e; exact .inr (.inl ⟨a,vs,i,v,rfl,d2.intI,zC s.sub h1,h3,fin Hi H _ _ (Ext.refl s) h4 q⟩)
 ·refine .inr (.inr ⟨_,i,c,d1.strI,d2.intI,by rw [zbF]; exact hl,by rw [zV]; exact e,fin Hi H _ _ (Ext.refl s) (.str [c]) q⟩)⟩
def zdt {α:Type} (xs:List α) (lo hi:Option Int):List α:=(xs.drop (HT.sIx xs.length 0 lo)).take (HT.sIx xs.length xs.length hi-HT.sIx xs.length 0 lo)
def zk1:RS':=fun x lo hi Q=>∃ l,x=.str l/\l.length<=sizeLine/\((lo=none/\∃ n,hi=some n/\0<=n/\Q (.str (l.take n.toNat)))\/(hi=none/\∃ n,lo=some n/\0<=n/\Q (.str (l.drop n.toNat))))
theorem zuF:Sli X zk1:=⟨_,zr9,by
 rintro Hi H x dx lo hi Q Q2 s d1 ⟨l,rfl,hl,h⟩ fin
 refine ⟨st l,d1.strI,by rw [zbF]; exact hl,?_⟩
 rcases h with ⟨rfl,n,rfl,hn,q⟩ | ⟨rfl,n,rfl,hn,q⟩
 ·obtain ⟨m,rfl⟩:=Int.eq_ofNat_of_zero_le hn
  rw [znJ]; exact fin Hi H _ _ (Ext.refl s) (.str _) q
 ·obtain ⟨m,rfl⟩:=Int.eq_ofNat_of_zero_le hn
  rw [zkW]; exact fin Hi H _ _ (Ext.refl s) (.str _) q⟩
def zhZ:RS':=fun x lo hi Q=>∃ ds,x=.tup ds/\Q (.tup (zdt ds lo hi))
def zk2:RS':=fun x lo hi Q=>∃ ds,x=.lst ds/\Q (.lst (zdt ds lo hi))
theorem zm1 {Hi:Hp} {vs:List V} {ds:List D} {lo hi:Option Int} (r:zaV K Hi vs ds):zaV K Hi (zm2 vs lo hi) (zdt ds lo hi):=by
 unfold zm2 zdt; rw [zg r]; exact zfr _ (zfs _ r)
theorem zsb:Sli X zk2:=⟨_,zp0,by
 rintro Hi H x dx lo hi Q Q2 s d1 ⟨ds,rfl,q⟩ fin
 obtain ⟨a,vs,rfl,h1,h2⟩:=d1.lstI
 refine ⟨a,vs,rfl,zE s.sub h1,fun p hp=>?_⟩
 have e:=Ext.new s hp (.lst (zm2 vs lo hi)); exact fin _ _ _ _ e (Den.mkL (SqL.of zj) (zm1 (h2.mono e.hi))) q⟩
def zgc:RC':=fun ds Q=>∃ d,ds=[d]/\((∃ l,d=.str l/\l.length<=sizeLine/\Q (.int (l.length:Nat)))\/(∃ es,d=.lst es/\Q (.int (es.length:Nat)))\/∃ es,d=.tup es/\Q (.int (es.length:Nat)))
theorem zvB:Cal X (.builtin "len") zgc:=⟨_,ziT.or ziU,by
 rintro Hi H vs ds Q Q2 s dl ⟨d,rfl,h⟩ fin
 obtain ⟨v,rfl,den⟩:=zeb dl
 rcases h with ⟨l,rfl,hl,q⟩ | ⟨es,rfl,q⟩ | ⟨es,rfl,q⟩
 ·refine .inl ⟨_,by rw [den.strI],by rw [zbF]; exact hl,?_⟩
  rw [zbF]; exact fin Hi H _ _ (Ext.refl s) (.int _) q
 ·obtain ⟨a,us,rfl,h1,h2⟩:=den.lstI
  refine .inr ⟨a,us,rfl,.inl (zE s.sub h1),?_⟩; rw [zg h2]; exact fin Hi H _ _ (Ext.refl s) (.int _) q
 ·obtain ⟨a,us,rfl,h1,h2⟩:=den.tupI
  refine .inr ⟨a,us,rfl,.inr (zC s.sub h1),?_⟩; rw [zg h2]; exact fin Hi H _ _ (Ext.refl s) (.int _) q⟩
def zso:RC':=fun ds Q=>∃ l n,ds=[.str l]/\PySem.intText? (st l)=some n/\l.length<=640/\Q (.int n)
theorem zvC:Cal X (.type "int") zso:=⟨_,ziV,by
 rintro Hi H vs ds Q Q2 s dl ⟨l,n,rfl,e,hl,q⟩ fin
 obtain ⟨v,rfl,den⟩:=zeb dl
 exact ⟨_,n,by rw [den.strI],e,by rw [zbF]; exact hl,fin Hi H _ _ (Ext.refl s) (.int _) q⟩⟩
def zfB (i:Int):List Nat:=(Str.ofString (toString i)).cps.toList
def zk0:RC':=fun ds Q=>∃ i,ds=[.int i]/\i.natAbs.log2<1920/\Q (.str (zfB i))
theorem zty:Cal X (.type "str") zk0:=⟨_,ziP,by
 rintro Hi H vs ds Q Q2 s dl ⟨i,rfl,hl,q⟩ fin
 obtain ⟨v,rfl,den⟩:=zeb dl
 refine ⟨i,by rw [den.intI],hl,?_⟩
 refine fin Hi H _ (.str (zfB i)) (Ext.refl s) ?_ q
 have e:(V.str (toString i))=.str (st (zfB i)):=by
  unfold zfB; rw [<- zr3]
 rw [e]; exact .str _⟩
def zqa:RC':=fun ds Q=>∃ i j,ds=[.int i,.int j]/\Q (.int (if j<i then j else i))
theorem ztz (hc:X.calm=true):Cal X (.builtin "min") zqa:=⟨_,zm8 hc,by
 rintro Hi H vs ds Q Q2 s dl ⟨i,j,rfl,q⟩ fin
 obtain ⟨v,w,rfl,d1,d2⟩:=zlp dl
 exact ⟨i,j,by rw [d1.intI,d2.intI],fin Hi H _ _ (Ext.refl s) (.int _) q⟩⟩
def zqb:RC':=fun ds Q=>∃ i j,ds=[.int i,.int j]/\Q (.int (if j > i then j else i))
theorem ztA (hc:X.calm=true):Cal X (.builtin "max") zqb:=⟨_,zm9 hc,by
 rintro Hi H vs ds Q Q2 s dl ⟨i,j,rfl,q⟩ fin
 obtain ⟨v,w,rfl,d1,d2⟩:=zlp dl
 exact ⟨i,j,by rw [d1.intI,d2.intI],fin Hi H _ _ (Ext.refl s) (.int _) q⟩⟩
def zj3:RC':=fun ds Q=>∃ d es,ds=[d]/\(d=.lst es\/d=.tup es)/\Q (.tup es)
theorem zeB:Cal X (.type "tuple") zj3:=⟨_,zhB,by
 rintro Hi H vs ds Q Q2 s dl ⟨d,es,rfl,h,q⟩ fin
 obtain ⟨v,rfl,den⟩:=zeb dl
 rcases h with rfl | rfl
 ·obtain ⟨a,us,rfl,h1,h2⟩:=den.lstI
  refine ⟨a,us,rfl,.inl ⟨zE s.sub h1,fun l hl=>?_⟩⟩
  have e:=Ext.new s hl (.tup us); exact fin _ _ _ _ e (Den.mkT zj (h2.mono e.hi)) q
 ·obtain ⟨a,us,rfl,h1,h2⟩:=den.tupI
  exact ⟨a,us,rfl,.inr ⟨zC s.sub h1,fin Hi H _ _ (Ext.refl s) den q⟩⟩⟩
def zq9:D->Option String
 | .non=>some "NoneType"
 | .bl _=>some "bool"
 | .int _=>some "int"
 | .str _=>some "str"
 | .lst _=>some "list"
 | .tup _=>some "tuple"
 | .dic _=>some "dict"
 | _=>none
theorem zoP {Hi H:Hp} {x:V} {d:D} {t:String} (s:zU Hi H) (den:Den K Hi x d) (h:zq9 d=some t):ztK K H x t:=by
 cases den with
 | non=>exact (Option.some.inj h).symm
 | bl b=>exact (Option.some.inj h).symm
 | int i=>exact (Option.some.inj h).symm
 | str l=>exact (Option.some.inj h).symm
 | ty n=>cases h
 | adr b=>cases h
 | rng h'=>cases h
 | tup hq l r=>exact .inr (.inl ⟨(Option.some.inj h).symm,_,SqT.of (s _ _ hq)⟩)
 | lst hq l r=>exact .inl ⟨(Option.some.inj h).symm,_,zE s hq⟩
 | dicK hq l r r2=>exact .inr (.inr ⟨(Option.some.inj h).symm,.inl ⟨_,zeq s hq⟩⟩)
 | dicT hq l r r2=>cases h
 | cls C=>cases h
 | obj hq l r r2=>cases h
 | excN hq=>cases h
 | exc hq h2 l r r2=>cases h
def zjc:RM':=fun x ds Q=>∃ l y,x=.str l/\ds=[.str y]/\l.length<=sizeLine/\Q (.str (Txt.rstripChars (st l) (st y)).cps.toList)
theorem zox:Met X "str" "str.rstrip" zjc:=⟨_,zms,by
 rintro Hi H x vs dx ds Q Q2 s d1 dl ⟨l,y,rfl,rfl,hl,q⟩ fin
 obtain ⟨v,rfl,den⟩:=zeb dl
 refine ⟨_,_,d1.strI,by rw [den.strI],by rw [zbF]; exact hl,?_⟩
 rw [zr3 (Txt.rstripChars (st l) (st y))]; exact fin Hi H _ _ (Ext.refl s) (.str _) q⟩
end
end PL
namespace PL
open PySem L2
section
variable {X:Cx} {a b c:Expr} {pos:Pos} {ta tb tc:TE'}
def zg1:R2':=fun x y Q=>(∃ i j,x=.int i/\y=.int j/\Q (.int (i+j)))\/zjj x y Q
theorem zve:Op2 X (binaryOp .Add) zg1:=zvc.or zs4
def zgW:R2':=fun x y Q=>znT true x y Q\/znU true x y Q
theorem zqY:Op2 X (compareOp .NotIn) zgW:=zon.or zoo
end
structure Df (K:W.Frag) (mg:Str->Option Value) (x:Str) (st:Stmt) (ps:List Str):Prop where
 ex:∃ f fd,Fun K x x st f fd/\zbi K fd ps []/\mg x=some (.ref f)
structure Fn (P:Program) (w:World) (K:W.Frag) (mg:Str->Option Value) (base:Heap) (k:Nat) (x:Str) (ps:List Str) (sp:Sp'):Prop where
 ex:∃ f fd,FnOk P w K mg base CX0 k f fd ps (zlU K sp)/\zbi K fd ps []/\W.keepIn K (.ref f)=true/\mg x=some (.ref f)/\∃ oc od osl,K.lookup f=some ⟨oc,od,.func fd,osl⟩
section
variable {P:Program} {w:World} {K:W.Frag} {mg:Str->Option Value} {base:Heap} {k:Nat} {x:Str} {ps:List Str} {sp:Sp'}
theorem Df.ok {st:Stmt} {N:List Str} (d:Df K mg x st ps) (S:FnScope N ps (zf st)) (len:∀ ds Q,sp ds Q->ds.length=ps.length)
  (hbody:∀ (f:Addr) (cdv:Value) (A:Around) (outer:List Env) (s:Shared) (H:Hp) (E:XK),Room k (A.deeper (PyProof.Rows.envOfC x (zf st) s.heap.objs.size f cdv))->∀ ds Q,sp ds Q ->
   ∃ t,PSs' (zhF CX0 P w K mg base N x (zf st) f cdv A outer s H E).nox (zG st) t/\t { nx:=fun _=>Q (.val .non),rt:=fun r _=>Q r } (zcr N ds)):Fn P w K mg base (k+1) x ps sp:=by
 obtain ⟨f,fd,F,b,m⟩:=d.ex; obtain ⟨oc,od,kV,doc,pm,an,cdv,ct,osl,e,lk,_⟩:=F.ex; exact ⟨f,fd,PL.Fun.ok' F S len (hbody f),b,F.kp,m,oc,od,osl,lk⟩
end
section
variable {X:Cx} {k:Nat} {x:Str} {ps:List Str} {sp:Sp'} {p pos:Pos} {e:Expr} {es:List Expr} {t:TA'}
theorem zx (h:Fn X.prog X.w X.K X.mg X.base k x ps sp) (hr:Room k X.A) (ha:PA' X (e :: es) t) (hg:Gl X x:=by rfl) (hdb:(x == ("__debug__":Str))=false:=by decide) :
  PE' X (.Call (.Name x p) (e :: es) [] pos) (zbe sp t):=by
 obtain ⟨f,fd,F,b,kp,m,_⟩:=h.ex; exact zoj F hr m kp b ha hg hdb
end
end PL
namespace PL
open PySem L2
section
variable {X:Cx} {pos:Pos}
def zl5:RS':=fun x lo hi Q=>zk1 x lo hi Q\/zk2 x lo hi Q
theorem zws:Sli X zl5:=zuF.or zsb
end
end PL
namespace PL
open PySem L2
@[simp] theorem ex2 {α β:Type} {x:α} {y:β} {P:α->β->Prop}:(∃ a b,(x=a/\y=b)/\P a b)↔P x y:=⟨fun ⟨_,_,⟨e1,e2⟩,h⟩=>e1 ▸ e2 ▸ h,fun h=>⟨x,y,⟨rfl,rfl⟩,h⟩⟩
@[simp] theorem ex3 {α β γ:Type} {x:α} {y:β} {z:γ} {P:α->β->γ->Prop}:(∃ a b c,(x=a/\y=b/\z=c)/\P a b c)↔P x y z:=⟨fun ⟨_,_,_,⟨e1,e2,e3⟩,h⟩=>e1 ▸ e2 ▸ e3 ▸ h,fun h=>⟨x,y,z,⟨rfl,rfl,rfl⟩,h⟩⟩
@[simp] theorem zup (d:D):(Res.val d).toD=d:=rfl
@[simp] theorem zuq (o:OD):(Res.own o).toD=o.toD:=rfl
@[simp] theorem zvP (d:D->D) (o:OD):(Res.bk d o).toD=d o.toD:=rfl
@[simp] theorem zv5 (l:List D):(OD.lst l).toD=.lst l:=rfl
@[simp] theorem zv7 (l:List (D × D)):(OD.dic l).toD=.dic l:=rfl
@[simp] theorem zv6 (l:List (D × D)):(OD.dit l).toD=.dit l:=rfl
@[simp] theorem zr2 (N:List Str) (ds:List D):zcr N ds=ds.map .val ++ List.replicate (N.length-ds.length) .emp:=rfl
@[simp] theorem zui (d:D):voS (.val d)=.val d:=rfl
@[simp] theorem zuk:voS .emp=.emp:=rfl
@[simp] theorem zuj (o:OD):voS (.own o)=.emp:=rfl
@[simp] theorem zvO:vo []=[]:=rfl
@[simp] theorem zuh (s:Slot) (Γ:Sts):vo (s :: Γ)=voS s :: vo Γ:=rfl
@[simp] theorem ztQ (ds:List D):zp2 (.lst ds)=some ds:=rfl
@[simp] theorem ztN (ds:List D):zp2 (.tup ds)=some ds:=rfl
@[simp] theorem ztO (l:List Nat):zp2 (.str l)=some (l.map fun c=>.str [c]):=rfl
@[simp] theorem zvD (Γ:Sts):znt [] Γ=[]:=rfl
@[simp] theorem zuf (src:List (Option Nat)) (Γ:Sts):znt (none :: src) Γ=.emp :: znt src Γ:=rfl
@[simp] theorem zue (i:Nat) (src:List (Option Nat)) (Γ:Sts):znt (some i :: src) Γ=(match Γ[i]? with | some (.val d)=>.val d | _=>.emp) :: znt src Γ:=rfl
@[simp] theorem ztx (g:TG') (tc:TT') (te:TE') (Q:List D->Prop) (acc:List D) (Γ:Sts):zcW g tc te Q [] acc Γ↔Q acc:=Iff.rfl
@[simp] theorem zub (g:TG') (tb:TS') (N:Ends') (Γ:Sts):zi2 g tb N [] Γ↔N.nx Γ:=Iff.rfl
section
variable {Q:D->Prop}
@[simp] theorem zvY (g:Int->Int->D) (i j:Int):zqc g (.int i) (.int j) Q↔Q (g i j):=by simp [zqc]
@[simp] theorem zwA (C:Int->Int->Prop) (g:Int->Int->D) (i j:Int):rI' C g (.int i) (.int j) Q↔C i j/\Q (g i j):=by simp [rI']
@[simp] theorem zt7 (i j:Int):zg1 (.int i) (.int j) Q↔Q (.int (i+j)):=by simp [zg1,zjj]
@[simp] theorem zt6 (l m:List Nat):zg1 (.str l) (.str m) Q↔l.length+m.length<=sizeLine/\Q (.str (l ++ m)):=by simp [zg1,zjj]
@[simp] theorem zvr (i j:Int):eqS (.int i) (.int j)=some (decide (i=j)):=rfl
@[simp] theorem zvp (i j:List Nat):eqS (.str i) (.str j)=some (decide (i=j)):=rfl
@[simp] theorem zv9 (i j:Bool):eqS (.bl i) (.bl j)=some (decide (i=j)):=rfl
@[simp] theorem zvq:eqS .non .non=some true:=rfl
@[simp] theorem zrm (i:List Nat):eqS .non (.str i)=some false:=rfl
@[simp] theorem zrn (i:Int):eqS .non (.int i)=some false:=rfl
@[simp] theorem zrl (i:List Nat):eqS (.str i) .non=some false:=rfl
@[simp] theorem zro (i:Int):eqS (.int i) .non=some false:=rfl
@[simp] theorem zuR (c:Nat) (l:List Nat):znT false (.str [c]) (.str l) Q↔Q (.bl (decide (c ∈ l))):=by simp [znT]
@[simp] theorem zuQ (ds:List D) (i:Int):znk (.lst ds) (.int i) Q↔∃ d,atI ds i=some d/\Q d:=by simp [znk]
@[simp] theorem zuO (ds:List D) (i:Int):znk (.tup ds) (.int i) Q↔∃ d,atI ds i=some d/\Q d:=by simp [znk]
@[simp] theorem zuP (l:List Nat) (i:Int):znk (.str l) (.int i) Q↔l.length<=sizeLine/\∃ c,atI l i=some c/\Q (.str [c]):=by simp [znk]
@[simp] theorem zvT (l:List Nat) (n:Int):zl5 (.str l) none (some n) Q↔l.length<=sizeLine/\0<=n/\Q (.str (l.take n.toNat)):=by simp [zl5,zk1,zk2]
@[simp] theorem ztT (l:List Nat) (n:Int):zl5 (.str l) (some n) none Q↔l.length<=sizeLine/\0<=n/\Q (.str (l.drop n.toNat)):=by simp [zl5,zk1,zk2]
@[simp] theorem zuI (ds:List D) (lo hi:Option Int):zl5 (.lst ds) lo hi Q↔Q (.lst (zdt ds lo hi)):=by simp [zl5,zk1,zk2]
@[simp] theorem ztY (l:List Nat):zgc [.str l] Q↔l.length<=sizeLine/\Q (.int (l.length:Nat)):=by simp [zgc]
@[simp] theorem ztZ (l:List D):zgc [.lst l] Q↔Q (.int (l.length:Nat)):=by simp [zgc]
@[simp] theorem ztX (l:List D):zgc [.tup l] Q↔Q (.int (l.length:Nat)):=by simp [zgc]
@[simp] theorem zuM (i j:Int):zqa [.int i,.int j] Q↔Q (.int (if j<i then j else i)):=by simp [zqa]
@[simp] theorem zuN (i j:Int):zqb [.int i,.int j] Q↔Q (.int (if j > i then j else i)):=by simp [zqb]
@[simp] theorem zp9 (i:Int):zk0 [.int i] Q↔i.natAbs.log2<1920/\Q (.str (zfB i)):=by simp [zk0]
@[simp] theorem ztS (ds:List D):zj3 [.lst ds] Q↔Q (.tup ds):=by simp [zj3]
@[simp] theorem zrF (l y:List Nat):zjc (.str l) [.str y] Q↔l.length<=sizeLine/\Q (.str (Txt.rstripChars (st l) (st y)).cps.toList):=by simp [zjc]
@[simp] theorem zul (l:List Nat):tyD "str" (.str l)↔True:=by simp [tyD]
end
@[simp] theorem zly (K:W.Frag):W.kitOne K (.type "NoneType") (.type "str")=some false:=by rfl
@[simp] theorem zpC (K:W.Frag):W.kitOne K (.type "bool") (.type "str")=some false:=by rfl
@[simp] theorem zq7 (K:W.Frag):W.kitOne K (.type "int") (.type "str")=some false:=by rfl
@[simp] theorem zq5 (K:W.Frag):W.kitOne K (.type "str") (.type "str")=some true:=by rfl
@[simp] theorem zpv (K:W.Frag):W.kitOne K (.type "list") (.type "str")=some false:=by rfl
@[simp] theorem zoC (K:W.Frag):W.kitOne K (.type "tuple") (.type "str")=some false:=by rfl
@[simp] theorem zpA (K:W.Frag):W.kitOne K (.type "dict") (.type "str")=some false:=by rfl
@[simp] theorem zlh (K:W.Frag):W.kitOne K (.type "NoneType") (.type "bool")=some false:=by rfl
@[simp] theorem zoO (K:W.Frag):W.kitOne K (.type "bool") (.type "bool")=some true:=by rfl
@[simp] theorem zpz (K:W.Frag):W.kitOne K (.type "int") (.type "bool")=some false:=by rfl
@[simp] theorem zpu (K:W.Frag):W.kitOne K (.type "str") (.type "bool")=some false:=by rfl
@[simp] theorem zoH (K:W.Frag):W.kitOne K (.type "list") (.type "bool")=some false:=by rfl
@[simp] theorem znp (K:W.Frag):W.kitOne K (.type "tuple") (.type "bool")=some false:=by rfl
@[simp] theorem zoL (K:W.Frag):W.kitOne K (.type "dict") (.type "bool")=some false:=by rfl
@[simp] theorem zlz (K:W.Frag):W.kitOne K (.type "NoneType") (.type "int")=some false:=by rfl
@[simp] theorem zpD (K:W.Frag):W.kitOne K (.type "bool") (.type "int")=some true:=by rfl
@[simp] theorem zq8 (K:W.Frag):W.kitOne K (.type "int") (.type "int")=some true:=by rfl
@[simp] theorem zq6 (K:W.Frag):W.kitOne K (.type "str") (.type "int")=some false:=by rfl
@[simp] theorem zpw (K:W.Frag):W.kitOne K (.type "list") (.type "int")=some false:=by rfl
@[simp] theorem zoD (K:W.Frag):W.kitOne K (.type "tuple") (.type "int")=some false:=by rfl
@[simp] theorem zpB (K:W.Frag):W.kitOne K (.type "dict") (.type "int")=some false:=by rfl
@[simp] theorem zlf (K:W.Frag):W.kitOne K (.type "NoneType") (.type "list")=some false:=by rfl
@[simp] theorem zoM (K:W.Frag):W.kitOne K (.type "bool") (.type "list")=some false:=by rfl
@[simp] theorem zpx (K:W.Frag):W.kitOne K (.type "int") (.type "list")=some false:=by rfl
@[simp] theorem zps (K:W.Frag):W.kitOne K (.type "str") (.type "list")=some false:=by rfl
@[simp] theorem zoF (K:W.Frag):W.kitOne K (.type "list") (.type "list")=some true:=by rfl
@[simp] theorem znn (K:W.Frag):W.kitOne K (.type "tuple") (.type "list")=some false:=by rfl
@[simp] theorem zoJ (K:W.Frag):W.kitOne K (.type "dict") (.type "list")=some false:=by rfl
@[simp] theorem zkm (K:W.Frag):W.kitOne K (.type "NoneType") (.type "tuple")=some false:=by rfl
@[simp] theorem zns (K:W.Frag):W.kitOne K (.type "bool") (.type "tuple")=some false:=by rfl
@[simp] theorem zoI (K:W.Frag):W.kitOne K (.type "int") (.type "tuple")=some false:=by rfl
@[simp] theorem zoE (K:W.Frag):W.kitOne K (.type "str") (.type "tuple")=some false:=by rfl
@[simp] theorem znq (K:W.Frag):W.kitOne K (.type "list") (.type "tuple")=some false:=by rfl
@[simp] theorem zmC (K:W.Frag):W.kitOne K (.type "tuple") (.type "tuple")=some true:=by rfl
@[simp] theorem znr (K:W.Frag):W.kitOne K (.type "dict") (.type "tuple")=some false:=by rfl
@[simp] theorem zlg (K:W.Frag):W.kitOne K (.type "NoneType") (.type "dict")=some false:=by rfl
@[simp] theorem zoN (K:W.Frag):W.kitOne K (.type "bool") (.type "dict")=some false:=by rfl
@[simp] theorem zpy (K:W.Frag):W.kitOne K (.type "int") (.type "dict")=some false:=by rfl
@[simp] theorem zpt (K:W.Frag):W.kitOne K (.type "str") (.type "dict")=some false:=by rfl
@[simp] theorem zoG (K:W.Frag):W.kitOne K (.type "list") (.type "dict")=some false:=by rfl
@[simp] theorem zno (K:W.Frag):W.kitOne K (.type "tuple") (.type "dict")=some false:=by rfl
@[simp] theorem zoK (K:W.Frag):W.kitOne K (.type "dict") (.type "dict")=some true:=by rfl
section
variable {Q:D->Prop}
end
end PL
namespace PL
open PySem L2
class ME (t:TE'):Prop where
 mono:∀ Γ Q Q',(∀ d Γ',Q d Γ'->Q' d Γ')->t Γ Q->t Γ Q'
class MT (t:TT'):Prop where
 mono:∀ Γ Q Q',(∀ d Γ',Q d Γ'->Q' d Γ')->t Γ Q->t Γ Q'
class MA (t:TA'):Prop where
 mono:∀ Γ Q Q',(∀ d Γ',Q d Γ'->Q' d Γ')->t Γ Q->t Γ Q'
class MO (t:TO'):Prop where
 mono:∀ Γ Q Q',(∀ d Γ',Q d Γ'->Q' d Γ')->t Γ Q->t Γ Q'
class MP (t:TP'):Prop where
 mono:∀ Γ Q Q',(∀ d Γ',Q d Γ'->Q' d Γ')->t Γ Q->t Γ Q'
class MI (t:TI'):Prop where
 mono:∀ Γ Q Q',(∀ d Γ',Q d Γ'->Q' d Γ')->t Γ Q->t Γ Q'
class MG (g:TG'):Prop where
 mono:∀ d Γ Q Q',(∀ Γ',Q Γ'->Q' Γ')->g d Γ Q->g d Γ Q'
class MR2 (r:R2'):Prop where
 mono:∀ x y Q Q',(∀ d,Q d->Q' d)->r x y Q->r x y Q'
class MRC (r:RC'):Prop where
 mono:∀ x Q Q',(∀ d,Q d->Q' d)->r x Q->r x Q'
class MRS (r:RS'):Prop where
 mono:∀ x y z Q Q',(∀ d,Q d->Q' d)->r x y z Q->r x y z Q'
class MSp (sp:Sp'):Prop where
 mono:∀ x Q Q',(∀ d,Q d->Q' d)->sp x Q->sp x Q'
structure Ends'.le (N N':Ends'):Prop where
 nx:∀ Γ,N.nx Γ->N'.nx Γ
 rt:∀ r Γ,N.rt r Γ->N'.rt r Γ
 bk:∀ Γ,N.bk Γ->N'.bk Γ
 ct:∀ Γ,N.ct Γ->N'.ct Γ
class MS (t:TS'):Prop where
 mono:∀ N N' Γ,N.le N'->t N Γ->t N' Γ
instance {i:Nat}:ME (zJ i):=⟨fun _ _ _ h ⟨d,e,q⟩=>⟨d,e,h _ _ q⟩⟩
instance {d:D}:ME (tC' d):=⟨fun _ _ _ h q=>h _ _ q⟩
instance {t:TO'} [MO t]:ME (zf6 t):=⟨fun Γ _ _ h q=>MO.mono (t:=t) Γ _ _ (fun _ _ z=>h _ _ z) q⟩
instance {r:R2'} {a b:TE'} [MR2 r] [ME a] [ME b]:ME (zcX r a b):=⟨fun Γ _ _ h q=>ME.mono (t:=a) Γ _ _ (fun _ _ z=>ME.mono (t:=b) _ _ _ (fun _ _ z=>MR2.mono (r:=r) _ _ _ _ (fun _ z=>h _ _ z) z) z) q⟩
instance {t:TE'} [ME t]:MT (tB' t):=⟨fun Γ _ _ h q=>ME.mono (t:=t) Γ _ _ (fun _ _ ⟨b,e,z⟩=>⟨b,e,h _ _ z⟩) q⟩
instance {t u:TT'} [MT t] [MT u]:MT (zff t u):=⟨fun Γ _ _ h q=>MT.mono (t:=t) Γ _ _ (fun b _ z=>by
 cases b with
 | true=>exact MT.mono (t:=u) _ _ _ h z
 | false=>exact h _ _ z) q⟩
instance {t u:TT'} [MT t] [MT u]:MT (zlN t u):=⟨fun Γ _ _ h q=>MT.mono (t:=t) Γ _ _ (fun b _ z=>by
 cases b with
 | false=>exact MT.mono (t:=u) _ _ _ h z
 | true=>exact h _ _ z) q⟩
instance:MT zi1:=⟨fun _ _ _ h q=>h _ _ q⟩
instance {t:TT'} {a b:TE'} [MT t] [ME a] [ME b]:ME (zjV t a b):=⟨fun Γ _ _ h q=>MT.mono (t:=t) Γ _ _ (fun k _ z=>by
 cases k with
 | true=>exact ME.mono (t:=a) _ _ _ h z
 | false=>exact ME.mono (t:=b) _ _ _ h z) q⟩
instance:MA zbx:=⟨fun _ _ _ h q=>h _ _ q⟩
instance {a:TE'} {r:TA'} [ME a] [MA r]:MA (zad a r):=⟨fun Γ _ _ h q=>ME.mono (t:=a) Γ _ _ (fun _ _ z=>MA.mono (t:=r) _ _ _ (fun _ _ z=>h _ _ z) z) q⟩
instance {t:TA'} [MA t]:ME (zeJ t):=⟨fun Γ _ _ h q=>MA.mono (t:=t) Γ _ _ (fun _ _ ⟨a,z⟩=>⟨a,h _ _ z⟩) q⟩
instance {r:RC'} {t:TA'} [MRC r] [MA t]:ME (zjW r t):=⟨fun Γ _ _ h q=>MA.mono (t:=t) Γ _ _ (fun _ _ z=>MRC.mono (r:=r) _ _ _ (fun _ z=>h _ _ z) z) q⟩
instance:MP zeK:=⟨fun _ _ _ h q=>h _ _ q⟩
instance {t:TE'} [ME t]:MP (zkR t):=⟨fun Γ _ _ h q=>ME.mono (t:=t) Γ _ _ (fun _ _ ⟨i,e,z⟩=>⟨i,e,h _ _ z⟩) q⟩
instance {r:RS'} {e:TE'} {l u:TP'} [MRS r] [ME e] [MP l] [MP u]:ME (zkP r e l u):=⟨fun Γ _ _ h q=>ME.mono (t:=e) Γ _ _ (fun _ _ z=>MP.mono (t:=l) _ _ _ (fun _ _ z=>MP.mono (t:=u) _ _ _ (fun _ _ z=>MRS.mono (r:=r) _ _ _ _ _ (fun _ z=>h _ _ z) z) z) z) q⟩
instance {sp:Sp'} {t:TA'} [MSp sp] [MA t]:ME (zbe sp t):=⟨fun Γ _ _ h q=>MA.mono (t:=t) Γ _ _ (fun _ _ z=>MSp.mono (sp:=sp) _ _ _ (fun _ z=>h _ _ z) z) q⟩
instance {t:TE'} [ME t]:MI (zfQ t):=⟨fun Γ _ _ h q=>ME.mono (t:=t) Γ _ _ (fun _ _ ⟨i,e,z⟩=>⟨i,e,h _ _ z⟩) q⟩
instance {i:Nat}:MG (zac i):=⟨fun _ _ _ _ h q=>h _ q⟩
theorem zeA {g:TG'} {tc:TT'} {te:TE'} [MG g] [MT tc] [ME te] {Q Q':List D->Prop} (h:∀ l,Q l->Q' l):∀ (ds acc:List D) (Γ:Sts),zcW g tc te Q ds acc Γ->zcW g tc te Q' ds acc Γ
 | [],acc,Γ,q=>h acc q
 | d :: ds,acc,Γ,q=>MG.mono (g:=g) _ _ _ _ (fun Γ2 z=>MT.mono (t:=tc) _ _ _ (fun b Γ3 z=>by
  cases b with
  | true=>exact ME.mono (t:=te) _ _ _ (fun y Γ4 z=>zeA h ds _ _ z) z
  | false=>exact zeA h ds _ _ z) z) q
instance {ti:TI'} {src:List (Option Nat)} {g:TG'} {tc:TT'} {te:TE'} [MI ti] [MG g] [MT tc] [ME te]:MO (zcq ti src g tc te):=⟨fun Γ _ _ h q=>MI.mono (t:=ti) Γ _ _ (fun ds Γ1 ⟨a,z⟩=>⟨a,zeA (fun l=>h _ _) _ _ _ z⟩) q⟩
theorem Ends'.le.nxt {N N':Ends'} (h:N.le N') {P P':Sts->Prop} (hp:∀ Γ,P Γ->P' Γ):Ends'.le { N with nx:=P } { N' with nx:=P' }:=⟨hp,h.rt,h.bk,h.ct⟩
instance:MS zbn:=⟨fun _ _ _ h q=>h.nx _ q⟩
instance {t u:TS'} [MS t] [MS u]:MS (zdN t u):=⟨fun N N' Γ h q=>MS.mono (t:=t) _ _ _ (h.nxt fun Γ' z=>MS.mono (t:=u) N N' Γ' h z) q⟩
instance {t:TE'} [ME t]:MS (zbQ t):=⟨fun N N' Γ h q=>ME.mono (t:=t) _ _ _ (fun _ _ z=>h.rt _ _ z) q⟩
instance {c:TT'} {t u:TS'} [MT c] [MS t] [MS u]:MS (zda c t u):=⟨fun N N' Γ h q=>MT.mono (t:=c) _ _ _ (fun b Γ1 z=>by
 cases b with
 | true=>exact MS.mono (t:=t) N N' Γ1 h z
 | false=>exact MS.mono (t:=u) N N' Γ1 h z) q⟩
instance {t:TE'} [ME t]:MS (zcy t):=⟨fun N N' Γ h q=>ME.mono (t:=t) _ _ _ (fun _ _ z=>h.nx _ z) q⟩
instance {t:TE'} {g:TG'} [ME t] [MG g]:MS (zdx t g):=⟨fun N N' Γ h q=>ME.mono (t:=t) _ _ _ (fun _ _ z=>MG.mono (g:=g) _ _ _ _ (fun _ z=>h.nx _ z) z) q⟩
theorem zjF {g:TG'} {tb:TS'} [MG g] [MS tb] {N:Ends'} (I:List D->Sts->Prop) (h0:∀ Γ,I [] Γ->N.nx Γ) (hs:∀ d ds Γ,I (d :: ds) Γ->g d Γ fun Γ2=>tb { N with nx:=I ds,ct:=I ds,bk:=N.nx } Γ2) :
  ∀ (ds:List D) (Γ:Sts),I ds Γ->zi2 g tb N ds Γ
 | [],Γ,h=>h0 Γ h
 | d :: ds,Γ,h=>MG.mono (g:=g) _ _ _ _ (fun Γ2 z=>MS.mono (t:=tb) { N with nx:=I ds,ct:=I ds,bk:=N.nx } { N with nx:=zi2 g tb N ds,ct:=zi2 g tb N ds,bk:=N.nx } _ ⟨fun Γ3 z=>zjF I h0 hs ds Γ3 z,fun _ _ z=>z,fun _ z=>z,fun Γ3 z=>zjF I h0 hs ds Γ3 z⟩ z) (hs d ds Γ h)
theorem zfS {g:TG'} {tb:TS'} [MG g] [MS tb] {N:Ends'} {ds:List D} {Γ:Sts} (I:Nat->Sts->Prop) (h:I 0 Γ) (hs:∀ (i:Nat) d Γ,ds[i]?=some d->I i Γ->g d Γ fun Γ2=>tb { N with nx:=I (i+1),ct:=I (i+1),bk:=N.nx } Γ2) (h0:∀ Γ,I ds.length Γ->N.nx Γ):zi2 g tb N ds Γ:=by
 refine zjF (fun es Γ=>∃ i,es=ds.drop i/\i<=ds.length/\I i Γ) ?_ ?_ ds Γ ⟨0,rfl,Nat.zero_le _,h⟩
 ·rintro Γ ⟨i,e,hi,q⟩
  have:i=ds.length:=by
   have:=congrArg List.length e
   rw [List.length_drop] at this
   simp at this
   omega
  subst this; exact h0 Γ q
 ·rintro d es Γ ⟨i,e,hi,q⟩
  have hlt:i<ds.length:=by
   have:=congrArg List.length e
   rw [List.length_drop] at this
   simp at this
   omega
  rw [List.drop_eq_getElem_cons hlt] at e
  injection e with e1 e2
  subst e1
  have go:∀ Γ',I (i+1) Γ'->∃ j,es=ds.drop j/\j<=ds.length/\I j Γ':=fun Γ' z=>⟨i+1,e2,hlt,z⟩
  exact MG.mono (g:=g) _ _ _ _ (fun Γ2 z=>MS.mono (t:=tb) { N with nx:=I (i+1),ct:=I (i+1),bk:=N.nx } _ _ ⟨go,fun _ _ z=>z,fun _ z=>z,go⟩ z) (hs i _ Γ (List.getElem?_eq_getElem hlt) q)
theorem ze8 {c:TT'} {tb:TS'} [MT c] [MS tb] {N:Ends'} {Γ:Sts} (I:Sts->Prop) (μ:Sts->Nat) (h:I Γ) (hs:∀ Γ,I Γ->c Γ fun b Γ1=>if b=true then tb { N with nx:=fun Γ2=>I Γ2/\μ Γ2<μ Γ,ct:=fun Γ2=>I Γ2/\μ Γ2<μ Γ,bk:=N.nx } Γ1 else N.nx Γ1):zlM c tb N Γ:=by
 refine ⟨fun m Γ=>m=μ Γ/\I Γ,⟨_,rfl,h⟩,?_⟩
 rintro m Γ ⟨rfl,p⟩
 refine MT.mono (t:=c) _ _ _ (fun b Γ1 z=>?_) (hs Γ p)
 cases b with
 | true=>exact MS.mono (t:=tb) { N with nx:=fun Γ2=>I Γ2/\μ Γ2<μ Γ,ct:=fun Γ2=>I Γ2/\μ Γ2<μ Γ,bk:=N.nx } _ _ ⟨fun Γ2 ⟨a,b⟩=>⟨_,b,rfl,a⟩,fun _ _ z=>z,fun _ z=>z,fun Γ2 ⟨a,b⟩=>⟨_,b,rfl,a⟩⟩ z
 | false=>exact z
theorem zdL {g:TG'} {tc:TT'} {te:TE'} [MG g] [MT tc] [ME te] {Q:List D->Prop} {ds:List D} {Γ:Sts} (I:Nat->List D->Sts->Prop) (h:I 0 [] Γ)
  (hs:∀ (i:Nat) d acc Γ,ds[i]?=some d->I i acc Γ->g d Γ fun Γ2=>tc Γ2 fun b Γ3=>if b=true then te Γ3 fun y Γ4=>I (i+1) (acc ++ [y]) (vo Γ4) else I (i+1) acc (vo Γ3)) (h0:∀ acc Γ,I ds.length acc Γ->Q acc):zcW g tc te Q ds [] Γ:=by
 have key:∀ (n i:Nat) (acc:List D) (Γ:Sts),n=ds.length-i->i<=ds.length->I i acc Γ->zcW g tc te Q (ds.drop i) acc Γ:=by
  intro n
  induction n with
  | zero =>
   intro i acc Γ hn hi q
   have:i=ds.length:=by omega
   subst this; rw [List.drop_eq_nil_of_le (Nat.le_refl _)]; exact h0 acc Γ q
  | succ n ih =>
   intro i acc Γ hn hi q
   have hlt:i<ds.length:=by omega
   rw [List.drop_eq_getElem_cons hlt]
   refine MG.mono (g:=g) _ _ _ _ (fun Γ2 z=>MT.mono (t:=tc) _ _ _ (fun b Γ3 z=>?_) z) (hs i _ acc Γ (List.getElem?_eq_getElem hlt) q)
   cases b with
   | true=>exact ME.mono (t:=te) _ _ _ (fun y Γ4 z=>ih (i+1) _ _ (by omega) hlt z) z
   | false=>exact ih (i+1) _ _ (by omega) hlt z
 exact key _ 0 [] Γ rfl (Nat.zero_le _) h
instance {g:Int->Int->D}:MR2 (zqc g):=⟨fun _ _ _ _ h ⟨i,j,a,b,q⟩=>⟨i,j,a,b,h _ q⟩⟩
instance {C:Int->Int->Prop} {g:Int->Int->D}:MR2 (rI' C g):=⟨fun _ _ _ _ h ⟨i,j,a,b,c,q⟩=>⟨i,j,a,b,c,h _ q⟩⟩
instance:MR2 zjj:=⟨fun _ _ _ _ h ⟨i,j,a,b,c,q⟩=>⟨i,j,a,b,c,h _ q⟩⟩
instance:MR2 zg1:=⟨fun _ _ _ _ h q=>by
 rcases q with ⟨i,j,a,b,q⟩ | q
 ·exact .inl ⟨i,j,a,b,h _ q⟩
 ·exact .inr (MR2.mono (r:=zjj) _ _ _ _ h q)⟩
instance {neg:Bool}:MR2 (znT neg):=⟨fun _ _ _ _ h ⟨c,l,a,b,q⟩=>⟨c,l,a,b,h _ q⟩⟩
instance {neg:Bool}:MR2 (znU neg):=⟨fun _ _ _ _ h ⟨i,c,l,a,b,q⟩=>⟨i,c,l,a,b,h _ q⟩⟩
instance:MR2 zgW:=⟨fun _ _ _ _ h q=>by
 rcases q with q | q
 ·exact .inl (MR2.mono (r:=znT true) _ _ _ _ h q)
 ·exact .inr (MR2.mono (r:=znU true) _ _ _ _ h q)⟩
instance {neg:Bool}:MR2 (zeE neg):=⟨fun _ _ _ _ h ⟨a,b,e,q⟩=>⟨a,b,e,h _ q⟩⟩
instance:MR2 znk:=⟨fun _ _ _ _ h ⟨i,e,q⟩=>⟨i,e,by
 rcases q with ⟨ds,d,a,b,q⟩ | ⟨ds,d,a,b,q⟩ | ⟨l,c,a,b,e,q⟩
 ·exact .inl ⟨ds,d,a,b,h _ q⟩
 ·exact .inr (.inl ⟨ds,d,a,b,h _ q⟩)
 ·exact .inr (.inr ⟨l,c,a,b,e,h _ q⟩)⟩⟩
instance:MRS zl5:=⟨fun _ _ _ _ _ h q=>by
 rcases q with ⟨l,a,b,q⟩ | ⟨l,a,q⟩
 ·refine .inl ⟨l,a,b,?_⟩
  rcases q with ⟨c,n,d,e,q⟩ | ⟨c,n,d,e,q⟩
  ·exact .inl ⟨c,n,d,e,h _ q⟩
  ·exact .inr ⟨c,n,d,e,h _ q⟩
 ·exact .inr ⟨l,a,h _ q⟩⟩
instance:MRC zgc:=⟨fun _ _ _ h ⟨d,e,q⟩=>⟨d,e,by
 rcases q with ⟨l,a,b,q⟩ | ⟨l,a,q⟩ | ⟨l,a,q⟩
 ·exact .inl ⟨l,a,b,h _ q⟩
 ·exact .inr (.inl ⟨l,a,h _ q⟩)
 ·exact .inr (.inr ⟨l,a,h _ q⟩)⟩⟩
instance:MRC zk0:=⟨fun _ _ _ h ⟨i,a,b,q⟩=>⟨i,a,b,h _ q⟩⟩
instance:MRC zj3:=⟨fun _ _ _ h ⟨i,j,a,b,q⟩=>⟨i,j,a,b,h _ q⟩⟩
end PL
namespace PL
open PySem L2
def zkT:Sp':=fun ds Q=>∃ ns:List Int,ds=[.lst (ns.map .int)]/\ns.length<=63/\Q (.val (.bl true))
theorem zkB {K:W.Frag} {H:Hp}:∀ ns:List Int,zaV K H (ns.map V.int) (ns.map D.int)
 | []=>.nil
 | n :: ns=>.cons (.int n) (zkB ns)
theorem zta {P:Program} {w:World} {K:W.Frag} {mg:Str->Option Value} {k:Nat} {fa:Addr} {oc:Value} {od:Option Addr} {fd:FuncData} {sl:Array (Option Value)} {ps:List Str}
  (hfa:mg "law"=some (.ref fa)) (lk:K.lookup fa=some ⟨oc,od,.func fd,sl⟩) (base:Heap) (G:Fn P w K mg base k "law" ps zkT):FnOk P w K mg base CX0 k fa fd ps (zlU K zkT):=by
 obtain ⟨f,fd',F,_,_,m,oc',od',sl',lk'⟩:=G.ex; rw [hfa] at m; cases m; rw [lk] at lk'; cases lk'; exact F
end PL
namespace L2
open PySem PySem.Spec PyProof.Rows
section
variable {X:Cx}
theorem zqT:OpR X (binaryOp .Add) (fun x y H Q=>∃ a b xs ys,x=.ref a/\y=.ref b/\SqT X.K H a xs/\SqT X.K H b ys/\xs.length+ys.length<=sizeLine/\(xs=[]->Q (.ref b) H)/\(xs≠[]->ys=[]->Q (.ref a) H) /\
  (xs≠[]->ys≠[]->∀ p,H p=none->Q (.ref p) (upd H p (.tup (xs ++ ys))))):=by
 intro pins s σ H x y v u Q I rx ry h; obtain ⟨a,b,xs,ys,rfl,rfl,ha,hb,hz,q0,q1,q2⟩:=h
 by_cases hx:xs=[]
 ·cases rx
  cases ry; obtain ⟨its,r1,p1,_⟩:=I.tuple ha; obtain ⟨its2,r2,p2,_⟩:=I.tuple hb
  obtain ⟨⟨cls,dd,data,sl⟩,ho,hc,n,hd⟩:=id p1
  obtain ⟨⟨cls2,dd2,data2,sl2⟩,ho2,hc2,n2,hd2⟩:=id p2
  simp only at hc hd hc2 hd2
  subst hc hd hc2 hd2
  have hi:its=[]:=r1.nil_iff.mpr hx
  refine concat_meets ⟨_,ho,rfl⟩ ⟨_,ho2,rfl⟩ noFill_tuple_add seq_tuple_add PySem.F.slot_tuple_add PySem.F.entry_tuple_add (PySem.F.args_tuple_add_2 _ _)
   (tuple_addW0 a b its.toArray its2.toArray n n2 dd dd2 sl sl2 (by simp [hi])) ⟨ho,ho2,?_⟩
  exact ⟨.ref b,H,I,rfl,q0 hx⟩
 ·exact zqR pins s σ H _ _ v u Q I rx ry ⟨a,b,xs,ys,rfl,rfl,ha,hb,hx,hz,q1 hx,q2 hx⟩
end
end L2
namespace HT
open PySem PyProof.Rows
section
variable {prog:Program} {w:World} {A:Around} {E:Value->Shared->Prop} {s:Shared}
theorem getItem_tuple_whole {t sl:Addr} {items:Array Value} {vl vu:Value} {lo hi:Option Int} {Q:Value->Shared->Prop} (ht:IsTup s.heap t items) (hs:s.heap.IsSliceOf sl vl vu .none) (pl:IsPart vl lo) (pu:IsPart vu hi)
  (hw:sIx items.size 0 lo=0/\sIx items.size items.size hi=items.size) (h:Q (.ref t) s):wpAny (model prog w) A (getItem (.ref t) (.ref sl)) Q E s:=by
 obtain ⟨os,hos,hcs,hds⟩:=id hs
 have hTs:s.TypeIs (.ref sl) "slice":=⟨os,hos,hcs⟩
 unfold getItem
 try with_reducible refine wpAny_holding ?_
 first | refine wpAny_bind (wpAny_pure ?_) | skip
 refine wpAny_bind (wpAny_sequenceKey ht.typeIs (by decide) ?_)
 refine wpAny_bind (wpAny_callSpecial?_slot (name:=Str.ofString "__getitem__") ht.typeIs PyProof.Rows.slot_tuple_getitem
  (wpAny_call_entry PyProof.Rows.slot_tuple_getitem ht.typeIs entry_tuple_getitem ?_ (args_tuple_getitem _ _)))
 show wpAny _ _ (Builtin.Tuple.tupleItemsOf (.ref t) >>= _) _ _ s
 refine wpAny_bind (tupleItemsOf_ ht ?_); refine wpAny_bind (wpAny_typeOf hTs ?_)
 rw [if_pos (by decide)]
 refine wpAny_bind (zcs hs pl pu ?_)
 have hyes:((((sIx items.size 0 lo:Nat):Int) == 0 && (1:Int) == 1 && (sIx items.size items.size hi-sIx items.size 0 lo) == items.size)=true):=by
  rw [hw.1,hw.2]; simp
 show wpAny _ _ (if (((sIx items.size 0 lo:Nat):Int) == 0 && (1:Int) == 1 && (sIx items.size items.size hi-sIx items.size 0 lo) == items.size)=true then _ else _) _ _ s
 rw [if_pos hyes]; refine wpAny_bind (m:=Builtin.Tuple.tupleIsExact (.ref t)) ?_; unfold Builtin.Tuple.tupleIsExact; refine wpAny_bind (wpAny_typeOf ht.typeIs ?_); refine wpAny_pure ?_
 rw [if_pos (by decide)]
 exact wpAny_bind (wpAny_rule (wpAny_pure ⟨_,rfl,wpAny_pure h⟩))
end
end HT
namespace L2
open PySem PySem.Spec PyProof.Rows
section
variable {X:Cx}
theorem zpZ:SlR X (fun x lo hi H Q=>∃ a xs,x=.ref a/\SqT X.K H a xs/\((HT.sIx xs.length 0 lo=0/\HT.sIx xs.length xs.length hi=xs.length)->Q (.ref a) H) /\
  (¬ (HT.sIx xs.length 0 lo=0/\HT.sIx xs.length xs.length hi=xs.length)->∀ p,H p=none->Q (.ref p) (upd H p (.tup (zm2 xs lo hi))))):=by
 intro pins s σ H x v vl vu lo hi sl Q I rx hs pl pu h; obtain ⟨a,xs,rfl,hx,q1,q2⟩:=h
 by_cases hw:HT.sIx xs.length 0 lo=0/\HT.sIx xs.length xs.length hi=xs.length
 ·cases rx
  obtain ⟨its,r,ht,hz⟩:=I.tuple hx
  have hlen:its.toArray.size=xs.length:=by rw [List.size_toArray]; exact r.length.symm
  refine ⟨"tuple",_,PyProof.Rows.slot_tuple_getitem.lookup,ht.typeIs,?_⟩
  exact HT.getItem_tuple_whole ht hs pl pu (by rw [hlen]; exact hw) ⟨.ref a,H,I,rfl,q1 hw⟩
 ·exact zr8 pins s σ H _ v vl vu lo hi sl Q I rx hs pl pu ⟨a,xs,rfl,hx,hw,q2 hw⟩
end
end L2
namespace PL
open PySem L2
section
variable {X:Cx} {K:W.Frag}
def zji:R2':=fun x y Q=>∃ xs ys,x=.tup xs/\y=.tup ys/\xs.length+ys.length<=sizeLine/\Q (.tup (xs ++ ys))
theorem zs3:Op2 X (binaryOp .Add) zji:=⟨_,zqT,by
 rintro Hi H x y dx dy Q Q2 s d1 d2 ⟨xs,ys,rfl,rfl,hl,q⟩ fin
 obtain ⟨a,vs,rfl,h1,h2⟩:=d1.tupI; obtain ⟨b,us,rfl,h3,h4⟩:=d2.tupI
 refine ⟨a,b,vs,us,rfl,rfl,zC s.sub h1,zC s.sub h3,by rw [zg h2,zg h4]; exact hl,fun e=>?_,fun _ e=>?_,fun _ _ p hp=>?_⟩
 ·subst e
  cases h2; exact fin Hi H _ _ (Ext.refl s) d2 q
 ·subst e
  cases h4; rw [List.append_nil] at q; exact fin Hi H _ _ (Ext.refl s) d1 q
 ·have e:=Ext.new s hp (.tup (vs ++ us))
  exact fin _ _ _ _ e (Den.mkT zj (zah (h2.mono e.hi) (h4.mono e.hi))) q⟩
theorem zuE:Sli X zhZ:=⟨_,zpZ,by
 rintro Hi H x dx lo hi Q Q2 s d1 ⟨ds,rfl,q⟩ fin
 obtain ⟨a,vs,rfl,h1,h2⟩:=d1.tupI; have hl:=zg h2
 refine ⟨a,vs,rfl,zC s.sub h1,fun hw=>?_,fun _ p hp=>?_⟩
 ·have e:zdt ds lo hi=ds:=by
   unfold zdt; rw [<- hl,hw.1,hw.2,List.drop_zero,Nat.sub_zero,hl,List.take_length]
  rw [e] at q; exact fin Hi H _ _ (Ext.refl s) d1 q
 ·have e:=Ext.new s hp (.tup (zm2 vs lo hi))
  exact fin _ _ _ _ e (Den.mkT zj (zm1 (h2.mono e.hi))) q⟩
def eqL (f:D->D->Option Bool):List D->List D->Option Bool
 | x :: xs,y :: ys=>match f x y,eqL f xs ys with
  | some a,some b=>some (a && b)
  | _,_=>none
 | [],[]=>some true
 | _,_=>some false
def eqD:Nat->D->D->Option Bool
 | n+1,.tup xs,.tup ys=>eqL (eqD n) xs ys
 | n+1,.lst xs,.lst ys=>if xs.length=ys.length then eqL (eqD n) xs ys else some false
 | _,x,y=>eqS x y
theorem zrp {x y:V} {dx dy:D} {b:Bool} {Hi:Hp} (d1:Den K Hi x dx) (d2:Den K Hi y dy) (h:eqS dx dy=some b):zfT x=true/\zfT y=true/\eqV x y=b:=by
  have s1:=d1.scl (zd9 h); have s2:=d2.scl (zd9 (zmM _ _ h).choose_spec)
  cases s1 <;> rename_i e1 <;> subst e1 <;> cases s2 <;> rename_i e2 <;> subst e2 <;> first
    | (exact absurd (show (none:Option Bool)=some b from h) (fun z=>nomatch z))
    | (refine ⟨rfl,rfl,?_⟩
       have h':=Option.some.inj h
       subst h'
       first
         | rfl
         | (show ((_:Int) == _)=decide _; rw [Bool.beq_eq_decide_eq])
         | (show ((_:Bool) == _)=decide _; rw [Bool.beq_eq_decide_eq])
         | (show ((_:Str) == _)=decide _
            rw [Bool.beq_eq_decide_eq]
            exact decide_eq_decide.mpr ⟨fun z=>st_inj z,fun z=>congrArg st z⟩))
theorem ze3 {x:V} {dx dy:D} {b:Bool} {Hi:Hp} (d1:Den K Hi x dx) (d2:Den K Hi x dy) (h:eqS dx dy=some b):b=true:=by
 obtain ⟨f1,f2,e⟩:=zrp d1 d2 h; rw [<- e]
 cases x <;> first | rfl | (exact absurd (show false=true from f1) Bool.false_ne_true) | (show ((_:_) == _)=true; exact beq_self_eq_true _)
theorem zea {f:D->D->Option Bool} {Hi:Hp} (hf:∀ v x y b,Den K Hi v x->Den K Hi v y->f x y=some b->b=true):∀ {vs:List V} {xs ys:List D} {b:Bool},zaV K Hi vs xs->zaV K Hi vs ys->eqL f xs ys=some b->b=true
 | [],_,_,b,.nil,.nil,h=>(Option.some.inj h).symm
 | v :: vs,x :: xs,y :: ys,b,.cons r1 t1,.cons r2 t2,h=>by
  unfold eqL at h
  cases e1:f x y with
  | none=>rw [e1] at h; cases h
  | some a =>
   cases e2:eqL f xs ys with
   | none=>rw [e1,e2] at h; cases h
   | some c =>
    rw [e1,e2] at h; rw [<- Option.some.inj h,hf v x y a r1 r2 e1,zea hf t1 t2 e2]; rfl
theorem ze4 (x y:D):eqD 0 x y=eqS x y:=by cases x <;> cases y <;> rfl
section
variable {pins:List (Addr × Obj)} {σ:St} {H Hi:Hp} {s:Shared}
theorem zkw (I:L2.Inv X pins σ H s) (sub:zU Hi H):∀ (n:Nat) (v:V) (x y:D) (b:Bool),Den X.K Hi v x->Den X.K Hi v y->eqD n x y=some b->b=true:=by
 intro n
 induction n with
 | zero =>
  intro v x y b d1 d2 h; rw [ze4] at h; exact ze3 d1 d2 h
 | succ n ih =>
  intro v x y b d1 d2 h
  cases x with
  | tup xs =>
   cases y with
   | tup ys =>
    obtain ⟨a,vs,rfl,h1,h2⟩:=d1.tupI; obtain ⟨a',us,e,h3,h4⟩:=d2.tupI; cases e; have e:=I.tuple_inj (zC sub h1) (zC sub h3); subst e; exact zea ih h2 h4 h
   | _=>exact ze3 d1 d2 h
  | lst xs =>
   cases y with
   | lst ys =>
    obtain ⟨a,vs,rfl,h1,h2⟩:=d1.lstI; obtain ⟨a',us,e,h3,h4⟩:=d2.lstI; cases e; have e:=I.list_inj (zE sub h1) (zE sub h3); subst e
    have hl:xs.length=ys.length:=by rw [<- zg h2,<- zg h4]
    unfold eqD at h; rw [if_pos hl] at h; exact zea ih h2 h4 h
   | _=>exact ze3 d1 d2 h
  | _=>exact ze3 d1 d2 h
theorem zcT {f:D->D->Option Bool}:∀ {xs ys:List D} {b:Bool},eqL f xs ys=some b->∃ e:Nat->Bool,(∀ (j:Nat) x y,xs[j]?=some x->ys[j]?=some y->f x y=some (e j))/\b=((List.range (min xs.length ys.length)).all e && xs.length == ys.length)
 | [],[],b,h=>⟨fun _=>true,fun j x y h1 _=>by simp at h1,by simpa [eqL] using h.symm⟩
 | [],y :: ys,b,h=>⟨fun _=>true,fun j x y h1 _=>by simp at h1,by simpa [eqL] using h.symm⟩
 | x :: xs,[],b,h=>⟨fun _=>true,fun j x y _ h2=>by simp at h2,by simpa [eqL] using h.symm⟩
 | x :: xs,y :: ys,b,h=>by
  unfold eqL at h
  cases e1:f x y with
  | none=>rw [e1] at h; cases h
  | some a =>
   cases e2:eqL f xs ys with
   | none=>rw [e1,e2] at h; cases h
   | some c =>
    rw [e1,e2] at h; obtain ⟨e,h1,h2⟩:=zcT e2
    refine ⟨fun j=>match j with | 0=>a | j+1=>e j,fun j x' y' hx hy=>?_,?_⟩
    ·cases j with
     | zero=>simp at hx hy; subst hx; subst hy; exact e1
     | succ j=>exact h1 j x' y' (by simpa using hx) (by simpa using hy)
    ·rw [<- Option.some.inj h,h2]
     have hm:min (x :: xs).length (y :: ys).length=min xs.length ys.length+1:=by simp [Nat.succ_min_succ]
     rw [hm,List.range_succ_eq_map,List.all_cons,List.all_map]
     show (a && ((List.range (min xs.length ys.length)).all e && xs.length == ys.length))=((a && (List.range (min xs.length ys.length)).all e) && (x :: xs).length == (y :: ys).length)
     rw [Bool.and_assoc]
     congr 2
     simp
theorem zts (I:L2.Inv X pins σ H s) (sub:zU Hi H):∀ (n:Nat) (A:Around) (x y:V) (u v:Value) (dx dy:D) (b:Bool),A.units+n<cLine->Den X.K Hi x dx->Den X.K Hi y dy->zao x u->zao y v->eqD n dx dy=some b->SeqAt.EqAt A s u v b:=by
 intro n
 induction n with
 | zero =>
  intro A x y u v dx dy b hu d1 d2 rx ry h; rw [ze4] at h; obtain ⟨f1,f2,e⟩:=zrp d1 d2 h; rw [<- e]; exact zmO rx ry f1 f2
 | succ n ih =>
  intro A x y u v dx dy b hu d1 d2 rx ry h
  have zp3:eqS dx dy=some b->SeqAt.EqAt A s u v b:=fun h=>by
   obtain ⟨f1,f2,e⟩:=zrp d1 d2 h; rw [<- e]; exact zmO rx ry f1 f2
  have items:∀ {vs ws:List V} {its jts:List Value} {xs ys:List D} {e:Nat->Bool},zaV X.K Hi vs xs->zaV X.K Hi ws ys->zae vs its->zae ws jts->(∀ (j:Nat) x y,xs[j]?=some x->ys[j]?=some y->eqD n x y=some (e j)) ->
    ∀ j (h1:j<its.toArray.size) (h2:j<jts.toArray.size),SeqAt.EqAt A.in1 s its.toArray[j] jts.toArray[j] (e j):=fun {vs ws its jts xs ys e} r1 r2 v1 v2 he j h1 h2=>by
   have l1:j<vs.length:=by rw [v1.length]; simpa using h1
   have l2:j<ws.length:=by rw [v2.length]; simpa using h2
   obtain ⟨dx',e1,q1⟩:=zcl r1 (List.getElem?_eq_getElem l1); obtain ⟨dy',e2,q2⟩:=zcl r2 (List.getElem?_eq_getElem l2); obtain ⟨u1,e3,q3⟩:=v1.get (List.getElem?_eq_getElem l1); obtain ⟨u2,e4,q4⟩:=v2.get (List.getElem?_eq_getElem l2)
   have z1:its.toArray[j]=u1:=by
    have:=List.getElem?_eq_some_iff.mp e3
    obtain ⟨_,z⟩:=this
    simpa using z
   have z2:jts.toArray[j]=u2:=by
    have:=List.getElem?_eq_some_iff.mp e4
    obtain ⟨_,z⟩:=this
    simpa using z
   rw [z1,z2]
   exact ih A.in1 _ _ u1 u2 dx' dy' (e j) (by show A.units+1+n<cLine; omega) q1 q2 q3 q4 (he j dx' dy' e1 e2)
  cases dx with
  | tup xs =>
   cases dy with
   | tup ys =>
    obtain ⟨a,vs,rfl,h1,h2⟩:=d1.tupI; obtain ⟨c,ws,rfl,h3,h4⟩:=d2.tupI; cases rx; cases ry
    by_cases hac:a=c
    ·subst hac
     have e:=I.tuple_inj (zC sub h1) (zC sub h3); subst e; rw [zea (zkw I sub n) h2 h4 h]; exact SeqAt.EqAt.same _
    ·obtain ⟨its,r1,p1,_⟩:=I.tuple (zC sub h1)
     obtain ⟨jts,r2,p2,_⟩:=I.tuple (zC sub h3); obtain ⟨e,he,hb⟩:=zcT h
     have lx:xs.length=its.length:=by rw [<- zg h2,r1.length]
     have ly:ys.length=jts.length:=by rw [<- zg h4,r2.length]
     have hb':b=((List.range (min its.toArray.size jts.toArray.size)).all e && its.toArray.size == jts.toArray.size):=by
      rw [hb,lx,ly]; simp
     rw [hb']
     exact SeqAt.EqAt.of_refs hac (SeqAt.RcAt.tuples (show s.heap.IsTuple a its.toArray from p1) (show s.heap.IsTuple c jts.toArray from p2) (by omega) (items h2 h4 r1 r2 he))
   | _=>exact zp3 h
  | lst xs =>
   cases dy with
   | lst ys =>
    obtain ⟨a,vs,rfl,h1,h2⟩:=d1.lstI; obtain ⟨c,ws,rfl,h3,h4⟩:=d2.lstI; cases rx; cases ry; unfold eqD at h
    by_cases hac:a=c
    ·subst hac
     have e:=I.list_inj (zE sub h1) (zE sub h3); subst e
     have hl:xs.length=ys.length:=by rw [<- zg h2,<- zg h4]
     rw [if_pos hl] at h; rw [zea (zkw I sub n) h2 h4 h]; exact SeqAt.EqAt.same _
    ·obtain ⟨its,r1,p1,_⟩:=I.list (zE sub h1)
     obtain ⟨jts,r2,p2,_⟩:=I.list (zE sub h3)
     have lx:xs.length=its.length:=by rw [<- zg h2,r1.length]
     have ly:ys.length=jts.length:=by rw [<- zg h4,r2.length]
     by_cases hl:xs.length=ys.length
     ·rw [if_pos hl] at h
      obtain ⟨e,he,hb⟩:=zcT h
      have hs:its.toArray.size=jts.toArray.size:=by simp; omega
      have hb':b=((List.range its.toArray.size).all e):=by
       rw [hb,lx,ly]
       have z:(its.length == jts.length)=true:=by simp; omega
       have z2:min its.length jts.length=its.length:=by omega
       rw [z,z2,Bool.and_true]; simp
      rw [hb']
      exact SeqAt.EqAt.of_refs hac (SeqAt.RcAt.lists p1.isList p2.isList hs (by omega) (items h2 h4 r1 r2 he))
     ·rw [if_neg hl] at h
      cases h
      exact SeqAt.EqAt.of_refs hac (SeqAt.RcAt.lists_lengths p1.isList p2.isList (by simp; omega) (by omega))
   | _=>exact zp3 h
  | _=>exact zp3 h
end
end
end PL
namespace PL
open PySem L2
section
variable {X:Cx} {K:W.Frag}
section
variable {pins:List (Addr × Obj)} {σ:St} {H Hi:Hp} {s:Shared}
theorem zkt (I:L2.Inv X pins σ H s) (sub:zU Hi H) {n:Nat} {A:Around} (hu:A.units+1+n<cLine) {vs ws:List V} {its jts:List Value} {xs ys:List D} {e:Nat->Bool} (r1:zaV X.K Hi vs xs) (r2:zaV X.K Hi ws ys) (v1:zae vs its) (v2:zae ws jts) (he:∀ (j:Nat) x y,xs[j]?=some x->ys[j]?=some y->eqD n x y=some (e j)) :
  ∀ j (h1:j<its.toArray.size) (h2:j<jts.toArray.size),SeqAt.EqAt A.in1 s its.toArray[j] jts.toArray[j] (e j):=fun j h1 h2=>by
 have l1:j<vs.length:=by rw [v1.length]; simpa using h1
 have l2:j<ws.length:=by rw [v2.length]; simpa using h2
 obtain ⟨dx',e1,q1⟩:=zcl r1 (List.getElem?_eq_getElem l1); obtain ⟨dy',e2,q2⟩:=zcl r2 (List.getElem?_eq_getElem l2); obtain ⟨u1,e3,q3⟩:=v1.get (List.getElem?_eq_getElem l1); obtain ⟨u2,e4,q4⟩:=v2.get (List.getElem?_eq_getElem l2)
 have z1:its.toArray[j]=u1:=by
  obtain ⟨_,z⟩:=List.getElem?_eq_some_iff.mp e3
  simpa using z
 have z2:jts.toArray[j]=u2:=by
  obtain ⟨_,z⟩:=List.getElem?_eq_some_iff.mp e4
  simpa using z
 rw [z1,z2]
 exact zts I sub n A.in1 _ _ u1 u2 dx' dy' (e j) (by show A.units+1+n<cLine; omega) q1 q2 q3 q4 (he j dx' dy' e1 e2)
theorem zvS (I:L2.Inv X pins σ H s) (sub:zU Hi H) {n:Nat} {A:Around} {x y:V} {u v:Value} {dx dy:D} {b:Bool} (hu:A.units+n<cLine) (d1:Den X.K Hi x dx) (d2:Den X.K Hi y dy) (rx:zao x u) (ry:zao y v) (h:eqD n dx dy=some b) (hn:eqS dx dy=none) :
  SeqAt.RcAt A s u v b/\SeqAt.RcNeAt A s u v (!b):=by
 cases n with
 | zero=>rw [ze4,hn] at h; cases h
 | succ n =>
  cases dx with
  | tup xs =>
   cases dy with
   | tup ys =>
    obtain ⟨a,vs,rfl,h1,h2⟩:=d1.tupI; obtain ⟨c,ws,rfl,h3,h4⟩:=d2.tupI; cases rx; cases ry; obtain ⟨its,r1,p1,_⟩:=I.tuple (zC sub h1); obtain ⟨jts,r2,p2,_⟩:=I.tuple (zC sub h3); obtain ⟨e,he,hb⟩:=zcT h
    have lx:xs.length=its.length:=by rw [<- zg h2,r1.length]
    have ly:ys.length=jts.length:=by rw [<- zg h4,r2.length]
    have hb':b=((List.range (min its.toArray.size jts.toArray.size)).all e && its.toArray.size == jts.toArray.size):=by
     rw [hb,lx,ly]; simp
    have hi:=zkt (A:=A) I sub (by omega) h2 h4 r1 r2 he
    rw [hb']
    exact ⟨SeqAt.RcAt.tuples (show s.heap.IsTuple a its.toArray from p1) (show s.heap.IsTuple c jts.toArray from p2) (by omega) hi,SeqAt.RcNeAt.tuples (show s.heap.IsTuple a its.toArray from p1) (show s.heap.IsTuple c jts.toArray from p2) (by omega) hi⟩
   | _=>exact absurd (hn.symm.trans h) (fun z=>nomatch z)
  | lst xs =>
   cases dy with
   | lst ys =>
    obtain ⟨a,vs,rfl,h1,h2⟩:=d1.lstI; obtain ⟨c,ws,rfl,h3,h4⟩:=d2.lstI; cases rx; cases ry; unfold eqD at h; obtain ⟨its,r1,p1,_⟩:=I.list (zE sub h1); obtain ⟨jts,r2,p2,_⟩:=I.list (zE sub h3)
    have lx:xs.length=its.length:=by rw [<- zg h2,r1.length]
    have ly:ys.length=jts.length:=by rw [<- zg h4,r2.length]
    by_cases hl:xs.length=ys.length
    ·rw [if_pos hl] at h
     obtain ⟨e,he,hb⟩:=zcT h
     have hs:its.toArray.size=jts.toArray.size:=by simp; omega
     have hb':b=((List.range its.toArray.size).all e):=by
      rw [hb,lx,ly]
      have z:(its.length == jts.length)=true:=by simp; omega
      have z2:min its.length jts.length=its.length:=by omega
      rw [z,z2,Bool.and_true]; simp
     have hi:=zkt (A:=A) I sub (by omega) h2 h4 r1 r2 he
     rw [hb']
     exact ⟨SeqAt.RcAt.lists p1.isList p2.isList hs (by omega) hi,SeqAt.RcNeAt.lists p1.isList p2.isList hs (by omega) hi⟩
    ·rw [if_neg hl] at h
     cases h
     exact ⟨SeqAt.RcAt.lists_lengths p1.isList p2.isList (by simp; omega) (by omega),SeqAt.RcNeAt.lists_lengths p1.isList p2.isList (by simp; omega) (by omega)⟩
   | _=>exact absurd (hn.symm.trans h) (fun z=>nomatch z)
  | _=>exact absurd (hn.symm.trans h) (fun z=>nomatch z)
end
def znm:R2':=fun x y Q=>∃ b,eqD 100 x y=some b/\Q (.bl b)
def zph:R2':=fun x y Q=>∃ b,eqD 100 x y=some b/\Q (.bl (!b))
theorem zkv {n:Nat} {x y:D} {b c:Bool} (h:eqD n x y=some b) (e:eqS x y=some c):b=c:=by
 cases n with
 | zero=>rw [ze4,e] at h; exact (Option.some.inj h).symm
 | succ n =>
  have z:eqD (n+1) x y=eqS x y:=by
   cases x <;> first | rfl | (cases y <;> first | rfl | (exact absurd (show (none:Option Bool)=some c from e) (fun z=>nomatch z)))
  rw [z,e] at h; exact (Option.some.inj h).symm
theorem zbh (hu:X.A.units+100<cLine):Op2 X (compareOp .Eq) znm:=by
 refine ⟨fun x y H Q=>∃ Hi dx dy b,zU Hi H/\Den X.K Hi x dx/\Den X.K Hi y dy/\eqD 100 dx dy=some b/\Q (.bl b) H,?_,?_⟩
 ·intro pins s σ H x y v u Q I rx ry h
  obtain ⟨Hi,dx,dy,b,sub,d1,d2,e,q⟩:=h
  cases hn:eqS dx dy with
  | some c =>
   obtain ⟨h1,h2⟩:=zpG d1 d2 hn; refine zu4 pins s σ H x y v u Q I rx ry ⟨h1,?_⟩; rw [h2,<- zkv e hn]; exact q
  | none=>exact (zvS I sub hu d1 d2 rx ry e hn).1 X.prog X.w X.xe _ ⟨.bl b,H,I,rfl,q⟩
 ·rintro Hi H x y dx dy Q Q2 s d1 d2 ⟨b,e,q⟩ fin
  exact ⟨Hi,dx,dy,b,s.sub,d1,d2,e,fin Hi H _ _ (Ext.refl s) (.bl b) q⟩
theorem zop (hu:X.A.units+100<cLine):Op2 X (compareOp .NotEq) zph:=by
 refine ⟨fun x y H Q=>∃ Hi dx dy b,zU Hi H/\Den X.K Hi x dx/\Den X.K Hi y dy/\eqD 100 dx dy=some b/\Q (.bl (!b)) H,?_,?_⟩
 ·intro pins s σ H x y v u Q I rx ry h
  obtain ⟨Hi,dx,dy,b,sub,d1,d2,e,q⟩:=h
  cases hn:eqS dx dy with
  | some c =>
   obtain ⟨h1,h2⟩:=zpG d1 d2 hn; refine zu1 pins s σ H x y v u Q I rx ry ⟨h1,?_⟩; rw [h2,<- zkv e hn]; exact q
  | none=>exact (zvS I sub hu d1 d2 rx ry e hn).2 X.prog X.w X.xe _ ⟨.bl (!b),H,I,rfl,q⟩
 ·rintro Hi H x y dx dy Q Q2 s d1 d2 ⟨b,e,q⟩ fin
  exact ⟨Hi,dx,dy,b,s.sub,d1,d2,e,fin Hi H _ _ (Ext.refl s) (.bl (!b)) q⟩
instance:MR2 znm:=⟨fun _ _ _ _ h ⟨b,e,q⟩=>⟨b,e,h _ q⟩⟩
instance:MR2 zph:=⟨fun _ _ _ _ h ⟨b,e,q⟩=>⟨b,e,h _ q⟩⟩
@[simp] theorem zvs (n:Nat) (i j:Int):eqD n (.int i) (.int j)=some (decide (i=j)):=by cases n <;> rfl
@[simp] theorem zmN (n:Nat) (i j:List Nat):eqD n (.str i) (.str j)=some (decide (i=j)):=by cases n <;> rfl
@[simp] theorem zt5 {Q:D->Prop} (i j:Int):znm (.int i) (.int j) Q↔Q (.bl (decide (i=j))):=by simp [znm]
@[simp] theorem zt4 {Q:D->Prop} (i j:List Nat):znm (.str i) (.str j) Q↔Q (.bl (decide (i=j))):=by simp [znm]
@[simp] theorem ztV {Q:D->Prop} (i j:List Nat):zph (.str i) (.str j) Q↔Q (.bl (!decide (i=j))):=by simp [zph]
def plc (p:List (List Nat)):D:=.tup (p.map .str)
theorem zku (f:D->D->Option Bool) (hf:∀ i j:List Nat,f (.str i) (.str j)=some (decide (i=j))):∀ p q:List (List Nat),eqL f (p.map .str) (q.map .str)=some (decide (p=q))
 | [],[]=>rfl
 | [],_ :: _=>by simp [eqL]
 | _ :: _,[]=>by simp [eqL]
 | a :: p,b :: q=>by
  simp only [List.map_cons,eqL,hf,zku f hf p q]
  by_cases h1:a=b <;> by_cases h2:p=q <;> simp [h1,h2]
theorem zjH (n:Nat) (p q:List (List Nat)):eqD (n+1) (plc p) (plc q)=some (decide (p=q)):=zku _ (fun i j=>zmN n i j) p q
@[simp] theorem znV {Q:D->Prop} (p q:List (List Nat)):znm (plc p) (plc q) Q↔Q (.bl (decide (p=q))):=by
 unfold znm; rw [zjH]; simp
@[simp] theorem ztW {Q:D->Prop} (p q:List (List Nat)):zph (plc p) (plc q) Q↔Q (.bl (!decide (p=q))):=by
 unfold zph; rw [zjH]; simp
end
section
variable {K:W.Frag} {n:Nat} {W:Wd} {Hi Hi' H H':Hp} {Γ:Sts} {σ:St} {a:Addr} {o:OD}
theorem zkK {i:Nat} (h:i<n) (e:adr n W σ i=some a):σ[i]?=some (some (.ref a)):=by
 unfold adr at e; rw [if_pos h] at e; exact zgt e
end
section
variable {X:Cx}
def zfe (i:Nat) (te:TE'):TS':=fun N Γ=>(∃ ds0,Γ[i]?=some (.own (.lst ds0)))/\te Γ fun d Γ1=>∃ ds,Γ1[i]?=some (.own (.lst ds))/\ds.length<sizeLine/\N.nx (Γ1.set i (.own (.lst (ds ++ [d]))))
theorem zgv (i:Nat) {x:Str} {e:Expr} {te:TE'} {pos p apos cpos:Pos} (he:PE' X e te) (hN:X.N[i]?=some x:=by rfl) (hv:Vis X.env.scope x:=by first | exact Or.inl rfl | exact Or.inr (Or.inl rfl) | exact Or.inr (Or.inr rfl)) (hd:(x == ("__debug__":Str))=false:=by decide)
  (hcd:(x == ("__classdict__":Str))=false:=by decide) (hst:zcR e=false:=by rfl)
  (hbase:attributeBase (.Name x p) "append" X.env (eval (.Name x p) X.env)=eval (.Name x p) X.env:=by rfl) (hline:(apos.endLine == cpos.line)=true:=by rfl)
  (hs:swapsWith (.Call (.Attribute (.Name x p) "append" apos) [e] [] cpos) none pos.line X.env=pure false:=by rfl) :
  PS' X (.Expr (.Call (.Attribute (.Name x p) "append" apos) [e] [] cpos) pos) (zfe i te):=by
 have pl:zbN [e]=true:=by unfold zbN; rw [hst]; rfl
 have hfew:((backTo cpos (starEach [e] X.env)).all (fun x=>!x.1) && (backToKw cpos (keywordEach [] X.env)).all (fun x=>x.1.isSome)
   && decide ([e].length+([]:List Keyword).length+(if ([]:List Keyword).isEmpty then 0 else 1)<30))=true:=by
  rw [zK hst]; rfl
 have base:=zjk (zqJ PySem.F.plainAttrs_list PySem.F.slot_list_append PySem.F.type_list_append (zfD (X:=X)) (zdZ (i:=i) (pos:=p) hN hv hd hcd) (zcO he.h zke (zK hst)) hbase hfew hline (zK hst) rfl) hs; refine ⟨PS.weak base ?_⟩
 rintro N2 σ H ⟨W,Hi,Γ,N,g,⟨⟨ds0,e0⟩,q⟩,l⟩
 have hi:i<X.N.length:=(List.getElem?_eq_some_iff.mp hN).1
 obtain ⟨a,h1,h2,h3,vs0,h4,h5⟩:=g.own i _ e0; refine ⟨.ref a,zkK hi h1,.inl ⟨rfl,vs0,SqL.of h4⟩,W,Hi,Γ,_,g,q,?_⟩
 rintro v H1 ⟨Hi1,d,Γ1,s1,g1,den,ds,e1,hl,q1⟩
 obtain ⟨a',k1,k2,k3,vs,k4,k5⟩:=g1.own i _ e1; rw [h1] at k1; cases k1
 refine ⟨a,vs,v,rfl,rfl,k4,by rw [zg k5]; exact hl,?_⟩
 exact l.nx σ _ Hi1 _ s1 (g1.put (o:=.lst (ds ++ [d])) e1 h1 ⟨vs ++ [v],zj,zah k5 (.cons den .nil)⟩) q1
instance {i:Nat} {te:TE'} [ME te]:MS (zfe i te):=⟨fun N N' Γ h ⟨a,q⟩=>⟨a,ME.mono (t:=te) _ _ _ (fun _ _ ⟨ds,e,l,z⟩=>⟨ds,e,l,h.nx _ z⟩) q⟩⟩
end
end PL
namespace PL
open PySem L2
inductive Imm:D->Prop where
 | non:Imm .non
 | bl (b:Bool):Imm (.bl b)
 | int (i:Int):Imm (.int i)
 | str (l:List Nat):Imm (.str l)
 | ty (n:String):Imm (.ty n)
 | cls (C:Addr):Imm (.cls C)
 | tup {ds:List D} (h:∀ d,d ∈ ds->Imm d):Imm (.tup ds)
theorem Imm.plc (p:List (List Nat)):Imm (plc p):=.tup fun d hd=>by
 obtain ⟨l,_,rfl⟩:=List.mem_map.mp hd; exact .str l
theorem Imm.den {K:W.Frag} {H H':Hp} {v:V} {d:D} (im:Imm d) (h:Den K H v d) (e:∀ a xs,(H a=some (.tup xs)->H' a=some (.tup xs))/\∀ o,H a=some (.frz o (.tup xs))->H' a=some (.frz o (.tup xs))):Den K H' v d:=by
 induction h with
 | non=>exact .non
 | bl b=>exact .bl b
 | int i=>exact .int i
 | str l=>exact .str l
 | ty n=>exact .ty n
 | cls C=>exact .cls C
 | tup h l r ih =>
  cases im with
  | tup hi =>
   exact .tup ((e _ _).1 h) l fun j v d h1 h2=>ih j v d h1 h2 (hi d (List.mem_of_getElem? h2))
 | _=>cases im
def zlK:Slot->Slot
 | .own o=>.val o.toD
 | .val d=>.val d
 | .bk d _ xs=>.val (d xs.toD)
 | _=>.emp
section
variable {K:W.Frag} {n:Nat} {W:Wd} {Hi Hi' H H':Hp} {Γ:Sts} {σ:St} {a:Addr} {o:OD}
def zeC (n:Nat) (W:Wd) (Γ:Sts) (σ:St) (b:Addr):Prop:=(∃ (i:Nat) (o:OD),i<n/\Γ[i]?=some (.own o)/\adr n W σ i=some b)\/∃ (i:Nat) (d:D->D) (xs:OD),Γ[i]?=some (.bk d b xs)
open Classical in
noncomputable def zbC (n:Nat) (W:Wd) (Γ:Sts) (σ:St) (Hi H:Hp):Hp:=fun b=>if zeC n W Γ σ b then H b else Hi b
open Classical in
noncomputable def zcu (n:Nat) (W:Wd) (Γ:Sts) (σ:St) (Hb:Hp):Hp:=fun b=>if zeC n W Γ σ b then none else Hb b
theorem zeC.hi (g:Good K n W Hi Γ σ H) {b:Addr} (h:zeC n W Γ σ b):Hi b=none/\∃ u,H b=some u/\(∀ xs,u≠.tup xs)/\∀ o xs,u≠.frz o xs:=by
 have key:∃ o,Hi b=none/\zaU K Hi H b o:=by
  rcases h with ⟨i,o,hi,e,ad⟩ | ⟨i,d,xs,e⟩
  ·obtain ⟨a,h1,h2,h3,h4⟩:=g.own i o e
   rw [ad] at h1; cases h1; exact ⟨o,h2,h4⟩
  ·exact ⟨xs,(g.bk i d b xs e).hi,(g.bk i d b xs e).at_⟩
 obtain ⟨o,h2,h4⟩:=key; refine ⟨h2,?_⟩
 cases o with
 | lst ds=>obtain ⟨vs,q,_⟩:=h4; exact ⟨_,q,⟨fun _ z=>(by cases z),fun _ _ z=>(by cases z)⟩⟩
 | dic ds=>obtain ⟨kvs,q,_⟩:=h4; exact ⟨_,q,⟨fun _ z=>(by cases z),fun _ _ z=>(by cases z)⟩⟩
 | dit ds=>obtain ⟨kvs,ep,q,_⟩:=h4; exact ⟨_,q,⟨fun _ z=>(by cases z),fun _ _ z=>(by cases z)⟩⟩
 | obj C ds=>obtain ⟨dx,fs,q,_⟩:=h4; exact ⟨_,q,⟨fun _ z=>(by cases z),fun _ _ z=>(by cases z)⟩⟩
def zcQ (n:Nat) (Γ:Sts):Sts:=(Γ.take n).map zlK
theorem Good.look (g:Good K n W Hi Γ σ H):zU Hi (zbC n W Γ σ Hi H)/\Good K n ⟨H,zbC n W Γ σ Hi H,[]⟩ (zbC n W Γ σ Hi H) (zcQ n Γ) σ H:=by
 have s1:zU Hi (zbC n W Γ σ Hi H):=fun b u e=>by
  unfold zbC
  rw [if_neg (fun z=>by rw [(zeC.hi g z).1] at e; cases e)]
  exact e
 have inv:∀ (i:Nat) (sl:Slot),(zcQ n Γ)[i]?=some sl->∃ s0,Γ[i]?=some s0/\i<n/\sl=zlK s0:=fun i sl e=>by
  unfold zcQ at e; rw [List.getElem?_map] at e
  cases hj:(Γ.take n)[i]? with
  | none=>rw [hj] at e; cases e
  | some s0 =>
   rw [hj] at e; rw [List.getElem?_take] at hj; split at hj
   ·exact ⟨s0,hj,by assumption,(Option.some.inj e).symm⟩
   ·cases hj
 refine ⟨s1,g.len,⟨fun b u e=>?_,fun b xs e=>s1 _ _ (g.fz.tups b xs e)⟩,fun b u e _=>e,fun b u e=>⟨u,e⟩,fun b u e=>rfl,fun i d e=>?_,fun i o e=>?_,fun i j o o' a e=>?_,fun i d b xs e=>?_⟩
 ·unfold zbC at e
  split at e
  ·exact e
  ·exact g.sub b u e
 ·obtain ⟨s0,hj,hi,hs⟩:=inv i _ e
  cases s0 with
  | val d' =>
   cases hs; obtain ⟨v,h1,h2⟩:=g.val i d hj; exact ⟨v,h1,h2.mono s1⟩
  | own o =>
   cases hs; obtain ⟨a,h1,h2,h3,h4⟩:=g.own i o hj; refine ⟨.ref a,zkK hi h1,?_⟩
   have hO:zeC n W Γ σ a:=.inl ⟨i,o,hi,hj,h1⟩
   have hl:zbC n W Γ σ Hi H a=H a:=by unfold zbC; rw [if_pos hO]
   cases o with
   | lst ds=>obtain ⟨vs,q,r⟩:=h4; exact Den.mkL (SqL.of (hl.trans q)) (r.mono s1)
   | dic ds=>obtain ⟨kvs,q,r⟩:=h4; exact Den.mkDK (.inl (hl.trans q)) (r.mono s1)
   | dit ds=>obtain ⟨kvs,ep,q,r⟩:=h4; exact Den.mkDT (hl.trans q) (r.mono s1)
   | obj C ds=>obtain ⟨dx,fs,q,r⟩:=h4; exact Den.mkO (hl.trans q) (r.mono s1)
  | emp=>cases hs
  | bk d' b xs =>
   cases hs
   obtain ⟨⟨v,h1,h2⟩,hol,_,_,h4,_⟩:=g.bk i d' b xs hj
   have hl:zbC n W Γ σ Hi H b=H b:=by unfold zbC; rw [if_pos (.inr ⟨i,d',xs,hj⟩)]
   refine ⟨v,h1,hol b _ v xs ?_ (h2.mono s1)⟩
   cases xs with
   | lst ds=>obtain ⟨vs,q,r⟩:=h4; exact Den.mkL (SqL.of (hl.trans q)) (r.mono s1)
   | dic ds=>obtain ⟨kvs,q,r⟩:=h4; exact Den.mkDK (.inl (hl.trans q)) (r.mono s1)
   | dit ds=>obtain ⟨kvs,ep,q,r⟩:=h4; exact Den.mkDT (hl.trans q) (r.mono s1)
   | obj C ds=>obtain ⟨dx,fs,q,r⟩:=h4; exact Den.mkO (hl.trans q) (r.mono s1)
 all_goals
  obtain ⟨s0,hj,hi,hs⟩:=inv i _ e
  cases s0 <;> cases hs
theorem Good.unlook (g:Good K n W Hi Γ σ H) {Hb:Hp} {Γ':Sts} (sb:zU (zbC n W Γ σ Hi H) Hb) (g':Good K n ⟨H,zbC n W Γ σ Hi H,[]⟩ Hb Γ' σ H') :
  Ext Hi H (zcu n W Γ σ Hb) H'/\Good K n W (zcu n W Γ σ Hb) Γ σ H'/\∀ v d,Imm d->Den K Hb v d->Den K (zcu n W Γ σ Hb) v d:=by
 have kp:∀ b u,H b=some u->H' b=some u:=fun b u e=>g'.keep b u e (by simp)
 have s1:zU Hi (zcu n W Γ σ Hb):=fun b u e=>by
  have no:¬ zeC n W Γ σ b:=fun z=>by rw [(zeC.hi g z).1] at e; cases e
  unfold zcu; rw [if_neg no]; refine sb b u ?_; unfold zbC; rw [if_neg no]; exact e
 have ex:Ext Hi H (zcu n W Γ σ Hb) H':=by
  refine ⟨s1,kp,⟨fun b u e=>?_,fun b xs e=>?_⟩,fun b u e=>?_⟩
  ·unfold zcu at e
   split at e
   ·cases e
   ·exact g'.sub b u e
  ·have z:=g'.fz.tups b xs e
   have no:¬ zeC n W Γ σ b:=fun z=>by
    obtain ⟨_,w,hw,w1,_⟩:=zeC.hi g z; rw [kp b w hw] at e; cases e; exact w1 xs rfl
   unfold zcu; rw [if_neg no]; exact z
  ·unfold zcu
   split
   ·rename_i z
    exact (zeC.hi g z).1.symm
   ·rename_i z
    rw [g'.fro b u e]
    show zbC n W Γ σ Hi H b=Hi b
    unfold zbC; rw [if_neg z]
 refine ⟨ex,g.ext ex,fun v d im den=>im.den den fun b xs=>?_⟩
 have no:∀ u,Hb b=some u->((∃ xs,u=.tup xs)\/∃ o xs,u=.frz o xs)->¬ zeC n W Γ σ b:=fun u e hu z=>by
  obtain ⟨_,w,hw,w1,w2⟩:=zeC.hi g z; have e2:=g'.sub b u e; rw [kp b w hw] at e2; cases e2
  rcases hu with ⟨xs,hu⟩ | ⟨o,xs,hu⟩
  ·exact w1 xs hu
  ·exact w2 o xs hu
 constructor
 ·intro e
  unfold zcu; rw [if_neg (no _ e (.inl ⟨_,rfl⟩))]; exact e
 ·intro o e
  unfold zcu; rw [if_neg (no _ e (.inr ⟨_,_,rfl⟩))]; exact e
end
section
variable {X:Cx}
def zfb (n:Nat) (t:TE'):TE':=fun Γ Q=>t (zcQ n Γ) fun d _=>Imm d/\Q d Γ
def zcx (n:Nat) (t:TT'):TT':=fun Γ Q=>t (zcQ n Γ) fun b _=>Q b Γ
theorem zqC {e:Expr} {t:TE'} (h:PE' X e t):PE' X e (zfb X.N.length t):=by
 refine ⟨PE.weak h.h ?_⟩
 rintro σ H Q ⟨W,Hi,Γ,Q',g,q,fin⟩
 obtain ⟨s1,g1⟩:=g.look; refine ⟨_,_,_,_,g1,q,?_⟩
 rintro v H' ⟨Hb,d,Γ',sb,g',den,im,q'⟩
 obtain ⟨s2,g2,hd⟩:=g.unlook sb g'; exact fin v H' ⟨_,d,Γ,s2.hi,g2,hd v d im den,q'⟩
theorem zma {e:Expr} {t:TT'} (h:PT' X e t):PT' X e (zcx X.N.length t):=by
 refine ⟨PT.weak h.h ?_⟩
 rintro σ H Q ⟨W,Hi,Γ,Q',g,q,fin⟩
 obtain ⟨s1,g1⟩:=g.look; refine ⟨_,_,_,_,g1,q,?_⟩; intro b H' Hb Γ' sb g' q'; obtain ⟨s2,g2,hd⟩:=g.unlook sb g'; exact fin b H' _ Γ s2.hi g2 q'
instance {n:Nat} {t:TE'} [ME t]:ME (zfb n t):=⟨fun Γ _ _ h q=>ME.mono (t:=t) _ _ _ (fun _ _ ⟨a,z⟩=>⟨a,h _ _ z⟩) q⟩
instance {n:Nat} {t:TT'} [MT t]:MT (zcx n t):=⟨fun Γ _ _ h q=>MT.mono (t:=t) _ _ _ (fun _ _ z=>h _ _ z) q⟩
end
end PL
namespace L2
open PySem PySem.Spec PyProof.Rows
section
variable {P:Program} {w:World} {H:Hp} {h:Heap} {a:Addr} {kvs:List (List Key × V)} {ep:Nat}
theorem zeQ (ok:HOk P w H h) (e:H a=some (.dE kvs ep)):kvs.length<=sizeLine/\(a == sysModules)=false /\
  ∃ xs,KT H kvs xs/\h.DictOfH (tupleKind (zaS P w)) a xs/\∃ o es,h.get? a=some o/\o.ExactDict/\o.data=.dict es ep/\es.toList=xs.map (entryOfKey (tupleKind (zaS P w))):=by
 obtain ⟨z,y,xs,r,o,es,h1,h2,h3,h4,h5⟩:=(show zaP P w H h a (.dE kvs ep) from ok a _ e)
 refine ⟨z,y,xs,r,⟨o,es,ep,h1,h2,h3,h4,fun x hx=>?_,h5⟩,o,es,h1,h2,h3,h4⟩
 obtain ⟨j,hj⟩:=List.getElem?_of_mem hx
 have hl:j<kvs.length:=by
  rw [Paired.length r]; exact (List.getElem?_eq_some_iff.mp hj).1
 have q:=PL.paired_get j r (List.getElem?_eq_getElem hl) hj
 exact zfO ok (by rw [<- q.1]; exact q.2.1)
end
def znu (H:Hp) (a:Addr) (y:V) (r:Option V):Prop:=∃ kvs ep k b,H a=some (.dE kvs ep)/\y=.ref b/\H b=some (.tup (k.map kV))/\r=zny kvs k
section
variable {X:Cx} {pins:List (Addr × Obj)} {σ:St} {H:Hp} {s:Shared} {a:Addr} {y v:V} {u r:Value} {o:Option V} {A:Around} {E:Value->Shared->Prop}
theorem zoZ (I:Inv X pins σ H s) (g:znu H a y o):s.TypeIs (.ref a) "dict":=by
 obtain ⟨kvs,ep,k,b,e,_⟩:=g; obtain ⟨_,_,xs,_,dd,_⟩:=zeQ I.hok e; exact dd.typeIs
theorem zmQ {Q:Value->Shared->Prop} (hu:A.units+1<cLine) (I:Inv X pins σ H s) (g:znu H a y (some v)) (ry:zao y u) (h:∀ w' s',Inv X pins σ H s'->zao v w'->Q w' s') :
  wpAny (model X.prog X.w) A (getItem (.ref a) u) Q E s:=by
 obtain ⟨kvs,ep,k,b,e,ey,eb,l⟩:=g; subst ey
 cases (show u=Value.ref b from ry)
 obtain ⟨z,hd,xs,rel,dd,_⟩:=zeQ I.hok e
 obtain ⟨w',hw,rw'⟩:=zi0.some_of (v:=v) (o:=(atKey xs k).map (·.2)) (by rw [l]; exact rel.val k)
 obtain ⟨p,hp,hp2⟩:=Option.map_eq_some_iff.mp hw; refine wpAny_getItem_heap (tupleKind_room_in1 hu) (zfO I.hok eb) dd hp ?_; rw [hp2]; exact h w' _ (I.tok _) rw'
theorem zwG {Q:Value->Shared->Prop} (hu:A.units+1<cLine) (I:Inv X pins σ H s) (g:znu H a y o) (ry:zao y u) (h:∀ s',Inv X pins σ H s'->Q (.bool o.isSome) s') :
  wpAny (model X.prog X.w) A (compareOp .In u (.ref a)) Q E s:=by
 obtain ⟨kvs,ep,k,b,e,ey,eb,l⟩:=g; subst ey
 cases (show u=Value.ref b from ry)
 obtain ⟨z,hd,xs,rel,dd,_⟩:=zeQ I.hok e; refine wpAny_in_heap (tupleKind_room_in1 hu) (zfO I.hok eb) hd dd ?_; have q:=(rel.val k).isSome_eq; rw [Option.isSome_map] at q; rw [<- q,<- l]; exact h _ (I.tok _)
theorem zrq {Q:Value->Shared->Prop} (hu:A.units+1<cLine) (I:Inv X pins σ H s) (g:znu H a y o) (ry:zao y u) (h:∀ s',Inv X pins σ H s'->Q (.bool (!o.isSome)) s') :
  wpAny (model X.prog X.w) A (compareOp .NotIn u (.ref a)) Q E s:=by
 obtain ⟨kvs,ep,k,b,e,ey,eb,l⟩:=g; subst ey
 cases (show u=Value.ref b from ry)
 obtain ⟨z,hd,xs,rel,dd,_⟩:=zeQ I.hok e; refine wpAny_notIn_heap (tupleKind_room_in1 hu) (zfO I.hok eb) hd dd ?_; have q:=(rel.val k).isSome_eq; rw [Option.isSome_map] at q; rw [<- q,<- l]; exact h _ (I.tok _)
theorem zmP {kvs:List (List Key × V)} {ep:Nat} {k:List Key} {b:Addr} {Q:Unit->Shared->Prop} (hu:A.units+1<cLine) (I:Inv X pins σ H s) (e:H a=some (.dE kvs ep)) (eb:H b=some (.tup (k.map kV))) (l:kvs.length<sizeLine) (rv:zao v r)
  (h:∀ ep' s',Inv X pins σ (upd H a (.dE (zl9 kvs k v) ep')) s'->Q () s'):wpAny (model X.prog X.w) A (setItem (.ref a) (.ref b) r) Q E s:=by
 obtain ⟨z,hd,xs,rel,dd,_⟩:=zeQ I.hok e
 have hz:xs.length<=sizeLine:=by rw [<- Paired.length rel]; exact z
 have hl:(zl9 kvs k v).length<=sizeLine:=by have:=zjz kvs k v; omega
 refine wpAny_setItem_heap (hsz:=hz) (tupleKind_room_in1 hu) (zfO I.hok eb) dd fun h' dd' hs=>?_
 obtain ⟨q,es,ep',hq,h2,h3,h4,_,h5⟩:=dd'
 refine h ep' _ (zmW I (by rw [e]; exact True.intro) hs ⟨q,hq⟩ ⟨hl,hd,_,(rel.put k eb rv).keeps fun c ys ec=>?_,q,es,hq,h2,h3,h4,h5⟩)
 rw [zq (zs6 ec e (fun z=>nomatch z))]
 exact ec
end
section
variable {X:Cx}
theorem zrd (hu:X.A.units+1<cLine):IxR X (fun x y H Q=>∃ a v,x=.ref a/\znu H a y (some v)/\Q v H):=by
 intro value slice pins s σ H x y v u Q I rx ry h hs; obtain ⟨a,w,rfl,g,q⟩:=h; cases rx
 exact tail_any (zoZ I g) PySem.F.slot_dict_getitem.lookup (zmQ hu I g ry fun w' s3 I3 rw'=>⟨w,H,I3,rw',q⟩) hs
theorem zsW (hu:X.A.units+1<cLine):OpR X (compareOp .In) (fun x y H Q=>∃ a o,y=.ref a/\znu H a x o/\Q (.bl o.isSome) H):=by
 intro pins s σ H x y v u Q I rx ry h; obtain ⟨a,o,rfl,g,q⟩:=h; cases ry
 exact zwG hu I g rx fun s' I'=>⟨.bl _,H,I',rfl,q⟩
theorem zmo (hu:X.A.units+1<cLine):OpR X (compareOp .NotIn) (fun x y H Q=>∃ a o,y=.ref a/\znu H a x o/\Q (.bl (!o.isSome)) H):=by
 intro pins s σ H x y v u Q I rx ry h; obtain ⟨a,o,rfl,g,q⟩:=h; cases ry
 exact zrq hu I g rx fun s' I'=>⟨.bl _,H,I',rfl,q⟩
def zuG (td ty tv:TE):TS:=fun D σ H=>tv σ H fun v H1=>td σ H1 fun x H2=>ty σ H2 fun y H3=>∃ a kvs ep k b,x=.ref a/\H3 a=some (.dE kvs ep)/\y=.ref b/\H3 b=some (.tup (k.map kV))/\kvs.length<sizeLine/\∀ ep',D.nx σ (upd H3 a (.dE (zl9 kvs k v) ep'))
theorem zmc {o i value:Expr} {pos pos':Pos} {td ty tv:TE} (hu:X.A.units+1<cLine) (ho:PE X o td) (hi:PE X i ty) (hv:PE X value tv) (hs:swapsWith value (some (.Subscript o i pos')) pos.line X.env=pure false) :
  PS X (.Assign [.Subscript o i pos'] value pos) (zuG td ty tv):=by
 intro pins s σ H D I h
 refine wpAny_Assign_Subscript (thn (hv pins s σ H _ I h) fun r s1 ⟨v,H1,I1,rv,q1⟩=>thn (ho pins s1 σ H1 _ I1 q1) fun u s2 ⟨x,H2,I2,rx,q2⟩=>thn (hi pins s2 σ H2 _ I2 q2) fun iv s3 ⟨y,H3,I3,ry,a,kvs,ep,k,b,ex,e,ey,eb,l,q3⟩=>?_) hs
 subst ex ey
 obtain rfl:u=Value.ref a:=rx
 obtain rfl:iv=Value.ref b:=ry
 exact zmP hu I3 e eb l rv fun ep' s4 I4=>⟨σ,_,I4,q3 ep'⟩
theorem zkC {P:Program} {w:World} {H:Hp} (h:Heap) (hb:sysModules<h.objs.size):zaP P w H (h.push { cls:=.type "dict",data:=.dict #[] }) h.objs.size (.dE [] 0) :=
 ⟨Nat.zero_le _,beq_eq_false_iff_ne.mpr (Ne.symm (Nat.ne_of_lt hb)),[],.nil,_,#[],Heap.get?_push_size _ rfl,⟨rfl,rfl,rfl⟩,rfl,rfl,List.nodup_nil⟩
def zuA:TE:=fun _ H Q=>∀ p,H p=none->Q (.ref p) (upd H p (.dE [] 0))
theorem zqG {pos:Pos}:PE X (.Dict [] [] pos) zuA:=fun pins s σ H Q I h =>
 wpAny_Dict_empty ⟨.ref s.heap.objs.size,_,I.laid (a:=s.heap.objs.size) (o:=.dE [] 0) (t':=s.toks) (fun _ _ q=>Heap.get?_push_of_some _ q) (Nat.le_refl _) (zkC s.heap I.big),rfl,h _ (I.hok.fresh (Nat.le_refl _))⟩
theorem zhL (d:Addr) (k v:Value):storeAll d [(k,v)]=(dictSet d k v >>= fun _=>pure PUnit.unit):=by
 unfold storeAll; rw [List.forIn_cons]; simp only [bind_assoc,pure_bind,List.forIn_nil]
def zpS (tk tv:TE):TE:=fun σ H Q=>∀ p,H p=none->tk σ (upd H p (.dE [] 0)) fun x H1=>tv σ H1 fun y H2=>H2 p=some (.dE [] 0)/\∃ b ks,x=.ref b/\H2 b=some (.tup (ks.map kV))/\∀ ep',Q (.ref p) (upd H2 p (.dE [(ks,y)] ep'))
theorem zmR (hu:X.A.units+1<cLine) {pins:List (Addr × Obj)} {σ:St} {H2:Hp} {s2:Shared} {p b:Addr} {ks:List Key} {y:V} {u2:Value} {Q:Value->Shared->Prop} (I2:Inv X pins σ H2 s2) (e:H2 p=some (.dE [] 0)) (eb:H2 b=some (.tup (ks.map kV))) (r2:zao y u2)
  (h:∀ ep' s3,Inv X pins σ (upd H2 p (.dE [(ks,y)] ep')) s3->Q (.ref p) s3):wpAny (model X.prog X.w) X.A (storeAll p [(Value.ref b,u2)]) (fun _ s3=>Q (.ref p) s3) X.xe s2:=by
 rw [zhL]; obtain ⟨z,hd,xs,rel,dd,_⟩:=zeQ I2.hok e
 obtain rfl:xs=[]:=by
  have:=Paired.length rel
  exact List.eq_nil_of_length_eq_zero this.symm
 refine wpAny_bind (wpAny_dictSet_heap (hsz:=Nat.zero_le _) (knd:=tupleKind (zaS X.prog X.w)) (show X.A.units<cLine by omega) (zfO I2.hok eb) dd fun h' dd' hs=>?_)
 obtain ⟨q,es,ep',hq,h2,h3,h4,_,h5⟩:=dd'
 have hk:KT H2 (zl9 [] ks y) (storedH [] ks b u2):=KT.put (kvs:=[]) (xs:=[]) .nil ks eb r2
 have hp:zl9 ([]:List (List Key × V)) ks y=[(ks,y)]:=rfl
 rw [hp] at hk
 have ok:zaP X.prog X.w (upd H2 p (.dE [(ks,y)] ep')) h' p (.dE [(ks,y)] ep'):=by
  refine ⟨?_,hd,_,hk.keeps fun c ys ec=>?_,q,es,hq,h2,h3,h4,h5⟩
  ·rw [sizeLine_eq]; exact Nat.le_of_ble_eq_true rfl
  ·rw [zq (zs6 ec e (fun z=>nomatch z))]
   exact ec
 exact wpAny_pure (h ep' _ (zmW I2 (by rw [e]; exact True.intro) hs ⟨q,hq⟩ ok))
theorem zmk (hu:X.A.units+1<cLine) {k v:Expr} {tk tv:TE} {pos:Pos} (hk:PE X k tk) (hv:PE X v tv):PE X (.Dict [some k] [v] pos) (zpS tk tv):=by
 intro pins s σ H Q I q; have hn:=I.hok.fresh (Nat.le_refl s.heap.objs.size)
 have I1:=I.laid (a:=s.heap.objs.size) (o:=.dE [] 0) (h':=s.heap.push { cls:=.type "dict",data:=.dict #[] }) (t':=s.toks) (fun _ _ q=>Heap.get?_push_of_some _ q) (Nat.le_refl _) (zkC s.heap I.big)
 refine wpAny_Dict_any rfl rfl (fun z=>nomatch z) (Nat.le_of_ble_eq_true rfl) ?_
 refine pairTrees_cons_walk (thn (hk pins _ σ _ _ I1 (q _ hn)) fun u1 s1 ⟨x,H1,J1,rx,q1⟩=>thn (hv pins s1 σ H1 _ J1 q1) fun u2 s2 ⟨y,H2,I2,ry,e,b,ks,ex,eb,q2⟩=>pairTrees_nil_walk ?_)
 subst ex
 obtain rfl:u1=Value.ref b:=rx
 exact zmR hu I2 e eb ry fun ep' s3 I3=>⟨.ref s.heap.objs.size,_,I3,rfl,q2 ep'⟩
end
end L2
namespace PL
open PySem L2
section
variable {K:W.Frag} {H Hi:Hp}
theorem zrr {v:V}:∀ {k:Key},Den K H v (keyD k)->v=kV k
 | .inl i,h=>h.intI
 | .inr x,h=>h.strI
theorem zkA:∀ {vs:List V} {ks:List Key},zaV K H vs (ks.map keyD)->vs=ks.map kV
 | [],[],_=>rfl
 | [],_ :: _,h=>nomatch h
 | _ :: _,[],h=>nomatch h
 | v :: vs,k :: ks,.cons r t=>by rw [List.map_cons,<- zrr r,<- zkA t]
theorem zoQ {a b:Key} (h:keyD a=keyD b):a=b:=by
 cases a with
 | inl i=>cases b with
  | inl j=>injection h with h; rw [h]
  | inr y=>cases h
 | inr x=>cases b with
  | inl j=>cases h
  | inr y =>
   injection h with h
   obtain ⟨⟨x⟩⟩:=x
   obtain ⟨⟨y⟩⟩:=y
   exact congrArg (fun l=>Sum.inr (Str.mk ⟨l⟩)) h
theorem zfN:∀ {a b:List Key},a.map keyD=b.map keyD->a=b
 | [],[],_=>rfl
 | [],_ :: _,h=>nomatch h
 | _ :: _,[],h=>nomatch h
 | x :: a,y :: b,h=>by
  injection h with h1 h2
  rw [zoQ h1,zfN h2]
theorem ze6 {v:V} {ks:List Key} (h:Den K Hi v (.tup (ks.map keyD))):∃ b,v=.ref b/\Hi b=some (.tup (ks.map kV)):=by
 obtain ⟨a,vs,rfl,h1,h2⟩:=h.tupJ; rw [zkA h2] at h1; exact ⟨a,rfl,h1⟩
open Classical in
noncomputable def zbm (ds:List (D × D)) (k:D):Option D:=(ds.find? fun p=>decide (p.1=k)).map (·.2)
open Classical in
noncomputable def zhE (ds:List (D × D)) (k v:D):List (D × D):=if (zbm ds k).isSome=true then ds.map (fun p=>if p.1=k then (p.1,v) else p) else ds ++ [(k,v)]
theorem zmZ {p:D × D} {r:List (D × D)} {k:D} (e:p.1=k):zbm (p :: r) k=some p.2:=by simp [zbm,List.find?_cons,e]
theorem zm0 {p:D × D} {r:List (D × D)} {k:D} (e:¬ p.1=k):zbm (p :: r) k=zbm r k:=by simp [zbm,List.find?_cons,e]
inductive OptD (K:W.Frag) (H:Hp):Option V->Option D->Prop where
 | none:OptD K H none none
 | some {v:V} {d:D} (h:Den K H v d):OptD K H (some v) (some d)
theorem ztq {kvs:List (List Key × V)} {ds:List (D × D)} (r:zlA K H kvs ds) (ks:List Key):OptD K H (zny kvs ks) (zbm ds (.tup (ks.map keyD))):=by
 induction r with
 | nil=>exact .none
 | @cons p q ps qs h t ih =>
  by_cases e:p.1=ks
  ·rw [zgI e,zmZ (h.1.trans (by rw [e]))]
   exact .some h.2
  ·rw [zgJ e,zm0 (fun z=>e (zfN (by
    have:=h.1.symm.trans z
    injection this)))]
   exact ih
theorem OptD.isSome {o:Option V} {d:Option D} (h:OptD K H o d):o.isSome=d.isSome:=by cases h <;> rfl
open Classical in
theorem zuH {ks:List Key} {v:V} {d:D} (h:Den K H v d) {kvs:List (List Key × V)} {ds:List (D × D)} (r:zlA K H kvs ds):zlA K H (kvs.map fun kv=>if kv.1=ks then (kv.1,v) else kv) (ds.map fun p=>if p.1=.tup (ks.map keyD) then (p.1,d) else p):=by
 induction r with
 | nil=>exact .nil
 | @cons p q ps qs hh t ih =>
  rw [List.map_cons,List.map_cons]; refine .cons ?_ ih
  by_cases e:p.1=ks
  ·rw [if_pos e,if_pos (hh.1.trans (by rw [e]))]
   exact ⟨hh.1,h⟩
  ·rw [if_neg e,if_neg (fun z=>e (zfN (by
    have:=hh.1.symm.trans z
    injection this)))]
   exact hh
theorem zv0 {kvs:List (List Key × V)} {ds:List (D × D)} (r:zlA K H kvs ds) (ks:List Key) {v:V} {d:D} (h:Den K H v d):zlA K H (zl9 kvs ks v) (zhE ds (.tup (ks.map keyD)) d):=by
 unfold zl9 zhE; rw [zgK,(ztq r ks).isSome]; split
 ·exact zuH h r
 ·exact zah r (.cons ⟨rfl,h⟩ .nil)
end
section
variable {X:Cx}
def zjh:R2':=fun x y Q=>∃ (ds:List (D × D)) (ks:List Key) (v:D),x=.dit ds/\y=.tup (ks.map keyD)/\zbm ds y=some v/\Q v
def zpi (neg:Bool):R2':=fun x y Q=>∃ (ks:List Key) (ds:List (D × D)),x=.tup (ks.map keyD)/\y=.dit ds/\Q (.bl (if neg then !(zbm ds x).isSome else (zbm ds x).isSome))
theorem zo0 {K:W.Frag} {Hi H:Hp} {x y:V} {ds:List (D × D)} {ks:List Key} (s:Fz Hi H) (d1:Den K Hi x (.dit ds)) (d2:Den K Hi y (.tup (ks.map keyD))):∃ a o,x=.ref a/\znu H a y o/\OptD K Hi o (zbm ds (.tup (ks.map keyD))):=by
 obtain ⟨a,kvs,ep,rfl,h1,h2⟩:=d1.ditI; obtain ⟨b,rfl,h3⟩:=ze6 d2; exact ⟨a,_,rfl,⟨kvs,ep,ks,b,s.sub _ _ h1,rfl,s.sub _ _ h3,rfl⟩,ztq h2 ks⟩
theorem zvk (hu:X.A.units+1<cLine):Ixs X zjh:=⟨_,zrd hu,by
 rintro Hi H x y dx dy Q Q2 s d1 d2 ⟨ds,ks,v,rfl,rfl,e,q⟩ fin
 obtain ⟨a,o,rfl,g,r⟩:=zo0 s d1 d2; rw [e] at r
 cases r with
 | some h=>exact ⟨a,_,rfl,g,fin Hi H _ _ (Ext.refl s) h q⟩⟩
theorem zu9 (hu:X.A.units+1<cLine):Op2 X (compareOp .In) (zpi false):=⟨_,zsW hu,by
 rintro Hi H x y dx dy Q Q2 s d1 d2 ⟨ks,ds,rfl,rfl,q⟩ fin
 obtain ⟨a,o,rfl,g,r⟩:=zo0 s d2 d1; refine ⟨a,o,rfl,g,?_⟩; rw [r.isSome]; exact fin Hi H _ _ (Ext.refl s) (.bl _) q⟩
theorem zom (hu:X.A.units+1<cLine):Op2 X (compareOp .NotIn) (zpi true):=⟨_,zmo hu,by
 rintro Hi H x y dx dy Q Q2 s d1 d2 ⟨ks,ds,rfl,rfl,q⟩ fin
 obtain ⟨a,o,rfl,g,r⟩:=zo0 s d2 d1; refine ⟨a,o,rfl,g,?_⟩; rw [r.isSome]; exact fin Hi H _ _ (Ext.refl s) (.bl _) q⟩
def zcz (i:Nat) (tk tv:TE'):TS':=fun N Γ=>tv Γ fun v Γ1=>(∃ ds0,Γ1[i]?=some (.own (.dit ds0)))/\tk Γ1 fun k Γ2=>∃ (ds:List (D × D)) (ks:List Key),Γ2[i]?=some (.own (.dit ds))/\k=.tup (ks.map keyD)/\ds.length<sizeLine/\N.nx (Γ2.set i (.own (.dit (zhE ds k v))))
theorem znZ (hu:X.A.units+1<cLine) (i:Nat) {x:Str} {k value:Expr} {tk tv:TE'} {p pos pos':Pos} (hk:PE' X k tk) (hv:PE' X value tv) (hN:X.N[i]?=some x:=by rfl) (hvi:Vis X.env.scope x:=by first | exact Or.inl rfl | exact Or.inr (Or.inl rfl) | exact Or.inr (Or.inr rfl)) (hd:(x == ("__debug__":Str))=false:=by decide)
  (hcd:(x == ("__classdict__":Str))=false:=by decide) (hs:swapsWith value (some (.Subscript (.Name x p) k pos')) pos.line X.env=pure false:=by rfl) :
  PS' X (.Assign [.Subscript (.Name x p) k pos'] value pos) (zcz i tk tv):=by
 refine ⟨PS.weak (zmc hu (zdZ (i:=i) (pos:=p) hN hvi hd hcd) hk.h hv.h hs) ?_⟩
 rintro N2 σ H ⟨W,Hi,Γ,N,g,q,l⟩
 have hi:i<X.N.length:=(List.getElem?_eq_some_iff.mp hN).1
 refine ⟨W,Hi,Γ,_,g,q,?_⟩
 rintro v H1 ⟨Hi1,d,Γ1,s1,g1,den,⟨ds0,e0⟩,q1⟩
 obtain ⟨a,h1,h2,h3,kvs0,ep0,h4,h5⟩:=g1.own i _ e0; refine ⟨.ref a,zkK hi h1,W,Hi1,Γ1,_,g1,q1,?_⟩
 rintro y H2 ⟨Hi2,dk,Γ2,s2,g2,den2,ds,ks,e2,rfl,hl,q2⟩
 obtain ⟨a',k1,k2,k3,kvs,ep,k4,k5⟩:=g2.own i _ e2; rw [h1] at k1; cases k1; obtain ⟨b,rfl,hb⟩:=ze6 den2
 refine ⟨a,kvs,ep,ks,b,rfl,k4,rfl,g2.sub _ _ hb,by rw [zg k5]; exact hl,fun ep'=>?_⟩
 exact l.nx σ _ Hi2 _ (s1.trans s2) (g2.put (o:=.dit (zhE ds (.tup (ks.map keyD)) d)) e2 h1 ⟨_,_,zj,zv0 k5 ks (den.mono s2)⟩) q2
instance {i:Nat} {tk tv:TE'} [ME tk] [ME tv]:MS (zcz i tk tv):=⟨fun N N' Γ h q=>ME.mono (t:=tv) _ _ _ (fun _ _ ⟨a,z⟩=>⟨a,ME.mono (t:=tk) _ _ _ (fun _ _ ⟨ds,ks,e1,e2,e3,w⟩=>⟨ds,ks,e1,e2,e3,h.nx _ w⟩) z⟩) q⟩
theorem Good.putN {K:W.Frag} {n:Nat} {W:Wd} {Hi H:Hp} {Γ:Sts} {σ:St} {p:Addr} {u:HO} (g:Good K n W Hi Γ σ H) (h0:Hi p=none) (h1:W.H₀ p=none) (ne:Free n W Γ σ p) (hu:∀ xs,u≠.tup xs):Good K n W Hi Γ σ (upd H p u):=by
 refine ⟨g.len,⟨fun b w q=>?_,fun b xs q=>?_⟩,fun b w q nf=>?_,fun b w q=>?_,g.fro,g.val,fun j o e=>?_,g.apart,fun j d b xs e=>?_⟩
 ·rw [zq (fun z=>by rw [z,h0] at q; cases q)]
  exact g.sub b w q
 ·by_cases hb:b=p
  ·subst hb
   rw [zj] at q; exact absurd (Option.some.inj q) (hu xs)
  ·rw [zq hb] at q
   exact g.fz.tups b xs q
 ·rw [zq (fun z=>by rw [z,h1] at q; cases q)]
  exact g.keep b w q nf
 ·rw [zq (fun z=>by rw [z,h1] at q; cases q)]
  exact g.there b w q
 ·obtain ⟨b,q1,q2,q3,q4⟩:=g.own j o e
  have hb:b≠p:=fun z=>ne.own j o e (by rw [<- z]; exact q1)
  exact ⟨b,q1,q2,q3,q4.mono (zU.refl _) fun w hw=>by rw [zq hb]; exact hw⟩
 ·obtain ⟨p0,p1,p2,p3,p4,p5,p6⟩:=g.bk j d b xs e
  have hb:b≠p:=fun z=>ne.bk j _ _ (by rw [<- z]; exact e)
  exact ⟨p0,p1,p2,p3,p4.mono (zU.refl _) fun w hw=>by rw [zq hb]; exact hw,p5,p6⟩
def zdk (n:Nat) (tk tv:TE'):TO':=fun Γ Q=>tk (zcQ n Γ) fun k _=>Imm k/\tv (zcQ n Γ) fun v _=>Imm v/\(∃ ks:List Key,k=.tup (ks.map keyD))/\Q (.dit [(k,v)]) Γ
theorem zn4 (hu:X.A.units+1<cLine) {k v:Expr} {tk tv:TE'} {pos:Pos} (hk:PE' X k tk) (hv:PE' X v tv):PO' X (.Dict [some k] [v] pos) (zdk X.N.length tk tv):=by
 refine ⟨PE.weak (zmk hu hk.h hv.h) ?_⟩
 rintro σ H Q ⟨W,Hi,Γ,Q',g,h,fin⟩
 intro p hp; have new:=New.mk' (u:=.dE [] 0) (o:=.dit []) g hp ⟨[],0,zj,.nil⟩
 have e0:Ext Hi H Hi (upd H p (.dE [] 0)):=Ext.newO g.fz hp _ (fun _ z=>by cases z)
 have g0:=g.ext e0; obtain ⟨s1,g1⟩:=g0.look; refine ⟨_,_,_,_,g1,h,?_⟩
 rintro x H1 ⟨Hb,dk,Γ',sb,g',den,im,h'⟩
 obtain ⟨x1,y1,hd1⟩:=g0.unlook sb g'; have den1:=hd1 x dk im den; obtain ⟨s2,g2⟩:=y1.look; refine ⟨_,_,_,_,g2,h',?_⟩
 rintro y H2 ⟨Hc,dv,Γ'',sc,g'',den2,im2,⟨ks,rfl⟩,q⟩
 obtain ⟨x2,y2,hd2⟩:=y1.unlook sc g''; have den3:=hd2 y dv im2 den2
 have ep:H2 p=some (.dE [] 0):=x2.h _ _ (x1.h _ _ zj)
 have hi0:_=_:=(x2.fro p _ (x1.h _ _ zj)).trans (x1.fro p _ zj)
 obtain ⟨b,rfl,hb⟩:=ze6 den1
 refine ⟨ep,b,ks,rfl,x2.h _ _ (y1.sub _ _ hb),fun ep'=>?_⟩
 refine fin p _ _ Γ (.dit [(.tup (ks.map keyD),dv)]) (x1.hi.trans x2.hi) (y2.putN (hi0.trans new.hi) new.h0 new.ne (fun _ z=>by cases z)) ⟨hi0.trans new.hi,new.h0,new.ne,⟨[(ks,y)],ep',zj,.cons ⟨rfl,den3⟩ .nil⟩⟩ q
end
end PL
namespace PySem
section
variable {prog:Program} {w:World} {A:Around} {E:Value->Shared->Prop} {s:Shared} {dd kk:Addr} {ob:Obj} {ens:Array DictEntry} {tick nn:Nat}
theorem zb4 (hob:s.heap.get? dd=some ob) (hex:ob.ExactDict):s.TypeIs (.ref dd) "dict":=⟨ob,hob,hex.1⟩
theorem zeF {Q:Value->Shared->Prop} (hsys:(dd == sysModules)=false) (hob:s.heap.get? dd=some ob) (hex:ob.ExactDict) (hdt:ob.data=.dict ens tick)
  (fin:Q (.ref s.heap.objs.size) { s with heap:=s.heap.push { cls:=.type "dict_keyiterator",data:=.fields #[.ref dd,.int 0 0,.int ens.size 0,.int tick 0] } }) :
  wpAny (model prog w) A (pyIter (.ref dd)) Q E s:=by
 have ty:=zb4 hob hex; refine wpAny_pyIter_slot ty F.slot_dict_iter (wpAny_call_entry F.slot_dict_iter ty F.entry_dict_iter ?_ (F.args_dict_iter_1 _))
 unfold Builtin.«dict.__iter__» Builtin.Dict.dictSlotNone
 refine wpAny_bind (wpAny_bind (wpAny_notOrdered_dict ty ?_))
 show wpAny _ _ (pure (Value.ref dd)) _ _ s
 refine wpAny_pure (show wpAny _ _ (Builtin.Dict.showsAll dd >>= _) _ _ s from ?_)
 unfold Builtin.Dict.showsAll
 rw [if_neg (by rw [hsys]; exact Bool.false_ne_true)]
 refine wpAny_bind (wpAny_pure (wpAny_bind (wpAny_dictEntries hob hdt (wpAny_bind (wpAny_dictEpoch hob hdt ?_))))); refine wpAny_bind (wpAny_newObj_type (wpAny_pure ⟨_,rfl,"dict_keyiterator",_,⟨_,Heap.get?_push_size _ rfl,rfl⟩,F.slot_dict_keyiterator_next.lookup,?_⟩))
 simpa [rawInt] using fin
theorem zfM {ii:Nat} {Q:Option Value->Shared->Prop} (st:s.heap.IsKeyIter kk dd ii ens.size tick) (hob:s.heap.get? dd=some ob) (hdt:ob.data=.dict ens tick) (lt:ii<ens.size)
  (fin:∀ h2,h2.IsKeyIter kk dd (ii+1) ens.size tick->Heap.SameBut kk s.heap h2->Q (some ens[ii].key) { s with heap:=h2 }):wpAny (model prog w) A (pyNext (.ref kk)) Q E s:=by
 obtain ⟨ki,hki,hkc,hkd⟩:=id st; have ty:=st.typeIs; unfold pyNext; refine wpAny_bind (wpAny_attempt (wpAny_callSpecial?_slot (name:=Str.ofString "__next__") ty F.slot_dict_keyiterator_next (wpAny_call_entry F.slot_dict_keyiterator_next ty F.entry_dict_keyiterator_next ?_ (F.args_dict_keyiterator_next_1 _)))); refine wpAny_bind (wpAny_pure (wpAny_bind (wpAny_bind ?_)))
 first
  | refine wpAny_bind (wpAny_typeNameOfWhole_keyiter ty (wpAny_pure (wpAny_bind (wpAny_fieldsOf hki hkd ?_))))
  | refine wpAny_bind (wpAny_typeNameOf_keyiter ty (wpAny_pure (wpAny_bind (wpAny_fieldsOf hki hkd ?_))))
 simp only [show Builtin.Dict_items.ownsTuple "dict_keyiterator"=false by decide,Bool.false_eq_true,if_false]
 show wpAny _ _ (if (Value.ref dd == Value.none)=true then _ else _) _ _ s
 rw [if_neg (show ¬ ((Value.ref dd == Value.none)=true) from Bool.false_ne_true)]
 refine wpAny_bind (wpAny_pure (wpAny_bind (wpAny_dictEntries hob hdt ?_)))
 rw [if_neg (by simp)]
 refine wpAny_bind (wpAny_pure (wpAny_bind (wpAny_dictEpoch hob hdt ?_)))
 rw [if_neg (by simp)]
 refine wpAny_pure ?_
 simp only [show ¬ ((ii:Int)<0) from by omega,if_false,Int.toNat_natCast,Array.getElem?_eq_getElem lt]
 refine wpAny_bind ?_
 first
  | refine wpAny_bind (wpAny_typeNameOfWhole_keyiter ty (wpAny_pure (wpAny_bind (wpAny_isOneOf_keyiter ty ?_))))
  | refine wpAny_bind (wpAny_typeNameOf_keyiter ty (wpAny_pure (wpAny_bind (wpAny_isOneOf_keyiter ty ?_))))
 show wpAny _ _ (setField (.ref kk) 1 (rawInt ((ii:Int)+1)) >>= _) _ _ s
 have st2:(s.heap.update kk (Obj.mapFields (·.setIfInBounds 1 (rawInt ((ii:Int)+1))))).IsKeyIter kk dd (ii+1) ens.size tick :=
  ⟨_,Heap.get?_update_self _ hki (Obj.isFreed_of_fields (Obj.data_mapFields hkd _)),(Obj.cls_mapFields ..).trans hkc,by rw [Obj.data_mapFields hkd]; simp [rawInt]⟩
 refine wpAny_bind (wpAny_setField hki hkd (by simp) (wpAny_bind (wpAny_holding ?_)))
 refine wpAny_bind (wpAny_isOneOf_keyiter (s:={ s with heap:=s.heap.update kk (Obj.mapFields (·.setIfInBounds 1 (rawInt ((ii:Int)+1)))) }) st2.typeIs ?_)
 show wpAny _ _ (pure ens[ii].key) _ _ _
 exact wpAny_pure (wpAny_pure ⟨_,rfl,wpAny_pure (fin _ st2 (Heap.SameBut.update ..))⟩)
theorem zgA {ii:Nat} {Q:Option Value->Shared->Prop} (calm:A.handled=none) (st:s.heap.IsKeyIter kk dd ii ens.size tick) (hob:s.heap.get? dd=some ob) (hdt:ob.data=.dict ens tick) (ge:ens.size<=ii)
  (fin:∀ h2,Heap.ExtBut kk s.heap h2->Q none { s with heap:=h2 }):wpAny (model prog w) A (pyNext (.ref kk)) Q E s:=by
 obtain ⟨ki,hki,hkc,hkd⟩:=id st; have ty:=st.typeIs; unfold pyNext; refine wpAny_bind (wpAny_attempt (wpAny_callSpecial?_slot (name:=Str.ofString "__next__") ty F.slot_dict_keyiterator_next (wpAny_call_entry F.slot_dict_keyiterator_next ty F.entry_dict_keyiterator_next ?_ (F.args_dict_keyiterator_next_1 _)))); refine wpAny_bind (wpAny_pure (wpAny_bind (wpAny_bind ?_)))
 first
  | refine wpAny_bind (wpAny_typeNameOfWhole_keyiter ty (wpAny_pure (wpAny_bind (wpAny_fieldsOf hki hkd ?_))))
  | refine wpAny_bind (wpAny_typeNameOf_keyiter ty (wpAny_pure (wpAny_bind (wpAny_fieldsOf hki hkd ?_))))
 simp only [show Builtin.Dict_items.ownsTuple "dict_keyiterator"=false by decide,Bool.false_eq_true,if_false]
 show wpAny _ _ (if (Value.ref dd == Value.none)=true then _ else _) _ _ s
 rw [if_neg (show ¬ ((Value.ref dd == Value.none)=true) from Bool.false_ne_true)]
 refine wpAny_bind (wpAny_pure (wpAny_bind (wpAny_dictEntries hob hdt ?_)))
 rw [if_neg (by simp)]
 refine wpAny_bind (wpAny_pure (wpAny_bind (wpAny_dictEpoch hob hdt ?_)))
 rw [if_neg (by simp)]
 refine wpAny_pure ?_
 simp only [show ¬ ((ii:Int)<0) from by omega,if_false,Int.toNat_natCast,Array.getElem?_eq_none ge]
 refine wpAny_bind ?_
 first
  | refine wpAny_bind (wpAny_typeNameOfWhole_keyiter ty (wpAny_pure ?_))
  | refine wpAny_bind (wpAny_typeNameOf_keyiter ty (wpAny_pure ?_))
 show wpAny _ _ (setField (.ref kk) 0 .none >>= _) _ _ s
 refine wpAny_bind (wpAny_setField hki hkd (by simp) (show wpAny _ _ (newExc (.type "StopIteration") [] >>= _) _ _ _ from wpAny_bind ?_))
 simp only [newExc,newTuple]
 apply wpAny_bind
 refine wpAny_newObj_type ?_ (by size_fits)
 refine wpAny_bind (m:=firstArgMember _ _) (wpAny_of_eq (a:=Value.none) (by first | rfl | (simp only [firstArgMember]; rfl)) (wpAny_newObj_type ?_ (by size_fits)))
 simp only [raiseNew]; refine wpAny_bind (wpAny_handled ?_)
 rw [show A.in1.handled=none from calm]
 refine (wpAny_bind (wpAny_pure (wpAny_throw ?_))); refine wpAny_bind (wpAny_isInstance (T:="StopIteration") (b:=true) ⟨_,Heap.get?_push_size _ rfl,rfl⟩ isSubtype_stop (wpAny_pure (fin _ ?_))); exact ((Heap.SameBut.update ..).extBut.push _).push _
end
end PySem
namespace L2
open PySem PySem.Spec PyProof.Rows
def Ite (a:Addr) (kvs:List (List Key × V)) (ep:Nat):It :=
 ⟨fun i H=>H a=some (.dE kvs ep)/\i<kvs.length,fun i H x H'=>H'=H/\∃ k y b,kvs[i]?=some (k,y)/\x=.ref b/\H b=some (.tup (k.map kV)),fun i H=>H a=some (.dE kvs ep)/\kvs.length<=i⟩
theorem zlH {P:Program} {w:World} {K:W.Frag} {tg:Expr} (a it:Addr) (kvs:List (List Key × V)) (ep:Nat):Turn P w K tg (Ite a kvs ep) [it] it (fun i h=>h.IsKeyIter it a i kvs.length ep) where
 mem:=by simp
 obj:=fun i h st b hb=>by
  have e:b=it:=by simpa using hb
  subst e; obtain ⟨o,e,c,d⟩:=st
  exact ⟨o,e,fun v z=>by rw [d] at z; cases z⟩
 keep:=fun i h h' st k=>st.at fun o e=>k it (by simp) o e
 item:=by
  intro X hP hw hK hc i pins s σ H E I hf st hg
  subst hP hw hK
  obtain ⟨hq,hi⟩:=hg; obtain ⟨z,hd,xs,rel,_,o,es,ho,hx,hdat,he⟩:=zeQ I.hok hq
  obtain ⟨f0,f1,f2,f3,f4,f5⟩:=hf it (by simp)
  have hl:kvs.length=xs.length:=Paired.length rel
  have hs:es.size=kvs.length:=by
   have:=congrArg List.length he
   rw [List.length_map,Array.length_toList] at this; rw [this,hl]
  have hi':i<es.size:=by rw [hs]; exact hi
  have hix:i<xs.length:=by rw [<- hl]; exact hi
  have q:=PL.paired_get i rel (List.getElem?_eq_getElem hi) (List.getElem?_eq_getElem hix)
  have hk:es[i].key=.ref xs[i].2.1:=by
   have e1:es.toList[i]?=(xs.map (entryOfKey (tupleKind (zaS X.prog X.w))))[i]?:=by rw [he]
   rw [List.getElem?_map,List.getElem?_eq_getElem hix,Array.getElem?_toList,Array.getElem?_eq_getElem hi'] at e1; rw [Option.some.inj e1]; rfl
  rw [<- hs] at st
  refine zfM st ho hdat hi' fun h' st' sb=>?_
  have I1:Inv X pins σ H { s with heap:=h' }:=I.turned (t':=s.toks) (fun b o hb e=>(sb.2 b hb).trans e) f0 f1 f3 f4 f5
  rw [hs] at st'; obtain ⟨o2,e,c,d⟩:=id st'; rw [hk]
  exact ⟨_,rfl,zll (s:={ s with heap:=h' }) e c d (by decide) ⟨.ref xs[i].2.1,H,I1,rfl,⟨rfl,kvs[i].1,kvs[i].2,_,List.getElem?_eq_getElem hi,rfl,q.2.1⟩,st',fun b hb=>(hf b hb).1⟩⟩
 done:=by
  intro X hP hw hK hc i pins s σ H E I hf st hg
  subst hP hw hK
  obtain ⟨hq,hi⟩:=hg; obtain ⟨z,hd,xs,rel,_,o,es,ho,hx,hdat,he⟩:=zeQ I.hok hq
  obtain ⟨f0,f1,f2,f3,f4,f5⟩:=hf it (by simp)
  have hl:kvs.length=xs.length:=Paired.length rel
  have hs:es.size=kvs.length:=by
   have:=congrArg List.length he
   rw [List.length_map,Array.length_toList] at this; rw [this,hl]
  rw [<- hs] at st
  exact zgA (I.ok.hd hc) st ho hdat (by omega) fun h' eb=>⟨rfl,I.turned (t':=s.toks) (fun b o hb e=>eb b o hb e) f0 f1 f3 f4 f5⟩
 self:=fun _ _ _ _ _ st h=>wpAny_pyIter_keyiter st h
section
variable {X:Cx} {tg:Expr}
def zvn (tl:TE):TI:=fun σ H R=>tl σ H fun x H1=>∃ a kvs ep,x=.ref a/\H1 a=some (.dE kvs ep)/\R (Ite a kvs ep) H1
theorem zqt {l:Expr} {tl:TE} (hl:PE X l tl):PI X tg l (zvn tl):=by
 intro pins s σ H R I h
 refine thn (hl pins s σ H _ I h) fun v s1 ⟨x,H1,I1,r1,a,kvs,ep,e,hq,q⟩=>?_
 subst e; cases r1; obtain ⟨z,hd,xs,rel,_,o,es,ho,hx,hdat,he⟩:=zeQ I1.hok hq
 have hs:es.size=kvs.length:=by
  have:=congrArg List.length he
  rw [List.length_map,Array.length_toList] at this; rw [this,Paired.length rel]
 refine zeF hd ho hx hdat ?_
 refine ⟨s1.heap.objs.size,[s1.heap.objs.size],_,_,H1,rfl,I1.kept (t':=s1.toks) fun b o e=>Heap.get?_push_of_some _ e,zlH a _ kvs ep,⟨_,Heap.get?_push_size _ rfl,rfl,by rw [hs]; rfl⟩,fun b hb=>?_,q⟩
 have e:b=s1.heap.objs.size:=by simpa using hb
 subst e; exact I1.fpOk (Nat.le_refl _) (I1.hok.fresh (Nat.le_refl _))
end
end L2
namespace PL
open PySem L2
theorem zrb {K:W.Frag} {Hi:Hp}:∀ k:Key,Den K Hi (kV k) (keyD k)
 | .inl i=>.int i
 | .inr x=>by
  have e:kV (.inr x)=.str (st x.cps.toList):=by
   show V.str x=_
   rfl
  rw [e]; exact .str _
theorem zmI {K:W.Frag} {Hi:Hp}:∀ ks:List Key,zaV K Hi (ks.map kV) (ks.map keyD)
 | []=>.nil
 | k :: ks=>.cons (zrb k) (zmI ks)
theorem zoT {K:W.Frag} {Hi:Hp} {a:Addr} {kvs:List (List Key × V)} {ep:Nat} {ds:List (D × D)} (h:Hi a=some (.dE kvs ep)) (r:zlA K Hi kvs ds):ItD K Hi (Ite a kvs ep) (ds.map (·.1)):=by
 intro Hi' H' s1 s2
 have hq:H' a=some (.dE kvs ep):=(s1.trans s2.sub) _ _ h
 have hl:=zg r
 refine ⟨fun i d e=>?_,hq,by rw [List.length_map,hl]; exact Nat.le_refl _⟩
 rw [List.getElem?_map] at e
 cases hc:ds[i]? with
 | none=>rw [hc] at e; cases e
 | some q =>
  rw [hc] at e; cases e; obtain ⟨p,e1,e2⟩:=zQ r hc; refine ⟨⟨hq,(List.getElem?_eq_some_iff.mp e1).1⟩,?_⟩
  rintro x H'' ⟨rfl,k,y,b,ek,rfl,hb⟩
  rw [e1] at ek; cases ek; refine ⟨Hi',Ext.refl s2,?_⟩
  show Den K Hi' (.ref b) q.1
  rw [e2.1]; exact Den.mkT (s2.tups _ _ hb) (zmI _)
def zds (t:TE'):TI':=fun Γ Q=>t Γ fun d Γ1=>∃ ds,d=.dit ds/\Q (ds.map (·.1)) Γ1
theorem zn9 {X:Cx} {l tg:Expr} {t:TE'} (hl:PE' X l t):PI' X tg l (zds t):=by
 refine ⟨PI.weak (zqt hl.h) ?_⟩
 rintro σ H R ⟨W,Hi,Γ,Q',g,h,fin⟩
 refine ⟨W,Hi,Γ,_,g,h,?_⟩
 rintro v H1 ⟨Hi1,d,Γ1,s1,g1,den,ds,rfl,q⟩
 obtain ⟨a,kvs,ep,rfl,h1,h2⟩:=den.ditI; exact ⟨a,kvs,ep,rfl,g1.sub _ _ h1,fin _ H1 Hi1 Γ1 _ s1 g1 (zoT h1 h2) q⟩
end PL
namespace PySem
section
variable {prog:Program} {w:World} {A:Around} {E:Value->Shared->Prop} {s:Shared} {dd kk:Addr} {ob:Obj} {ens:Array DictEntry} {tick nn:Nat}
theorem zsf {Q:Value->Shared->Prop} (hsys:(dd == sysModules)=false) (hob:s.heap.get? dd=some ob) (hex:ob.ExactDict) (hdt:ob.data=.dict ens tick) (fin:Q (.int ens.size s.toks) { s with toks:=s.toks+1 }) :
  wpAny (model prog w) A (call (.builtin "dict.__len__") [.ref dd]) Q E s:=by
 have ty:=zb4 hob hex; refine wpAny_call_entry F.slot_dict_len ty F.entry_dict_len ?_ (F.args_dict_len_1 _)
 show wpAny _ _ (dictSize dd >>= _) _ _ s
 unfold dictSize
 refine wpAny_bind (wpAny_bind (wpAny_dictEntries hob hdt (wpAny_pure (show wpAny _ _ (Builtin.Dict.pendingCount dd >>= _) _ _ s from wpAny_bind (wpAny_pendingCount_other hsys ?_)))))
 refine wpAny_ret_mkInt ?_
 have z:((ens.size:Int)+((0:Nat):Int))=ens.size:=by omega
 first
  | exact fin
  | (rw [z]; exact fin)
  | (refine ⟨_,rfl,?_⟩; simpa using fin)
theorem zvh {Q:Value->Shared->Prop} (hsys:(dd == sysModules)=false) (hob:s.heap.get? dd=some ob) (hex:ob.ExactDict) (hdt:ob.data=.dict ens tick) (few:ens.size<=sizeLine) (fin:Q (.int ens.size (s.toks+1)) { s with toks:=s.toks+1+1 }) :
  wpAny (model prog w) A (call (.builtin "len") [.ref dd]) Q E s :=
 PyProof.Rows.call_len_slot (n:=ens.size) (zb4 hob hex) F.slot_dict_len (fun Q' hq=>zsf hsys hob hex hdt hq) (by omega) (by rw [sizeLine_eq] at few; omega) fin
theorem ztm {Q:Bool->Shared->Prop} (hob:s.heap.get? dd=some ob) (hex:ob.ExactDict) (fin:Q false s):wpAny (model prog w) A (Builtin.List.listLengthHint (.ref dd)) Q E s:=by
 have ty:=zb4 hob hex; unfold Builtin.List.listLengthHint; refine wpAny_bind (wpAny_specialOf ty F.slot_dict_len.lookup ?_); generalize hid:("dict.__len__":String)=id0
 wp_delta
 rw [show splitId id0=some ("dict","__len__") from by subst hid; decide +kernel]
 subst hid
 refine wpAny_bind (wpAny_isInstance (T:="dict") (b:=true) ty (by rw [isSubtype_type]; kernel_rfl) ?_)
 refine wpAny_ite_split (fun z=>absurd z (by decide)) (fun _=>?_)
 refine wpAny_ite_split (fun _=>?_) (fun z=>absurd (by decide +kernel) z)
 refine wpAny_bind (wpAny_typeOf ty ?_); exact wpAny_pure fin
theorem znw (calm:A.handled=none) (hne:dd≠kk) (hdt:ob.data=.dict ens tick):Walks prog w A kk [kk,dd] [kk] ens.size (fun i v=>∃ e,ens[i]?=some e/\v=e.key) (fun i h=>h.IsKeyIter kk dd i ens.size tick/\h.get? dd=some ob) where
 sub:=fun b hb=>by
  have e:b=kk:=by simpa using hb
  simp [e]
 frame:=fun _ _ _ st hk=>⟨st.1.at fun o e=>hk kk (by simp) o e,hk dd (by simp) _ st.2⟩
 item:=fun i s Q E hi st hQ=>zfM st.1 st.2 hdt hi fun h2 st2 sb=>hQ _ h2 s.toks ⟨_,Array.getElem?_eq_getElem hi,rfl⟩ ⟨st2,(sb.2 dd hne).trans st.2⟩ fun b o hb e=>(sb.2 b (fun z=>hb (by simp [z]))).trans e
 done:=fun s Q E st hQ=>zgA calm st.1 st.2 hdt (Nat.le_refl _) fun h2 eb=>hQ h2 s.toks fun b o hb e=>eb b o (fun z=>hb (by simp [z])) e
 self:=fun _ _ _ _ st hQ=>wpAny_pyIter_keyiter st.1 hQ
theorem zlo {R:Result->Shared->Prop} {S:Addr} {res:Value} {c₀:Nat} (calm:A.handled=none) (hsys:(dd == sysModules)=false) (hob:s.heap.get? dd=some ob) (hex:ob.ExactDict) (hdt:ob.data=.dict ens tick) (few:ens.size<=sizeLine) (hne:S≠dd) (hS:s.heap.get? S=some { cls:=.type "list",data:=.seq #[] c₀ })
  (fin:∀ h2 tk acc c2,(∀ b o,b≠S->s.heap.get? b=some o->h2.get? b=some o)->h2.get? S=some { cls:=.type "list",dict:=none,data:=.seq acc c2,slots:=#[] }->ItemsOf (fun i v=>∃ e,ens[i]?=some e/\v=e.key) acc ens.size->R (.ok (.ret res)) { s with heap:=h2,toks:=tk }) :
  wpAny (model prog w) A.in1 (Builtin.List.listExtendWith (.ref S) (.ref dd) res) (fun f s'=>match f with | .done f=>R (.ok f) s' | .again c'=>c'.quiet=true/\codeAny (model prog w) A c' R s') (fun e s'=>R (.error e) s') s:=by
 have hSlt:S<s.heap.objs.size:=Heap.lt_size hS
 have hSI:S≠s.heap.objs.size:=Nat.ne_of_lt hSlt
 have hdI:dd≠s.heap.objs.size:=Nat.ne_of_lt (Heap.lt_size hob)
 have hSf:S ∉ [s.heap.objs.size,dd]:=fun hm=>by
  rcases List.mem_cons.mp hm with z | z
  ·exact hSI z
  ·exact hne (List.mem_singleton.mp z)
 have W:=(znw (prog:=prog) (w:=w) (A:=A.in1) (kk:=s.heap.objs.size) calm hdI hdt).toS
 have loop:∀ (h:Heap) (c₁ tk:Nat),h.IsKeyIter s.heap.objs.size dd 0 ens.size tick->h.get? dd=some ob->(∀ b o,b≠S->s.heap.get? b=some o->h.get? b=some o) ->
   h.get? S=some { cls:=.type "list",data:=.seq #[] c₁ }->codeAny (model prog w) A (.builtin "list.extend.loop" ⟨[.ref S,.ref s.heap.objs.size,res],[]⟩) R { s with heap:=h,toks:=tk }:=by
  intro h c₁ tk hit hod hk hS₁
  refine codeAny_extend_loopS W few S hSf res ens.size 0 _ #[] c₁ rfl (Nat.zero_le _) ⟨hit,hod⟩ hS₁ (ItemsOf.nil _) fun s' acc' c' hm hS' hacc=>?_
  rw [Moved.eq_with hm]
  refine fin s'.heap s'.toks acc' c' (fun b o hb e=>hm.heap b o (fun z=>?_) (hk b o hb e)) hS' hacc
  rcases List.mem_cons.mp z with e' | z
  ·exact hb e'
  ·exact absurd (Heap.lt_size e) (by rw [List.mem_singleton.mp z]; exact Nat.lt_irrefl _)
 unfold Builtin.List.listExtendWith; refine wpAny_bind (wpAny_typeOf (zb4 hob hex) ?_)
 have h1:Builtin.List.listSameRef (.ref S) (.ref dd)=false:=by simp [Builtin.List.listSameRef,hne]
 simp only [h1,show (Value.type "dict" == Value.type "list")=false by decide,show (Value.type "dict" == Value.type "tuple")=false by decide,Bool.or_false,Bool.false_eq_true,if_false]
 refine wpAny_bind (zeF hsys hob hex hdt ?_); refine wpAny_bind (wpAny_holding (ztm (Heap.get?_push_of_some _ hob) hex ?_))
 have hit₁:(s.heap.push { cls:=.type "dict_keyiterator",data:=.fields #[.ref dd,.int 0 0,.int ens.size 0,.int tick 0] }).IsKeyIter s.heap.objs.size dd 0 ens.size tick:=⟨_,Heap.get?_push_size _ rfl,rfl,rfl⟩
 have hS₁:=Heap.get?_push_of_some { cls:=.type "dict_keyiterator",data:=.fields #[.ref dd,.int 0 0,.int ens.size 0,.int tick 0] } hS
 refine wpAny_ite_split (fun _=>?_) (fun _=>wpAny_pure ⟨plainId_quiet F.plain_extend_loop _,loop _ c₀ _ hit₁ (Heap.get?_push_of_some _ hob) (fun b o _ e=>Heap.get?_push_of_some _ e) hS₁⟩)
 refine wpAny_bind (wpAny_rule (wpAny_bind ?_))
 show wpAny _ _ (updateSeq S (·.push .none) >>= fun _=>updateSeq S (·.pop)) _ _ _
 refine wpAny_bind (wpAny_updateSeq hS₁ rfl ?_); have hS₂:=Heap.get?_update_self (Obj.mapSeq (·.push Value.none)) hS₁ rfl
 refine wpAny_updateSeq (hz:=by seq_fits) hS₂ rfl ?_
 have hS₃:=Heap.get?_update_self (Obj.mapSeq (·.pop)) hS₂ rfl
 have oth:∀ b o,b≠S->(s.heap.push { cls:=.type "dict_keyiterator",data:=.fields #[.ref dd,.int 0 0,.int ens.size 0,.int tick 0] }).get? b=some o->(((s.heap.push { cls:=.type "dict_keyiterator",data:=.fields #[.ref dd,.int 0 0,.int ens.size 0,.int tick 0] }).update S (Obj.mapSeq (·.push Value.none))).update S (Obj.mapSeq (·.pop))).get? b=some o :=
  fun b o hb e=>(Heap.get?_update_other _ _ (Ne.symm hb)).trans ((Heap.get?_update_other _ _ (Ne.symm hb)).trans e)
 exact wpAny_pure ⟨plainId_quiet F.plain_extend_loop _,loop _ _ _ (hit₁.at fun o e=>oth _ o (Ne.symm hSI) e) (oth _ _ (Ne.symm hne) (Heap.get?_push_of_some _ hob)) (fun b o hb e=>oth b o hb (Heap.get?_push_of_some _ e)) hS₃⟩
theorem zoU {R:Result->Shared->Prop} {S:Addr} (calm:A.handled=none) (hsys:(dd == sysModules)=false) (hob:s.heap.get? dd=some ob) (hex:ob.ExactDict) (hdt:ob.data=.dict ens tick) (few:ens.size<=sizeLine) (hne:S≠dd) (hS:s.heap.get? S=some { cls:=.type "list",data:=.seq #[] })
  (fin:∀ h2 tk acc c2,(∀ b o,b≠S->s.heap.get? b=some o->h2.get? b=some o)->h2.get? S=some { cls:=.type "list",dict:=none,data:=.seq acc c2,slots:=#[] }->ItemsOf (fun i v=>∃ e,ens[i]?=some e/\v=e.key) acc ens.size->R (.ok (.ret .none)) { s with heap:=h2,toks:=tk }) :
  wpAny (model prog w) A.in1 (Builtin.«list.__init__» ⟨[.ref S,.ref dd],[]⟩) (fun f s'=>match f with | .done f=>R (.ok f) s' | .again c'=>c'.quiet=true/\codeAny (model prog w) A c' R s') (fun e s'=>R (.error e) s') s:=by
 show wpAny _ _ (Builtin.List.listItems (.ref S) >>= fun old=>Builtin.List.listUpdate (.ref S) (fun _=>#[]) >>= fun _=>letGo old.toList.reverse >>= fun _=>Builtin.List.listExtendWith (.ref S) (.ref dd) .none) _ _ s
 unfold Builtin.List.listItems; refine wpAny_bind (wpAny_bind (wpAny_seqItems hS rfl (wpAny_pure ?_)))
 show wpAny _ _ (updateSeq S (fun _=>#[]) >>= fun _=>letGo (#[]:Array Value).toList.reverse >>= fun _=>Builtin.List.listExtendWith (.ref S) (.ref dd) .none) _ _ s
 have hS₂:=Heap.get?_update_self (Obj.mapSeq (fun _=>(#[]:Array Value))) hS rfl
 have oth:∀ b o,b≠S->s.heap.get? b=some o->(s.heap.update S (Obj.mapSeq (fun _=>(#[]:Array Value)))).get? b=some o:=fun b o hb e=>(Heap.get?_update_other _ _ (Ne.symm hb)).trans e
 refine wpAny_bind (wpAny_updateSeq hS rfl (wpAny_bind (wpAny_letGo ?_)))
 exact zlo calm hsys (oth dd _ (Ne.symm hne) hob) hex hdt few hne hS₂ fun h2 tk acc c2 hk hS' hacc=>fin h2 tk acc c2 (fun b o hb e=>hk b o hb (oth b o hb e)) hS' hacc
theorem zoz {Q:Value->Shared->Prop} (calm:A.handled=none) (hsys:(dd == sysModules)=false) (hob:s.heap.get? dd=some ob) (hex:ob.ExactDict) (hdt:ob.data=.dict ens tick) (few:ens.size<=sizeLine)
  (fin:∀ h2 tk acc c2,(∀ b o,s.heap.get? b=some o->h2.get? b=some o)->h2.get? s.heap.objs.size=some { cls:=.type "list",dict:=none,data:=.seq acc c2,slots:=#[] }->ItemsOf (fun i v=>∃ e,ens[i]?=some e/\v=e.key) acc ens.size->Q (.ref s.heap.objs.size) { s with heap:=h2,toks:=tk }) :
  wpAny (model prog w) A (call (.type "list") [.ref dd]) Q E s:=by
 refine callType_codes (Q₁:=fun obj s₁=>obj=.ref s.heap.objs.size/\s₁={ s with heap:=s.heap.push { cls:=.type "list",data:=.seq #[] } }) F.called_list (F.typeCall_list_1 _) F.entry_list_init (code_list_new _ ⟨rfl,rfl⟩) fun obj s₁ h₁=>?_
 obtain ⟨rfl,rfl⟩:=h₁
 have hS:(s.heap.push { cls:=.type "list",data:=.seq #[] }).get? s.heap.objs.size=some { cls:=.type "list",data:=.seq #[] }:=Heap.get?_push_size _ rfl
 refine ⟨⟨_,hS,rfl⟩,F.args_list_init_2 _ _,zoU (A:=A.in1) calm hsys (Heap.get?_push_of_some _ hob) hex hdt few (Ne.symm (Nat.ne_of_lt (Heap.lt_size hob))) hS fun h2 tk acc c2 hk hS' hacc=>?_⟩
 exact ⟨rfl,fin h2 tk acc c2 (fun b o e=>hk b o (Nat.ne_of_lt (Heap.lt_size e)) (Heap.get?_push_of_some _ e)) hS' hacc⟩
end
end PySem
namespace L2
open PySem PySem.Spec PyProof.Rows
section
variable {X:Cx}
def ztR:Value->V
 | .ref b=>.ref b
 | _=>.non
theorem Inv.keys {pins:List (Addr × Obj)} {σ:St} {H:Hp} {s:Shared} {a:Addr} {kvs:List (List Key × V)} {ep:Nat} (I:Inv X pins σ H s) (e:H a=some (.dE kvs ep)):kvs.length<=sizeLine/\(a == sysModules)=false/\∃ (o:Obj) (es:Array DictEntry),s.heap.get? a=some o/\o.ExactDict/\o.data=.dict es ep/\es.size=kvs.length /\
  ∀ (i:Nat) k y,kvs[i]?=some (k,y)->∃ b x,es[i]?=some x/\x.key=.ref b/\H b=some (.tup (k.map kV)):=by
 obtain ⟨z,hd,xs,rel,_,o,es,ho,hx,hdat,he⟩:=zeQ I.hok e
 have hl:kvs.length=xs.length:=Paired.length rel
 have hs:es.size=kvs.length:=by
  have:=congrArg List.length he
  rw [List.length_map,Array.length_toList] at this; rw [this,hl]
 refine ⟨z,hd,o,es,ho,hx,hdat,hs,fun i k y hk=>?_⟩
 have hi:i<kvs.length:=(List.getElem?_eq_some_iff.mp hk).1
 have hix:i<xs.length:=by rw [<- hl]; exact hi
 have hi':i<es.size:=by rw [hs]; exact hi
 have q:=PL.paired_get i rel hk (List.getElem?_eq_getElem hix); refine ⟨xs[i].2.1,es[i],Array.getElem?_eq_getElem hi',?_,q.2.1⟩
 have e1:es.toList[i]?=(xs.map (entryOfKey (tupleKind (zaS X.prog X.w))))[i]?:=by rw [he]
 rw [List.getElem?_map,List.getElem?_eq_getElem hix,Array.getElem?_toList,Array.getElem?_eq_getElem hi'] at e1; rw [Option.some.inj e1]; rfl
theorem zna:zbZ X (.builtin "len") (fun xs H Q=>∃ a kvs ep,xs=[.ref a]/\H a=some (.dE kvs ep)/\Q (.int kvs.length) H):=by
 intro pins s σ H xs us Q I r h; obtain ⟨a,kvs,ep,rfl,e,q⟩:=h; obtain ⟨u,rfl,rx⟩:=zc8 r; cases rx; obtain ⟨z,hd,o,es,ho,hx,hdat,hs,_⟩:=I.keys e
 refine zvh hd ho hx hdat (by rw [hs]; exact z) ?_
 rw [hs]; exact ⟨.int kvs.length,H,I.tok _,⟨_,rfl⟩,q⟩
theorem zlr (hc:X.calm=true):zbZ X (.type "list") (fun xs H Q=>∃ a kvs ep,xs=[.ref a]/\H a=some (.dE kvs ep)/\∀ l ys,H l=none->ys.length=kvs.length->(∀ (i:Nat) k y,kvs[i]?=some (k,y)->∃ b,ys[i]?=some (.ref b)/\H b=some (.tup (k.map kV)))->Q (.ref l) (upd H l (.lst ys))):=by
 intro pins s σ H xs us Q I r h; obtain ⟨a,kvs,ep,rfl,e,q⟩:=h; obtain ⟨u,rfl,rx⟩:=zc8 r; cases rx; obtain ⟨z,hd,o,es,ho,hx,hdat,hs,hk⟩:=I.keys e
 refine zoz (I.ok.hd hc) hd ho hx hdat (by rw [hs]; exact z) fun h2 tk acc c2 kp e2 hit=>?_
 obtain ⟨hsz,hit⟩:=hit
 have each:∀ (j:Nat) v,acc[j]?=some v->∃ b k y,v=.ref b/\kvs[j]?=some (k,y)/\H b=some (.tup (k.map kV)):=fun j v hj=>by
  obtain ⟨x,hx1,rfl⟩:=hit j v hj
  have hjl:j<kvs.length:=by
   rw [<- hs]; exact (Array.getElem?_eq_some_iff.mp hx1).1
  obtain ⟨b,x',hx2,hb,ht⟩:=hk j kvs[j].1 kvs[j].2 (List.getElem?_eq_getElem hjl); rw [hx1] at hx2; cases hx2; exact ⟨b,kvs[j].1,kvs[j].2,hb,List.getElem?_eq_getElem hjl,ht⟩
 have hys:zae (acc.toList.map ztR) acc.toList:=by
  refine PL.paired_of (by rw [List.length_map]) fun j x v h1 h2=>?_
  rw [List.getElem?_map,h2] at h1
  obtain ⟨b,_,_,rfl,_⟩:=each j v (by rw [<- Array.getElem?_toList]; exact h2)
  cases h1; exact rfl
 have hl:(acc.toList.map ztR).length=kvs.length:=by rw [List.length_map,Array.length_toList,hsz,hs]
 have I2:=I.laid (t':=tk) (o:=.lst (acc.toList.map ztR)) kp (Nat.le_refl _) (show zaP X.prog X.w _ h2 _ (.lst (acc.toList.map ztR)) from ⟨by rw [hl]; exact z,acc.toList,c2,hys,by simpa using e2⟩)
 refine ⟨.ref s.heap.objs.size,_,I2,rfl,q _ _ (I.hok.fresh (Nat.le_refl _)) hl fun i k y hi=>?_⟩
 have hil:i<acc.size:=by rw [hsz,hs]; exact (List.getElem?_eq_some_iff.mp hi).1
 obtain ⟨b,k',y',hv,hk',ht⟩:=each i acc[i] (Array.getElem?_eq_getElem hil); rw [hi] at hk'; cases hk'; refine ⟨b,?_,ht⟩; rw [List.getElem?_map,Array.getElem?_toList,Array.getElem?_eq_getElem hil,hv]; rfl
end
end L2
namespace PL
open PySem L2
section
variable {X:Cx}
abbrev zo9:=List D->(OD->Prop)->Prop
def zpN (K:W.Frag) (r:List V->Hp->VK->Prop) (r':zo9):Prop:=∀ (Hi H:Hp) (vs:List V) (ds:List D) (Q:OD->Prop) (Q2:VK),Fz Hi H->zaV K Hi vs ds->r' ds Q ->
 (∀ Hi1 H1 p u o,Ext Hi H Hi1 H1->H1 p=none->(∀ xs,u≠.tup xs)->zaU K Hi1 (upd H1 p u) p o->Q o->Q2 (.ref p) (upd H1 p u))->r vs H Q2
structure CalO (X:Cx) (f:Value) (r':zo9):Prop where
 ex:∃ r,zbZ X f r/\zpN X.K r r'
theorem CalO.or {f:Value} {r r':zo9} (h:CalO X f r) (h':CalO X f r'):CalO X f (fun x Q=>r x Q\/r' x Q):=by
 obtain ⟨a,ha,la⟩:=h.ex; obtain ⟨b,hb,lb⟩:=h'.ex
 refine ⟨_,ha.or hb,fun Hi H vs ds Q Q2 s d q fin=>?_⟩
 rcases q with q | q
 ·exact .inl (la Hi H vs ds Q Q2 s d q fin)
 ·exact .inr (lb Hi H vs ds Q Q2 s d q fin)
def zfc (r:zo9) (t:TA'):TO':=fun Γ Q=>t Γ fun ds Γ1=>r ds fun o=>Q o Γ1
theorem zpT {K:W.Frag} {n:Nat} {r:List V->Hp->VK->Prop} {r':zo9} {t:TA'} {σ:St} {H:Hp} {Q:VK} (l:zpN K r r') (h:oOf K n (zfc r' t) σ H Q):tCB r (zus K n t) σ H Q:=by
 obtain ⟨W,Hi,Γ,Q',g,h,fin⟩:=h; refine ⟨W,Hi,Γ,_,g,h,?_⟩; intro vs H1 Hi1 Γ1 ds s1 g1 dl h1; refine l Hi1 H1 vs ds _ _ g1.fz dl h1 ?_; intro Hi2 H2 p u o e hp hu own q; have g2:=g1.ext e; exact fin p _ Hi2 Γ1 o (s1.trans e.hi) (g2.ext (Ext.newO g2.fz hp u hu)) (New.mk' g2 hp own) q
variable {x:Str} {p pos:Pos} {e:Expr} {es:List Expr} {t:TA'} {id T:String}
theorem zk4 {r':zo9} (hc:CalO X (.type T) r') (hm:X.mg x=none) (hv:bootBuiltins x=some (.type T)) (ha:PA' X (e :: es) t) (hg:Gl X x:=by rfl) (hn:x≠"__name__":=by decide) (hdb:(x == ("__debug__":Str))=false:=by decide):PO' X (.Call (.Name x p) (e :: es) [] pos) (zfc r' t):=by
 obtain ⟨r,ho,l⟩:=hc.ex; obtain ⟨p1,p2⟩:=zM ha.pl
 exact ⟨PE.weak (zh5 ho hg hm hv ha.pa hn hdb (zK p1) (zay p2)) fun σ H Q q=>zpT l q⟩
def zje:zo9:=fun ds Q=>∃ d es,ds=[d]/\(d=.lst es\/d=.tup es)/\Q (.lst es)
theorem ztB:CalO X (.type "list") zje:=⟨_,ziS,by
 rintro Hi H vs ds Q Q2 s dl ⟨d,es,rfl,h,q⟩ fin
 obtain ⟨v,rfl,den⟩:=zeb dl
 rcases h with rfl | rfl
 ·obtain ⟨a,us,rfl,h1,h2⟩:=den.lstI
  exact ⟨a,us,rfl,.inl (zE s.sub h1),fun l hl=>fin Hi H l _ (.lst es) (Ext.refl s) hl (fun _ z=>by cases z) ⟨us,zj,h2⟩ q⟩
 ·obtain ⟨a,us,rfl,h1,h2⟩:=den.tupI
  exact ⟨a,us,rfl,.inr (zC s.sub h1),fun l hl=>fin Hi H l _ (.lst es) (Ext.refl s) hl (fun _ z=>by cases z) ⟨us,zj,h2⟩ q⟩⟩
def zgX:zo9:=fun ds Q=>∃ es,ds=[.dit es]/\Q (.lst (es.map (·.1)))
theorem zrA (hc:X.calm=true):CalO X (.type "list") zgX:=⟨_,zlr hc,by
 rintro Hi H vs ds Q Q2 s dl ⟨es,rfl,q⟩ fin
 obtain ⟨v,rfl,den⟩:=zeb dl; obtain ⟨a,kvs,ep,rfl,h1,h2⟩:=den.ditI
 refine ⟨a,kvs,ep,rfl,s.sub _ _ h1,fun l ys hl hy hk=>fin Hi H l _ (.lst (es.map (·.1))) (Ext.refl s) hl (fun _ z=>by cases z) ⟨ys,zj,?_⟩ q⟩
 refine paired_of (by rw [hy,List.length_map,zg h2]) fun i v d e1 e2=>?_
 rw [List.getElem?_map] at e2
 cases hc2:es[i]? with
 | none=>rw [hc2] at e2; cases e2
 | some q =>
  rw [hc2] at e2; cases e2; obtain ⟨p,ep,ep2⟩:=zQ h2 hc2; obtain ⟨b,eb,hb⟩:=hk i p.1 p.2 ep; rw [e1] at eb; cases eb
  show Den X.K Hi (.ref b) q.1
  rw [ep2.1]; exact Den.mkT (s.tups _ _ hb) (zmI _)⟩
def zjf:RC':=fun ds Q=>∃ es,ds=[.dit es]/\Q (.int es.length)
theorem ztC:Cal X (.builtin "len") zjf:=⟨_,zna,by
 rintro Hi H vs ds Q Q2 s dl ⟨es,rfl,q⟩ fin
 obtain ⟨v,rfl,den⟩:=zeb dl; obtain ⟨a,kvs,ep,rfl,h1,h2⟩:=den.ditI; refine ⟨a,kvs,ep,rfl,s.sub _ _ h1,?_⟩; rw [zg h2]; exact fin Hi H _ _ (Ext.refl s) (.int _) q⟩
instance:MRC zjf:=⟨fun _ _ _ h ⟨es,a,q⟩=>⟨es,a,h _ q⟩⟩
end
end PL
namespace PySem
section
variable {prog:Program} {w:World} {A:Around} {E:Value->Shared->Prop} {s:Shared} {S tt:Addr} {ob:Obj} {mine items:Array Value} {n c₀:Nat} {T:String}
theorem zks {Q:Value->Shared->Prop} (hT:T="list"\/T="tuple") (hS:s.heap.get? S=some { cls:=.type "list",data:=.seq mine c₀ }) (hob:s.heap.get? tt=some ob) (hcl:ob.cls=.type T) (hdt:ob.data=.seq items n) (few:mine.size+items.size<=sizeLine)
  (fin:Q .none { s with heap:=s.heap.update S (Obj.mapSeq (· ++ items)) }):wpAny (model prog w) A (call (.builtin "list.extend") [.ref S,.ref tt]) Q E s:=by
 refine wpAny_call_entry F.slot_list_extend ⟨_,hS,rfl⟩ F.entry_list_extend ?_ (F.args_list_extend_2 _ _)
 show wpAny _ _ (Builtin.List.listExtendWith (.ref S) (.ref tt) .none) _ _ s
 unfold Builtin.List.listExtendWith; refine wpAny_bind (wpAny_typeOf ⟨ob,hob,hcl⟩ ?_)
 have h1:(Builtin.List.listSameRef (.ref S) (.ref tt) || Value.type T == Value.type "list" || Value.type T == Value.type "tuple")=true:=by
  rcases hT with rfl | rfl <;> simp
 simp only [h1,if_true]; unfold Builtin.List.listItems; refine wpAny_bind (wpAny_bind (wpAny_seqItems hob hdt (wpAny_pure (wpAny_bind (wpAny_bind (wpAny_seqItems hS rfl (wpAny_pure ?_)))))))
 have hlong:¬ (!mine.isEmpty && Builtin.List.listTooLong (mine.size+items.size))=true:=by
  rw [L2.notLongL few,Bool.and_false]; exact Bool.false_ne_true
 rw [if_neg hlong]
 show wpAny _ _ (updateSeq S (· ++ items) >>= fun _=>ret .none) _ _ s
 refine wpAny_bind (wpAny_updateSeq hS rfl (wpAny_pure ⟨_,rfl,fin⟩) (by omega) (by rw [Array.size_append]; omega))
end
end PySem
namespace L2
open PySem PySem.Spec PyProof.Rows
section
variable {X:Cx}
theorem zlc:MtM X "list.extend" (fun x vs H Q=>∃ l b xs zs,x=.ref l/\vs=[.ref b]/\H l=some (.lst xs)/\(SqL X.K H b zs\/SqT X.K H b zs)/\xs.length+zs.length<=sizeLine/\Q .non (upd H l (.lst (xs ++ zs)))):=by
 intro pins s σ H x vs v us Q I rx rv h; obtain ⟨l,b,xs,zs,rfl,rfl,hH,hB,hz,q⟩:=h; cases rx; obtain ⟨u,rfl,ru⟩:=rv.one; cases ru; obtain ⟨z,its,n,r,hl,e⟩:=I.lstM hH
 have fin:∀ (its2:List Value),zae zs its2->EP X pins σ Q .none { s with heap:=s.heap.update l (Obj.mapSeq (· ++ its2.toArray)) }:=fun its2 r2 =>
  ⟨.non,_,I.lset (its':=its ++ its2) hH e (by simp) (r.append r2) (by rw [List.length_append]; exact hz),rfl,q⟩
 rcases hB with hB | hB
 ·obtain ⟨its2,r2,pl,_⟩:=I.list hB
  obtain ⟨o,ho,hc,n2,hd⟩:=pl.isList
  exact zks (T:="list") (.inl rfl) e ho hc hd (by rw [List.size_toArray,List.size_toArray,<- r.length,<- r2.length]; exact hz) (fin its2 r2)
 ·obtain ⟨its2,r2,⟨o,ho,hc,n2,hd⟩,_⟩:=I.tuple hB
  exact zks (T:="tuple") (.inr rfl) e ho hc hd (by rw [List.size_toArray,List.size_toArray,<- r.length,<- r2.length]; exact hz) (fin its2 r2)
theorem zqS:OpR X (binaryOp .Add) (fun x y H Q=>∃ a b xs ys,x=.ref a/\y=.ref b/\SqL X.K H a xs/\SqL X.K H b ys/\xs.length+ys.length<=sizeLine/\∀ p,H p=none->Q (.ref p) (upd H p (.lst (xs ++ ys)))):=by
 intro pins s σ H x y v u Q I rx ry h; obtain ⟨a,b,xs,ys,rfl,rfl,ha,hb,hz,q⟩:=h; cases rx; cases ry; obtain ⟨its,r1,p1,_⟩:=I.list ha; obtain ⟨its2,r2,p2,_⟩:=I.list hb
 obtain ⟨⟨cls,dd,data,sl⟩,ho,hc,n,hd⟩:=id p1.isList
 obtain ⟨⟨cls2,dd2,data2,sl2⟩,ho2,hc2,n2,hd2⟩:=id p2.isList
 simp only at hc hd hc2 hd2
 subst hc hd hc2 hd2
 have ea:its.toArray ++ its2.toArray=(its ++ its2).toArray:=by simp
 refine concat_meets ⟨_,ho,rfl⟩ ⟨_,ho2,rfl⟩ noFill_list_add seq_list_add PySem.F.slot_list_add PySem.F.entry_list_add (PySem.F.args_list_add_2 _ _)
  (list_addW a b its.toArray its2.toArray n n2 dd dd2 sl sl2 (by rw [List.size_toArray,List.size_toArray,<- r1.length,<- r2.length]; exact hz)) ⟨ho,ho2,?_⟩
 rw [ea]
 exact ⟨.ref _,_,I.lnew (t':=s.toks) (r1.append r2) (by rw [List.length_append]; exact hz),rfl,q _ I.fresh⟩
end
end L2
namespace PL
open PySem L2
section
variable {X:Cx}
abbrev ztH:=D->D->(OD->Prop)->Prop
def ztJ (K:W.Frag) (r:R2) (r':ztH):Prop:=∀ (Hi H:Hp) (x y:V) (dx dy:D) (Q:OD->Prop) (Q2:VK),Fz Hi H->Den K Hi x dx->Den K Hi y dy->r' dx dy Q ->
 (∀ Hi1 H1 p u o,Ext Hi H Hi1 H1->H1 p=none->(∀ xs,u≠.tup xs)->zaU K Hi1 (upd H1 p u) p o->Q o->Q2 (.ref p) (upd H1 p u))->r x y H Q2
structure Op2O (X:Cx) (f:Value->Value->Sem Value) (r':ztH):Prop where
 ex:∃ r,OpR X f r/\ztJ X.K r r'
def zf3 (r:ztH) (ta tb:TE'):TO':=fun Γ Q=>ta Γ fun x Γ1=>tb Γ1 fun y Γ2=>r x y fun o=>Q o Γ2
theorem zsz {a b:Expr} {op:Operator} {r':ztH} {ta tb:TE'} {pos:Pos} (h:Op2O X (binaryOp op) r') (ha:PE' X a ta) (hb:PE' X b tb):PO' X (.BinOp a op b pos) (zf3 r' ta tb):=by
 obtain ⟨r,ho,l⟩:=h.ex; refine ⟨PE.weak (zsH ho ha.h hb.h) ?_⟩
 rintro σ H Q ⟨W,Hi,Γ,Q',g,h,fin⟩
 refine ⟨W,Hi,Γ,_,g,h,?_⟩
 rintro x H1 ⟨Hi1,dx,Γ1,s1,g1,den1,h1⟩
 refine ⟨W,Hi1,Γ1,_,g1,h1,?_⟩
 rintro y H2 ⟨Hi2,dy,Γ2,s2,g2,den2,h2⟩
 refine l Hi2 H2 x y dx dy _ _ g2.fz (den1.mono s2) den2 h2 ?_; intro Hi3 H3 p u o e hp hu own q; have g3:=g2.ext e; exact fin p _ Hi3 Γ2 o (s1.trans (s2.trans e.hi)) (g3.ext (Ext.newO g3.fz hp u hu)) (New.mk' g3 hp own) q
def zsr:ztH:=fun x y Q=>∃ xs ys,x=.lst xs/\y=.lst ys/\xs.length+ys.length<=sizeLine/\Q (.lst (xs ++ ys))
theorem zs5:Op2O X (binaryOp .Add) zsr:=⟨_,zqS,by
 rintro Hi H x y dx dy Q Q2 s d1 d2 ⟨xs,ys,rfl,rfl,hl,q⟩ fin
 obtain ⟨a,vs,rfl,h1,h2⟩:=d1.lstI; obtain ⟨b,us,rfl,h3,h4⟩:=d2.lstI
 exact ⟨a,b,vs,us,rfl,rfl,zE s.sub h1,zE s.sub h3,by rw [zg h2,zg h4]; exact hl,fun p hp=>fin Hi H p _ (.lst (xs ++ ys)) (Ext.refl s) hp (fun _ z=>by cases z) ⟨_,zj,zah h2 h4⟩ q⟩⟩
def zaG (i:Nat) (te:TE'):TS':=fun N Γ=>(∃ ds0,Γ[i]?=some (.own (.lst ds0)))/\te Γ fun d Γ1=>∃ ds es,Γ1[i]?=some (.own (.lst ds))/\(d=.lst es\/d=.tup es)/\ds.length+es.length<=sizeLine/\N.nx (Γ1.set i (.own (.lst (ds ++ es))))
theorem zk3 (i:Nat) {x:Str} {e:Expr} {te:TE'} {pos p apos cpos:Pos} (he:PE' X e te) (hN:X.N[i]?=some x:=by rfl) (hv:Vis X.env.scope x:=by first | exact Or.inl rfl | exact Or.inr (Or.inl rfl) | exact Or.inr (Or.inr rfl)) (hd:(x == ("__debug__":Str))=false:=by decide)
  (hcd:(x == ("__classdict__":Str))=false:=by decide) (hst:zcR e=false:=by rfl)
  (hbase:attributeBase (.Name x p) "extend" X.env (eval (.Name x p) X.env)=eval (.Name x p) X.env:=by rfl) (hline:(apos.endLine == cpos.line)=true:=by rfl)
  (hs:swapsWith (.Call (.Attribute (.Name x p) "extend" apos) [e] [] cpos) none pos.line X.env=pure false:=by rfl) :
  PS' X (.Expr (.Call (.Attribute (.Name x p) "extend" apos) [e] [] cpos) pos) (zaG i te):=by
 have hfew:((backTo cpos (starEach [e] X.env)).all (fun x=>!x.1) && (backToKw cpos (keywordEach [] X.env)).all (fun x=>x.1.isSome)
   && decide ([e].length+([]:List Keyword).length+(if ([]:List Keyword).isEmpty then 0 else 1)<30))=true:=by
  rw [zK hst]; rfl
 have base:=zjk (zqJ PySem.F.plainAttrs_list PySem.F.slot_list_extend PySem.F.type_list_extend (zlc (X:=X)) (zdZ (i:=i) (pos:=p) hN hv hd hcd) (zcO he.h zke (zK hst)) hbase hfew hline (zK hst) rfl) hs; refine ⟨PS.weak base ?_⟩
 rintro N2 σ H ⟨W,Hi,Γ,N,g,⟨⟨ds0,e0⟩,q⟩,l⟩
 have hi:i<X.N.length:=(List.getElem?_eq_some_iff.mp hN).1
 obtain ⟨a,h1,h2,h3,vs0,h4,h5⟩:=g.own i _ e0; refine ⟨.ref a,zkK hi h1,.inl ⟨rfl,vs0,SqL.of h4⟩,W,Hi,Γ,_,g,q,?_⟩
 rintro v H1 ⟨Hi1,d,Γ1,s1,g1,den,ds,es,e1,hd',hl,q1⟩
 obtain ⟨a',k1,k2,k3,vs,k4,k5⟩:=g1.own i _ e1; rw [h1] at k1; cases k1
 have fin:∀ b us,v=.ref b->(SqL X.K H1 b us\/SqT X.K H1 b us)->zaV X.K Hi1 us es->_:=fun b us hb hsq hden =>
  (⟨a,b,vs,us,rfl,by rw [hb],k4,hsq,by rw [zg k5,zg hden]; exact hl,l.nx σ _ Hi1 _ s1 (g1.put (o:=.lst (ds ++ es)) e1 h1 ⟨vs ++ us,zj,zah k5 hden⟩) q1⟩:∃ l b xs zs,V.ref a=.ref l/\[v]=[.ref b]/\H1 l=some (.lst xs)/\(SqL X.K H1 b zs\/SqT X.K H1 b zs)/\xs.length+zs.length<=sizeLine/\N2.nx σ (upd H1 l (.lst (xs ++ zs))))
 rcases hd' with rfl | rfl
 ·obtain ⟨b,us,hb,m1,m2⟩:=den.lstI
  exact fin b us hb (.inl (zE g1.sub m1)) m2
 ·obtain ⟨b,us,hb,m1,m2⟩:=den.tupI
  exact fin b us hb (.inr (zC g1.sub m1)) m2
instance {i:Nat} {te:TE'} [ME te]:MS (zaG i te):=⟨fun N N' Γ h ⟨a,q⟩=>⟨a,ME.mono (t:=te) _ _ _ (fun _ _ ⟨ds,es,e,b,l,z⟩=>⟨ds,es,e,b,l,h.nx _ z⟩) q⟩⟩
end
end PL
namespace L2
open PySem PySem.Spec PyProof.Rows
section
variable {X:Cx}
end
end L2
namespace PL
open PySem L2
section
variable {X:Cx}
end
end PL
namespace PySem
open PyProof.Rows
namespace F
end F
section
variable {prog:Program} {w:World} {A:Around} {E:Value->Shared->Prop} {s:Shared} {tt rr:Addr} {items:Array Value}
end
end PySem
namespace L2
open PySem PySem.Spec PyProof.Rows
section
variable {X:Cx} {tg:Expr}
end
end L2
namespace PL
open PySem L2
end PL
namespace X1
open PySem
def Ex (h:Heap) (e:Addr) (cl:Value) (dd:Option Addr) (vs:Array Value):Prop:=∃ sl,h.get? e=some ⟨cl,dd,.fields vs,sl⟩
def Ent (h:Heap) (T:Addr) (fl:Value):Prop:=∃ c d ts sl,h.get? T=some ⟨c,d,.fields ts,sl⟩/\ts[3]?=some fl
def Hd (h:Heap) (e:Addr) (vs:Array Value) (fl:Value) (R:Addr->Prop):Prop:=(vs[1]?=some .none/\fl=.none)\/∃ T,vs[1]?=some (.ref T)/\T≠e/\R T/\Ent h T fl
section
variable {M:Model} {A:Around} {E:Value->Shared->Prop} {s:Shared} {base:Heap} {env:Env} {outer:List Env} {L e:Addr} {cl fl:Value} {dd:Option Addr} {vs:Array Value} {R:Addr->Prop}
end
end X1
namespace X1
open PySem
section
variable {prog:Program} {w:World} {A:Around} {E:Value->Shared->Prop} {h:Heap} {g:Array GenState} {d:Drawn} {t:Nat} {os:OsState} {C N fI:Addr} {oI:Obj} {bm bmB:List Value} {B nid iid:String} {mN:Str->Option Value} {zdp:List Value}
end
end X1
namespace X1
open PySem
section
variable {M:Model} {A:Around} {E:Value->Shared->Prop} {env:Env} {s:Shared} {C N:Addr} {bm:List Value} {nid:String}
end
end X1
namespace X1
open PySem PySem.W
section
variable {prog:Program} {w:World} {A:Around} {E:Value->Shared->Prop} {s:Shared} {K:Frag} {x C:Addr} {ox:Obj} {od:Option Obj} {name:Str}
structure XGet (K:Frag) (C:Addr):Prop where
 ga:findIn K (.ref C) "__getattribute__"=some (some (.builtin "BaseException.__getattribute__"))
 gr:findIn K (.ref C) "__getattr__"=some none
 sub:mroIn K C (.type "BaseException")=some true
theorem zkL {tk:Tok} {v:Value} {R:Result->Shared->Prop} (X:K.In s.heap) (I:InstAt s.heap x ox C od) (T:XGet K C) (hf:findObj K C od name=some (.value v)) (h:R (.ok (.ret v)) s) :
  codeAny (model prog w) A (.call (.builtin "BaseException.__getattribute__") ⟨[.ref x,.str name tk],[]⟩) R s:=by
 obtain ⟨hh',g,d,t,os⟩:=s; have L0:=I.type (M:=model prog w); have L1:=looks_find (M:=model prog w) X I hf
 have LI:Looks (model prog w) hh' (isInstance (.ref x) (.type "BaseException")) true:=L0.andThen (looks_mroIn X T.sub)
 have hk:builtinKind "BaseException.__getattribute__"=some .slot:=by decide +kernel
 have hsp:splitId "BaseException.__getattribute__"=some ("BaseException","__getattribute__"):=by decide +kernel
 refine codeAny_call_builtin F.excAttr_ValueError.ga.plain F.entry_bexc_ga (@check_slot (model prog w) _ _ _ "BaseException.__getattribute__" "BaseException" "__getattribute__" (.ref x) [.str name tk] [] _ hk hsp LI (F.args_bexc_ga (.ref x) (.str name tk)) ?_); refine wpAny_bind (wpAny_pure (wpAny_bind (wpAny_pure (wpAny_bind (L0.at (wpAny_bind (L1.at ?_))))))); exact wpAny_pure h
theorem zlD {tk:Tok} {fill expr:Bool} {v:Value} {Q:Value->Shared->Prop} (X:K.In s.heap) (I:InstAt s.heap x ox C od) (T:XGet K C) (h:∀ R:Result->Shared->Prop,R (.ok (.ret v)) s->codeAny (model prog w) A (.call (.builtin "BaseException.__getattribute__") ⟨[.ref x,.str name tk],[]⟩) R s)
  (hh:handedIn v=true) (q:Q v s):wpAny (model prog w) A (getAttrBy (.ref x) (.str name tk) fill expr) Q E s:=by
 obtain ⟨hh',g,d,t,os⟩:=s; have L0:=I.type (M:=model prog w); have L1:=looks_findIn (M:=model prog w) X T.ga; have L2:=looks_findIn (M:=model prog w) X T.gr; unfold getAttrBy; refine wpAny_holding (wpAny_bind (L0.at (wpAny_bind (L1.at ?_))))
 show wpAny _ _ (if (onTheHeap (.ref C) && Value.builtin "BaseException.__getattribute__" == Value.builtin "object.__getattribute__")=true then _ else _) _ _ _
 rw [if_neg (by
  have z:(Value.builtin "BaseException.__getattribute__" == Value.builtin "object.__getattribute__")=false:=by decide +kernel
  rw [z,Bool.and_false]; exact Bool.false_ne_true)]
 unfold getAttrByItsOwn hookBefore; refine wpAny_bind (L2.at ?_); refine wpAny_bind (wpAny_attempt (wpAny_holding ?_)); unfold callGetattribute
 rw [if_neg (by cases expr <;> decide)]
 unfold boundAndCalled; rw [F.excAttr_ValueError.ga.bind]; refine wpAny_bind (wpAny_pure (wpAny_call (h _ ?_)))
 show wpAny _ _ (handedOut v) _ _ _
 rw [handedOut_of hh]; exact wpAny_pure q
theorem xget {expr:Bool} {v:Value} {Q:Value->Shared->Prop} (X:K.In s.heap) (I:InstAt s.heap x ox C od) (T:XGet K C) (hf:findObj K C od name=some (.value v)) (hh:handedIn v=true) (q:Q v { s with toks:=s.toks+1 }):wpAny (model prog w) A (getAttr (.ref x) name expr) Q E s:=by
 unfold getAttr
 exact wpAny_bind (wpAny_mkText (zlD (s:={ s with toks:=s.toks+1 }) X I T (fun R hR=>zkL (s:={ s with toks:=s.toks+1 }) X I T hf hR) hh q))
theorem zkM {tk:Tok} {R:Result->Shared->Prop} (X:K.In s.heap) (I:InstAt s.heap x ox C od) (T:XGet K C) (hf:findObj K C od "__class__"=some (.bind (.builtin "getset_descriptor.__get__") (.builtin "object.__class__"))) (hm:mroIn K C (.type "object")=some true)
  (h:R (.ok (.ret (.ref C))) s):codeAny (model prog w) A (.call (.builtin "BaseException.__getattribute__") ⟨[.ref x,.str "__class__" tk],[]⟩) R s:=by
 obtain ⟨hh',g,d,t,os⟩:=s; have L0:=I.type (M:=model prog w); have L1:=looks_find (M:=model prog w) X I hf
 have LI:Looks (model prog w) hh' (isInstance (.ref x) (.type "BaseException")) true:=L0.andThen (looks_mroIn X T.sub)
 have hk:builtinKind "BaseException.__getattribute__"=some .slot:=by decide +kernel
 have hsp:splitId "BaseException.__getattribute__"=some ("BaseException","__getattribute__"):=by decide +kernel
 refine codeAny_call_builtin F.excAttr_ValueError.ga.plain F.entry_bexc_ga (@check_slot (model prog w) _ _ _ "BaseException.__getattribute__" "BaseException" "__getattribute__" (.ref x) [.str "__class__" tk] [] _ hk hsp LI (F.args_bexc_ga (.ref x) (.str "__class__" tk)) ?_); refine wpAny_bind (wpAny_pure (wpAny_bind (wpAny_pure (wpAny_bind (L0.at (wpAny_bind (L1.at ?_)))))))
 show wpAny _ _ (Builtin.ObjectAttr.bindTo (.builtin "getset_descriptor.__get__") (.builtin "object.__class__") (.ref x) (.ref C)) _ _ _
 show wpAny _ _ (do let r <- holding [Value.builtin "object.__class__"] (call (.builtin "getset_descriptor.__get__") [.builtin "object.__class__",.ref x,.ref C]); ret r) _ _ _
 exact wpAny_bind (wpAny_holding (wpAny_call (class_get (ox:=ox) (od:=od) X I hm (wpAny_pure h))))
theorem xget_class? {Q:Option Value->Shared->Prop} (X:K.In s.heap) (I:InstAt s.heap x ox C od) (T:XGet K C) (hf:findObj K C od "__class__"=some (.bind (.builtin "getset_descriptor.__get__") (.builtin "object.__class__"))) (hm:mroIn K C (.type "object")=some true)
  (h:Q (some (.ref C)) { s with toks:=s.toks+1 }):wpAny (model prog w) A (getAttr? (.ref x) "__class__") Q E s:=by
 unfold getAttr? getAttrBy?
 refine wpAny_bind (wpAny_mkText (wpAny_bind (wpAny_attempt ?_)))
 exact zlD (s:={ s with toks:=s.toks+1 }) X I T (fun R hR=>zkM (s:={ s with toks:=s.toks+1 }) X I T hf hm hR) rfl (wpAny_pure h)
end
structure XIs (K:Frag) (C:Addr):Prop extends XGet K C where
 cl:(clsIn K C).isSome=true
 ha:findIn K (.ref C) "__class__"=some (some (.builtin "object.__class__"))
 hn:specialIn K (.builtin "object.__class__") "__get__"=some (some (.builtin "getset_descriptor.__get__"))
 tk:takesIn K (.builtin "object.__class__")=some true
 ob:mroIn K C (.type "object")=some true
theorem zjG {K:Frag} {C:Addr} {a g:Value} {od:Option Obj} {name:Str} (hc:(clsIn K C).isSome=true) (ha:findIn K (.ref C) name=some (some a)) (hg:specialIn K a "__get__"=some (some g)) (ht:takesIn K a=some true):findObj K C od name=some (.bind g a):=by
 obtain ⟨cd,e⟩:=Option.isSome_iff_exists.mp hc; unfold findObj; rw [e,Option.bind_some,ha]; simp [hg,ht]
theorem kitx_exc {K:Frag} {x C:Addr} (T:XIs K C):KitX K (.ref x) (.ref C) (fun h=>∃ ox od,InstAt h x ox C od) where
 ty:=fun _ _ _ ⟨_,_,I⟩=>I.type
 it:=fun _ _ X _=>by
  have hcD:=T.cl; unfold clsIn at hcD; split at hcD
  ·rename_i c' d' cd' sl' ho
   intro A' Q' E' s' k q; unfold isType loadHead; exact wpAny_bind (wpAny_loadPart (k _ _ (X _ _ ho)) (wpAny_pure q))
  ·cases hcD
 ne:=fun h tp dd its n sl X htp=>by
  have hcD:=T.cl
  refine Bool.eq_false_iff.mpr fun q=>?_
  have e:C=tp:=Value.ref.inj (beq_iff_eq.mp q)
  subst e; unfold clsIn at hcD; split at hcD
  ·rename_i c' d' cd' sl' ho
   have z:=(X _ _ ho).symm.trans htp; cases z
  ·cases hcD
 ca:=fun X ⟨_,_,I⟩ k=>xget_class? X I T.toXGet (zjG T.cl T.ha T.hn T.tk) T.ob k
end X1
namespace L2
open PySem PySem.Spec PyProof.Rows
structure InsT (K:W.Frag) (C:Addr):Prop where
 cl:Cls K C
 ha:W.findIn K (.ref C) "__class__"=some (some (.builtin "object.__class__"))
 hn:W.specialIn K (.builtin "object.__class__") "__get__"=some (some (.builtin "getset_descriptor.__get__"))
 htk:W.takesIn K (.builtin "object.__class__")=some true
 hm:W.mroIn K C (.type "object")=some true
def TyA (K:W.Frag) (H:Hp) (x:V) (t:Value):Prop:=(∃ n,t=.type n/\ztK K H x n)\/(∃ a C dx fs,x=.ref a/\H a=some (.ins C dx fs)/\t=.ref C/\InsT K C)\/∃ a C dd,x=.ref a/\H a=some (.ext (XAt a C dd))/\(∀ dx,dd=some dx->∃ fs,H dx=some (.xd fs))/\t=.ref C/\X1.XIs K C
def zvz:V->Option Value
 | .ty n=>some (.type n)
 | .ref C=>some (.ref C)
 | _=>none
theorem zo6 {c:V} {u v:Value} (r:zao c u) (h:zvz c=some v):u=v:=by
 cases c with
 | ty n=>cases h; exact r
 | ref C=>cases h; exact r
 | _=>cases h
theorem zcn {K:W.Frag} {C D':Addr} {b:Bool} (hd:W.hasDictIn K D'=true) (ht:W.typeIn K (.ref D')=some (.type "type")) (hm:W.mroIn K C (.ref D')=some b) (hne:b=true\/(Value.ref C == Value.ref D')=false):W.kitOne K (.ref C) (.ref D')=some b:=by
 have hc:(W.clsIn K D').isSome=true:=by
  obtain ⟨cd,e,_⟩:=W.any_some hd; rw [e]; rfl
 have hk:W.kitCls K (.ref C) (.ref D')=some b:=by
  show (if ((W.clsIn K D').isSome && W.typeIn K (.ref D') == some (.type "type"))=true then W.subIn K (.ref C) (.ref D') else none)=some b
  rw [hc,ht,if_pos (by simp)]
  exact hm
 unfold W.kitOne
 by_cases e:(Value.ref C == Value.ref D')=true
 ·rw [if_pos e]
  rcases hne with h | h
  ·rw [h]
  ·rw [h] at e
   cases e
 ·rw [if_neg e]
  exact hk
section
variable {X:Cx}
theorem zpQ {pins:List (Addr × Obj)} {σ:St} {H:Hp} {s:Shared} {x:V} {u t:Value} (I:Inv X pins σ H s) (r1:zao x u) (ty:TyA X.K H x t):∃ Hh,W.KitX X.K u t Hh/\Hh s.heap/\u≠.builtin "__main__.__loader__#opaque":=by
 rcases ty with ⟨n,rfl,ty⟩ | ⟨a,C,dx,fs,rfl,ea,rfl,T⟩ | ⟨a,C,dd,rfl,ea,hdd,rfl,T⟩
 ·cases x with
  | non=>cases (show n=_ from ty); cases (show u=Value.none from r1); exact ⟨_,W.kitx_none,True.intro,fun z=>nomatch z⟩
  | bl y=>cases (show n=_ from ty); cases (show u=Value.bool y from r1); exact ⟨_,W.kitx_bool,True.intro,fun z=>nomatch z⟩
  | int i=>cases (show n=_ from ty); obtain ⟨tk,z⟩:=(show ∃ t,u=Value.int i t from r1); cases z; exact ⟨_,W.kitx_int,True.intro,fun z=>nomatch z⟩
  | str y=>cases (show n=_ from ty); obtain ⟨tk,z⟩:=(show ∃ t,u=Value.str y t from r1); cases z; exact ⟨_,W.kitx_str,True.intro,fun z=>nomatch z⟩
  | ref a =>
   cases (show u=Value.ref a from r1)
   rcases ty with ⟨rfl,xs,hq⟩ | ⟨rfl,xs,hq⟩ | ⟨rfl,hq⟩
   ·obtain ⟨its,_,p,_⟩:=I.list hq
    obtain ⟨o,n,e1,c1,_⟩:=p
    exact ⟨_,W.kitx_list,⟨o,e1,c1⟩,fun z=>nomatch z⟩
   ·obtain ⟨its,_,p,_⟩:=I.tuple hq
    obtain ⟨o,h1,h2,_⟩:=p
    exact ⟨_,W.kitx_tuple,⟨o,h1,h2⟩,fun z=>nomatch z⟩
   ·have z:∃ o,s.heap.get? a=some o/\o.ExactDict:=by
     rcases hq with ⟨kvs,hq⟩ | ⟨kvs,hq⟩
     ·obtain ⟨_,_,_,_,o,_,_,e,ex,_⟩:=hq.ok I.hok
      exact ⟨o,e,ex⟩
     ·obtain ⟨_,_,_,_,o,_,_,e,ex,_⟩:=hq.ok I.hok
      exact ⟨o,e,ex⟩
    obtain ⟨o,h1,h2⟩:=z
    exact ⟨_,W.kitx_dict,⟨o,h1,h2.1⟩,fun z=>nomatch z⟩
  | _=>exact False.elim ty
 ·cases (show u=Value.ref a from r1)
  obtain ⟨mA,O,_⟩:=zhp I.hok ea; obtain ⟨od,J,_⟩:=O.look
  exact ⟨_,W.kitx_own (T.cl.get _) T.cl.hd T.ha T.hn T.htk T.hm,J,fun z=>nomatch z⟩
 ·cases (show u=Value.ref a from r1)
  obtain ⟨⟨vs,sl,hx⟩,_⟩:=(show zaP X.prog X.w H s.heap a (.ext (XAt a C dd)) from I.hok a _ ea)
  refine ⟨_,X1.kitx_exc T,?_,fun z=>nomatch z⟩
  cases dd with
  | none=>exact ⟨_,none,hx,rfl,rfl,True.intro⟩
  | some dx =>
   obtain ⟨fs,hf⟩:=hdd dx rfl
   obtain ⟨mA,⟨o,es,ep,ho,_⟩,_⟩:=(show zaP X.prog X.w H s.heap dx (.xd fs) from I.hok dx _ hf)
   exact ⟨_,some o,hx,rfl,rfl,ho⟩
theorem znb:zbZ X (.builtin "isinstance") (fun xs H Q=>∃ x t cv c b,xs=[x,cv]/\zvz cv=some c/\TyA X.K H x t/\W.kitOne X.K t c=some b/\Q (.bl b) H):=by
 intro pins s σ H xs us Q I r h; obtain ⟨x,t,cv,c,b,rfl,hc,ty,e,q⟩:=h; obtain ⟨u,w',rfl,r1,r2⟩:=znx r
 cases zo6 r2 hc
 obtain ⟨Hh,kx,hp,ne⟩:=zpQ I r1 ty
 exact W.kia_one kx I.kIn hp e ne fun tk=>⟨.bl b,H,I.tok _,rfl,q⟩
def zgo (C:Addr) (fs:List Str):Sp:=fun vs H Q _=>∃ a dx us,vs=.ref a :: us/\us.length=fs.length/\H a=some (.ins C dx [])/\Q .non (upd H a (.ins C dx (fs.zip us)))
end
end L2
namespace PL
open PySem L2
section
variable {X:Cx} {pos:Pos}
theorem zlB.look {K:W.Frag} {H:Hp} {f:Str} {d:D}:∀ {fs:List (Str × V)} {ds:List (Str × D)},zlB K H fs ds->ds.lookup f=some d->∃ v,fs.lookup f=some v/\Den K H v d
 | _,_,.nil,h=>by simp at h
 | p :: fs,q :: ds,.cons r t,h=>by
  obtain ⟨p1,p2⟩:=p; obtain ⟨q1,q2⟩:=q; obtain ⟨r1,r2⟩:=r
  dsimp only at r1 r2
  subst r1
  by_cases e:f=q1
  ·have hb:(f == q1)=true:=beq_iff_eq.mpr e
   simp only [List.lookup,hb] at h ⊢; cases h; exact ⟨_,rfl,r2⟩
  ·have hb:(f == q1)=false:=beq_eq_false_iff_ne.mpr e
   simp only [List.lookup,hb] at h ⊢; exact zlB.look t h
theorem zlC {K:W.Frag} {H:Hp}:∀ (fs:List Str) {vs:List V} {ds:List D},zaV K H vs ds->zlB K H (fs.zip vs) (fs.zip ds)
 | [],_,_,_=>.nil
 | f :: fs,_,_,.nil=>by simp only [List.zip_nil_right]; exact .nil
 | f :: fs,_,_,.cons r t=>.cons ⟨rfl,r⟩ (zlC fs t)
theorem zjl {x:Str} {C:Addr} (hm:X.mg x=some (.ref C)) (hg:Gl X x:=by rfl) (hd:(x == ("__debug__":Str))=false:=by decide):PE' X (.Name x pos) (tC' (.cls C)):=zqE (v:=.ref C) hm rfl (fun _=>.cls C) hg hd
def zvA:D->Option Value
 | .ty n=>some (.type n)
 | .cls C=>some (.ref C)
 | _=>none
theorem zry {K:W.Frag} {H:Hp} {v:V} {d:D} {c:Value} (h:Den K H v d) (e:zvA d=some c):zvz v=some c:=by
 cases h with
 | ty n=>exact e
 | cls C=>exact e
 | _=>cases e
def TyD (K:W.Frag) (d:D) (t:Value):Prop:=(∃ n,t=.type n/\zq9 d=some n)\/(∃ C fs,d=.obj C fs/\t=.ref C/\InsT K C)\/∃ C fs,d=.exc C fs/\t=.ref C/\X1.XIs K C
theorem TyD.ok {K:W.Frag} {Hi H:Hp} {x:V} {d:D} {t:Value} (s:zU Hi H) (den:Den K Hi x d) (h:TyD K d t):TyA K H x t:=by
 rcases h with ⟨n,rfl,h⟩ | ⟨C,fs,rfl,rfl,T⟩ | ⟨C,fs,rfl,rfl,T⟩
 ·exact .inl ⟨n,rfl,zoP s den h⟩
 ·obtain ⟨a,dx,fvs,rfl,ha,_⟩:=den.objI
  exact .inr (.inl ⟨a,C,dx,fvs,rfl,s _ _ ha,rfl,T⟩)
 ·obtain ⟨a,dd,rfl,ha,xd⟩:=den.excI
  refine .inr (.inr ⟨a,C,dd,rfl,s _ _ ha,fun dx e=>?_,rfl,T⟩)
  rcases xd with ⟨e',_⟩ | ⟨dx',fs',e',hf,_⟩
  ·rw [e'] at e; cases e
  ·rw [e'] at e
   cases e; exact ⟨fs',s _ _ hf⟩
def zjg (K:W.Frag):RC':=fun ds Q=>∃ d t cd c b,ds=[d,cd]/\zvA cd=some c/\TyD K d t/\W.kitOne K t c=some b/\Q (.bl b)
theorem ztD:Cal X (.builtin "isinstance") (zjg X.K):=⟨_,znb,by
 rintro Hi H vs ds Q Q2 s dl ⟨d,t,cd,c,b,rfl,hc,ty,e,q⟩ fin
 obtain ⟨v,w,rfl,d1,d2⟩:=zlp dl; exact ⟨v,t,w,c,b,rfl,zry d2 hc,ty.ok s.sub d1,e,fin Hi H _ _ (Ext.refl s) (.bl _) q⟩⟩
structure Mak (P:Program) (w:World) (K:W.Frag) (mg:Str->Option Value) (base:Heap) (k:Nat) (x:Str) (C:Addr) (fs:List Str):Prop where
 ex:∃ f fd ps,Mk K C f/\FnOk P w K mg base CX0 k f fd ps (zgo C fs)/\zbi K fd ps []/\mg x=some (.ref C)
def zdg (C:Addr) (fs:List Str) (t:TA'):TE':=fun Γ Q=>t Γ fun ds Γ1=>ds.length=fs.length/\Q (.obj C (fs.zip ds)) Γ1
theorem zd0 {k:Nat} {x:Str} {C:Addr} {fs:List Str} {p:Pos} {e:Expr} {es:List Expr} {t:TA'} (M:Mak X.prog X.w X.K X.mg X.base k x C fs) (hr:Room (k+1) X.A) (ha:PA' X (e :: es) t) (hg:Gl X x:=by rfl) (hdb:(x == ("__debug__":Str))=false:=by decide) :
  PE' X (.Call (.Name x p) (e :: es) [] pos) (zdg C fs t):=by
 obtain ⟨f,fd,ps,mk,F,b,hm⟩:=M.ex; refine ⟨PE.weak (zqB (E:=E0) (dvs:=[]) mk F hr hg hm b .nil zml ha.pa hdb (zK (zM ha.pl).1) (zay (zM ha.pl).2)) ?_⟩
 rintro σ H Q ⟨W,Hi,Γ,Q',g,h,fin⟩
 refine ⟨W,Hi,Γ,_,g,h,?_⟩
 rintro vs H1 Hi1 Γ1 ds s1 g1 dl ⟨hl,q⟩
 intro a dx hna hdx ne; rw [List.append_nil]
 refine ⟨a,dx,vs,rfl,by rw [zg dl]; exact hl,zj,rfl,?_⟩
 rw [zeg]
 have e1:=Ext.newO g1.fz hdx (.own a) (fun _ z=>by cases z)
 have hna':upd H1 dx (.own a) a=none:=by rw [zq (fun z=>ne z.symm)]; exact hna
 have e2:=Ext.new e1.fz hna' (.ins C dx (fs.zip vs)); have e3:=e1.trans e2; exact fin _ _ ⟨_,_,Γ1,s1.trans e3.hi,g1.ext e3,Den.mkO zj ((zlC fs dl).mono e3.hi),q⟩
end
end PL
namespace L2
open PySem PySem.Spec PyProof.Rows
section
variable {X:Cx} {pins:List (Addr × Obj)} {σ:St} {H:Hp} {s:Shared} {a:Addr} {y d:V} {u r:Value} {o:Option V} {A:Around} {E:Value->Shared->Prop}
theorem ztt {Q:Value->Shared->Prop} (hu:A.units+1<cLine) (I:Inv X pins σ H s) (g:znu H a y o) (ry:zao y u) (rd:zao d r) (h:∀ w' s',Inv X pins σ H s'->zao (o.getD d) w'->Q w' s') :
  wpAny (model X.prog X.w) A (call (.builtin "dict.get") [.ref a,u,r]) Q E s:=by
 obtain ⟨kvs,ep,k,b,e,ey,eb,l⟩:=g; subst ey
 cases (show u=Value.ref b from ry)
 obtain ⟨z,hd,xs,rel,dd,_⟩:=zeQ I.hok e; refine call_meetsIn PySem.F.slot_dict_get dd.typeIs PySem.F.entry_dict_get (PySem.F.args_dict_get_3 _ _ _) (meetsH_dict_get_default (tupleKind (zaS X.prog X.w)) a b hd r) ⟨tupleKind_room_in1 hu,k,xs,zfO I.hok eb,dd,h _ _ (I.tok _) ?_⟩; rw [l]; exact (rel.val k).getD rd
theorem ztk (I:Inv X pins σ H s) {kvs:List (List Key × V)} {ep:Nat} (e:H a=some (.dE kvs ep)) :
  s.TypeIs (.ref a) "dict"/\(∀ b,Value.ref a=.ref b->∃ ob,s.heap.get? b=some ob/\ob.dict=none):=by
 obtain ⟨_,hd,xs,_,dd,_⟩:=zeQ I.hok e
 refine ⟨dd.typeIs,fun b q=>?_⟩
 cases q; obtain ⟨ob,_,_,h1,h2,_⟩:=dd; exact ⟨ob,h1,h2.2.1⟩
end
def zrW (td ty tx:TE):TE:=fun σ H Q=>td σ H fun x H1=>∃ a kvs ep,x=.ref a/\H1 a=some (.dE kvs ep)/\ty σ H1 fun y H2=>tx σ H2 fun z H3=>∃ o,znu H3 a y o/\Q (o.getD z) H3
section
variable {X:Cx} {o e f:Expr} {apos cpos:Pos} {td ty tx:TE}
theorem zog (hu:X.A.units+1<cLine) (ho:PE X o td) (he:PE X e ty) (hf:PE X f tx) (m:M2 X o "get" apos e f cpos):PE X (.Call (.Attribute o "get" apos) [e,f] [] cpos) (zrW td ty tx):=by
 intro pins s σ H Q I h
 refine wpAny_Call_method m.base m.few m.line PySem.F.plainAttrs_dict PySem.F.slot_dict_get PySem.F.type_dict_get (thn (ho pins s σ H _ I h) fun u s1 ⟨x,H1,I1,rx,a,kvs,ep,ex,d,q1⟩=>?_)
 subst ex
 obtain rfl:u=Value.ref a:=rx
 obtain ⟨t1,t2⟩:=ztk I1 d; refine ⟨t1,t2,?_⟩; rw [m.trees]
 refine Calls.callWith_builtin rfl (Calls.evalArgs_plain (Calls.spliced_cons (thn (he pins s1 σ H1 _ I1 q1) fun iv s2 ⟨y,H2,I2,ry,q2⟩ =>
  Calls.spliced_cons (thn (hf pins s2 σ H2 _ I2 q2) fun fv s3 ⟨z,H3,I3,rz,ov,g,q3⟩=>Calls.spliced_nil ?_))))
 exact ztt hu I3 g ry rz fun w' s4 I4 rw'=>⟨_,H3,I4,rw',q3⟩
end
theorem zkV {a b c:Int} (ha:-(2 ^ 60)<=a) (ha':a<2 ^ 60) (hb:-(2 ^ 60)<=b) (hb':b<2 ^ 60) (hc:-(2 ^ 30)<c) (hc':c<2 ^ 30):Builtin.Range.small a b c=true:=by
 have h1:=PyProof.Rows.rangeSize_toNat a b c; have h2:=PyProof.Rows.rangeSize_toNat_le a b c; unfold Builtin.Range.small; simp only [Builtin.Range.rangeFitsLong,Bool.and_eq_true,Bool.or_eq_true,decide_eq_true_eq,beq_iff_eq]
 refine ⟨⟨⟨⟨by omega,by omega⟩,by omega⟩,by omega⟩,.inr ?_⟩
 split <;> (simp [Builtin.Range.rangeFitsLong]; omega)
def zug (lo c:Int) (n:Nat):It:=⟨fun i _=>i<n,fun i H x H'=>H'=H/\x=.int (lo+(i:Nat) * c),fun i _=>n<=i⟩
theorem zi5 {P:Program} {w:World} {K:W.Frag} {tg:Expr} (it:Addr) (lo c:Int) (n:Nat):Turn P w K tg (zug lo c n) [it] it (fun i h=>IsRangeIter h it (lo+(i:Nat) * c) ((n:Int)-(i:Nat)) c) where
 mem:=by simp
 obj:=fun i h st b hb=>by
  have e:b=it:=by simpa using hb
  subst e
  exact ⟨_,st,fun v z=>by
   have z':Data.fields _=Data.cell v:=z
   cases z'⟩
 keep:=fun i h h' st k=>k it (by simp) _ st
 item:=by
  intro X hP hw hK hc i pins s σ H E I hf st hg
  subst hP hw hK
  obtain ⟨f0,f1,f2,f3,f4,f5⟩:=hf it (by simp)
  have W:=Walks.range (prog:=X.prog) (w:=X.w) (I.ok.hd hc) it lo c n
  refine W.item i s _ _ hg st fun v h' tk hv st' kk=>?_
  obtain ⟨t,rfl⟩:=hv
  have I1:Inv X pins σ H { s with heap:=h',toks:=tk }:=I.turned (fun b o hb e=>kk b o (by simpa using hb) e) f0 f1 f3 f4 f5
  exact ⟨_,rfl,zll (s:={ s with heap:=h',toks:=tk }) (n:="range_iterator") st' rfl rfl (by decide) ⟨.int (lo+(i:Nat) * c),H,I1,⟨t,rfl⟩,⟨rfl,rfl⟩,st',fun b hb=>(hf b hb).1⟩⟩
 done:=by
  intro X hP hw hK hc i pins s σ H E I hf st hg
  subst hP hw hK
  obtain ⟨f0,f1,f2,f3,f4,f5⟩:=hf it (by simp)
  exact wpAny_pyNext_range_end (I.ok.hd hc) st (by have:n<=i:=hg; omega) fun h' eb=>⟨rfl,I.turned (t':=s.toks) (fun b o hb e=>eb b o hb e) f0 f1 f3 f4 f5⟩
 self:=fun _ _ _ _ _ st h=>wpAny_pyIter_rangeiter st h
section
variable {X:Cx} {tg:Expr}
theorem zl2 {pins:List (Addr × Obj)} {σ:St} {H:Hp} {s:Shared} {R:It->Hp->Prop} {E:Value->Shared->Prop} {lo hi c:Int} {t u v:Tok} {tk:Nat} (I:Inv X pins σ H s) (h1:-(2 ^ 60)<=lo) (h2:lo<2 ^ 60) (h3:-(2 ^ 60)<=hi) (h4:hi<2 ^ 60) (h5:-(2 ^ 30)<c) (h6:c<2 ^ 30)
  (q:R (zug lo c (Builtin.Range.rangeSize lo hi c).toNat) H):wpAny (model X.prog X.w) X.A (pyIter (.ref s.heap.objs.size)) (PIE X pins σ tg R) E { s with heap:=s.heap.push { cls:=.type "range",data:=.fields #[.int lo t,.int hi u,.int c v] },toks:=tk }:=by
 refine wpAny_pyIter_range (IsRange.new ..) (zkV h1 h2 h3 h4 h5 h6) ?_
 have I1:Inv X pins σ H { s with heap:=s.heap.push { cls:=.type "range",data:=.fields #[.int lo t,.int hi u,.int c v] },toks:=tk }:=I.kept fun b o e=>Heap.get?_push_of_some _ e
 refine ⟨(s.heap.push { cls:=.type "range",data:=.fields #[.int lo t,.int hi u,.int c v] }).objs.size,[(s.heap.push { cls:=.type "range",data:=.fields #[.int lo t,.int hi u,.int c v] }).objs.size],_,_,H,rfl,
  I1.kept (t':=tk) fun b o e=>Heap.get?_push_of_some _ e,zi5 _ lo c (Builtin.Range.rangeSize lo hi c).toNat,?_,fun b hb=>?_,q⟩
 ·have e1:lo+((0:Nat):Int) * c=lo:=by simp
  have e2:(((Builtin.Range.rangeSize lo hi c).toNat:Nat):Int)-((0:Nat):Int)=Builtin.Range.rangeSize lo hi c:=by rw [<- PyProof.Rows.rangeSize_toNat]; simp
  show IsRangeIter _ _ (lo+((0:Nat):Int) * c) ((((Builtin.Range.rangeSize lo hi c).toNat:Nat):Int)-((0:Nat):Int)) c
  rw [e1,e2]; exact Heap.get?_push_size _ rfl
 ·have e:b=(s.heap.push { cls:=.type "range",data:=.fields #[.int lo t,.int hi u,.int c v] }).objs.size:=by simpa using hb
  subst e; exact I1.fpOk (Nat.le_refl _) (I1.hok.fresh (Nat.le_refl _))
def zvl (ta:TA):TI:=fun σ H R=>ta σ H fun vs H1=>∃ i j c:Int,vs=[.int i,.int j,.int c]/\(-(2 ^ 60)<=i/\i<2 ^ 60/\-(2 ^ 60)<=j/\j<2 ^ 60/\-(2 ^ 30)<c/\c<2 ^ 30/\c≠0)/\R (zug i c (Builtin.Range.rangeSize i j c).toNat) H1
theorem zmg {a b c:Expr} {ta:TA} {p pos:Pos} (hg:Gl X "range") (hm:X.mg "range"=none) (ha:PA X [a,b,c] ta) (hs:starEach [a,b,c] X.env=(false,eval a X.env) :: starEach [b,c] X.env) (hpl:(backTo pos (starEach [b,c] X.env)).any (·.1)=false) :
  PI X tg (.Call (.Name "range" p) [a,b,c] [] pos) (zvl ta):=by
 intro pins s σ H R I h
 refine Call_ (zfI I hg hm boot_range (PyProof.Rows.callWith_type1 (thn (ha pos pins s σ H _ I h) fun us s1 ⟨vs,H1,I1,r1,q1⟩=>?_) hs hpl))
 obtain ⟨i,j,k,e,⟨q1,q2,q3,q4,q5,q6,q7⟩,q⟩:=q1
 subst e
 cases r1 with
 | cons r rr =>
  cases rr with
  | cons r' rr =>
   cases rr with
   | cons r'' rr =>
    cases rr; obtain ⟨t,rfl⟩:=r; obtain ⟨t',rfl⟩:=r'; obtain ⟨t'',rfl⟩:=r''
    exact call_range_3 q7 (zl2 I1 q1 q2 q3 q4 q5 q6 q) (Or.inl (PyProof.noPylong_small (by omega)))
end
end L2
namespace PL
open PySem L2
section
variable {X:Cx} {pos:Pos}
def zdi (td ty tx:TE'):TE':=fun Γ Q=>td Γ fun x Γ1=>(∃ ds,x=.dit ds)/\ty Γ1 fun y Γ2=>tx Γ2 fun z Γ3=>∃ (ds:List (D × D)) (ks:List Key),x=.dit ds/\y=.tup (ks.map keyD)/\Q ((zbm ds y).getD z) Γ3
theorem OptD.getD {K:W.Frag} {H:Hp} {o:Option V} {d:Option D} {v:V} {e:D} (h:OptD K H o d) (r:Den K H v e):Den K H (o.getD v) (d.getD e):=by
 cases h with
 | none=>exact r
 | some h=>exact h
theorem zof (hu:X.A.units+1<cLine) {o e f:Expr} {apos cpos:Pos} {td ty tx:TE'} (ho:PE' X o td) (he:PE' X e ty) (hf:PE' X f tx) (m:M2 X o "get" apos e f cpos:=by exact ⟨rfl,rfl,rfl,rfl⟩) :
  PE' X (.Call (.Attribute o "get" apos) [e,f] [] cpos) (zdi td ty tx):=by
 refine ⟨PE.weak (zog hu ho.h he.h hf.h m) ?_⟩
 rintro σ H Q ⟨W,Hi,Γ,Q',g,h,fin⟩
 refine ⟨W,Hi,Γ,_,g,h,?_⟩
 rintro x H1 ⟨Hi1,d,Γ1,s1,g1,den1,⟨ds,rfl⟩,h1⟩
 obtain ⟨a,kvs,ep,rfl,ha,dk⟩:=den1.ditI; refine ⟨a,kvs,ep,rfl,g1.sub _ _ ha,W,Hi1,Γ1,_,g1,h1,?_⟩
 rintro y H2 ⟨Hi2,dy,Γ2,s2,g2,den2,h2⟩
 refine ⟨W,Hi2,Γ2,_,g2,h2,?_⟩
 rintro z H3 ⟨Hi3,dz,Γ3,s3,g3,den3,ds',ks,e1,rfl,q⟩
 cases e1; obtain ⟨a',o,e2,gt,r⟩:=zo0 g3.fz (den1.mono (s2.trans s3)) (den2.mono s3); cases e2; exact ⟨o,gt,fin _ H3 ⟨Hi3,_,Γ3,s1.trans (s2.trans s3),g3,r.getD den3,q⟩⟩
def zgZ (neg:Bool):R2':=fun x y Q=>∃ (l:List Nat) (ms:List (List Nat)),x=.str l/\(y=.tup (ms.map .str)\/y=.lst (ms.map .str))/\Q (.bl (if neg then !decide (l ∈ ms) else decide (l ∈ ms)))
theorem zhw {K:W.Frag} {Hi:Hp}:∀ {vs:List V} {ms:List (List Nat)},zaV K Hi vs (ms.map .str)->vs=ms.map fun m=>V.str (st m)
 | [],[],_=>rfl
 | v :: vs,m :: ms,.cons r t=>by rw [List.map_cons,<- r.strI,<- zhw t]
 | [],_ :: _,h=>nomatch h
 | _ :: _,[],h=>nomatch h
theorem zhr (l:List Nat):∀ ms:List (List Nat),inV (.str (st l)) (ms.map fun m=>V.str (st m))=decide (l ∈ ms)
 | []=>rfl
 | m :: ms=>by
  have ih:=zhr l ms
  unfold inV at ih ⊢
  rw [List.map_cons,List.any_cons,ih]
  have e:eqV (.str (st m)) (.str (st l))=decide (m=l):=by
   show decide (st m=st l)=_
   by_cases h:m=l
   ·rw [h]; simp
   ·rw [decide_eq_false h,decide_eq_false (fun z=>h (by
     have:=congrArg (fun x:Str=>x.cps.toList) z
     simpa [st] using this))]
  rw [e]
  by_cases h:m=l
  ·subst h; simp
  ·have h':¬ l=m:=fun z=>h z.symm
   simp [h,h']
theorem ziB (ms:List (List Nat)):(ms.map fun m=>V.str (st m)).all zfT=true:=by
 rw [List.all_eq_true]; intro x hx; obtain ⟨m,_,rfl⟩:=List.mem_map.mp hx; rfl
theorem zkk {K:W.Frag} (neg:Bool):zjM K (rIn K neg) (zgZ neg):=by
 rintro Hi H x y dx dy Q Q2 s d1 d2 ⟨l,ms,rfl,hy,q⟩ fin
 cases d1.strI
 rcases hy with rfl | rfl
 ·obtain ⟨a,vs,rfl,h1,h2⟩:=d2.tupJ
  rw [zhw h2] at h1; refine ⟨a,_,rfl,.inr (SqT.of (s.sub _ _ h1)),rfl,ziB ms,?_⟩; rw [zhr]; exact fin Hi H _ _ (Ext.refl s) (.bl _) q
 ·obtain ⟨a,vs,rfl,h1,h2⟩:=d2.lstI
  rw [zhw h2] at h1; refine ⟨a,_,rfl,.inl (zE s.sub h1),rfl,ziB ms,?_⟩; rw [zhr]; exact fin Hi H _ _ (Ext.refl s) (.bl _) q
theorem zoq:Op2 X (compareOp .In) (zgZ false):=⟨_,zia,zkk false⟩
theorem zjv:Op2 X (compareOp .NotIn) (zgZ true):=⟨_,zh8,zkk true⟩
instance {neg:Bool}:MR2 (zgZ neg):=⟨fun _ _ _ _ h ⟨l,ms,a,b,q⟩=>⟨l,ms,a,b,h _ q⟩⟩
theorem zoR {K:W.Frag} {Hi:Hp} (lo c:Int) (n:Nat):ItD K Hi (zug lo c n) ((List.range n).map fun k=>.int (lo+(k:Nat) * c)):=by
 intro Hi' H' s f
 refine ⟨fun i d e=>?_,by show n<=_; simp⟩
 have hi:i<n:=by
  have:=(List.getElem?_eq_some_iff.mp e).1
  simpa using this
 rw [List.getElem?_map,List.getElem?_range hi] at e; cases e; refine ⟨hi,?_⟩
 rintro x H'' ⟨rfl,rfl⟩
 exact ⟨Hi',Ext.refl f,.int _⟩
def zse (i j c:Int):List D:=(List.range (Builtin.Range.rangeSize i j c).toNat).map fun k=>.int (i+(k:Nat) * c)
def zdq (t:TA'):TI':=fun Γ Q=>t Γ fun ds Γ1=>∃ i j c:Int,ds=[.int i,.int j,.int c]/\(-(2 ^ 60)<=i/\i<2 ^ 60/\-(2 ^ 60)<=j/\j<2 ^ 60/\-(2 ^ 30)<c/\c<2 ^ 30/\c≠0)/\Q (zse i j c) Γ1
theorem zvt {K:W.Frag} {H:Hp} {vs:List V} {d e f:D} (h:zaV K H vs [d,e,f]):∃ v w u,vs=[v,w,u]/\Den K H v d/\Den K H w e/\Den K H u f:=by
 cases h with
 | cons r t =>
  cases t with
  | cons r' t=>
   cases t with
   | cons r'' t=>cases t; exact ⟨_,_,_,rfl,r,r',r''⟩
theorem zgx {a b c tg:Expr} {t:TA'} {p pos:Pos} (hm:X.mg "range"=none) (ha:PA' X [a,b,c] t) (hg:Gl X "range":=by rfl):PI' X tg (.Call (.Name "range" p) [a,b,c] [] pos) (zdq t):=by
 refine ⟨PI.weak (zmg hg hm ha.pa (zK (zM ha.pl).1) (zay (zM ha.pl).2)) ?_⟩
 rintro σ H R ⟨W,Hi,Γ,Q',g,h,fin⟩
 refine ⟨W,Hi,Γ,_,g,h,?_⟩
 rintro vs H1 Hi1 Γ1 ds s1 g1 dl ⟨i,j,c,rfl,b,q⟩
 obtain ⟨v,w,u,rfl,d1,d2,d3⟩:=zvt dl
 exact ⟨i,j,c,by rw [d1.intI,d2.intI,d3.intI],b,fin _ H1 Hi1 Γ1 _ s1 g1 (zoR i c _) q⟩
end
end PL
namespace PL
open PySem L2
section
variable {X:Cx} {Q:D->Prop}
instance:MR2 zji:=⟨fun _ _ _ _ h ⟨i,j,a,b,c,q⟩=>⟨i,j,a,b,c,h _ q⟩⟩
def zh1:R2':=fun x y Q=>zg1 x y Q\/zji x y Q
theorem zR:Op2 X (binaryOp .Add) zh1:=zve.or zs3
instance:MR2 zh1:=⟨fun _ _ _ _ h q=>q.imp (MR2.mono (r:=zg1) _ _ _ _ h) (MR2.mono (r:=zji) _ _ _ _ h)⟩
instance {neg:Bool}:MR2 (zpi neg):=⟨fun _ _ _ _ h ⟨i,j,a,b,q⟩=>⟨i,j,a,b,h _ q⟩⟩
def zt3:R2':=fun x y Q=>znT false x y Q\/zpi false x y Q\/zgZ false x y Q
theorem zvd (hu:X.A.units+1<cLine):Op2 X (compareOp .In) zt3:=zva.or ((zu9 hu).or zoq)
instance:MR2 zt3:=⟨fun _ _ _ _ h q=>q.imp (MR2.mono (r:=znT false) _ _ _ _ h) (fun q=>q.imp (MR2.mono (r:=zpi false) _ _ _ _ h) (MR2.mono (r:=zgZ false) _ _ _ _ h))⟩
def zjd:R2':=fun x y Q=>zgW x y Q\/zpi true x y Q\/zgZ true x y Q
theorem zor (hu:X.A.units+1<cLine):Op2 X (compareOp .NotIn) zjd:=zqY.or ((zom hu).or zjv)
instance:MR2 zjd:=⟨fun _ _ _ _ h q=>q.imp (MR2.mono (r:=zgW) _ _ _ _ h) (fun q=>q.imp (MR2.mono (r:=zpi true) _ _ _ _ h) (MR2.mono (r:=zgZ true) _ _ _ _ h))⟩
instance:MR2 zjh:=⟨fun _ _ _ _ h ⟨i,j,v,a,b,c,q⟩=>⟨i,j,v,a,b,c,h _ q⟩⟩
def zeU:R2':=fun x y Q=>znk x y Q\/zjh x y Q
theorem i_A (hu:X.A.units+1<cLine):Ixs X zeU:=zvj.or (zvk hu)
instance:MR2 zeU:=⟨fun _ _ _ _ h q=>q.imp (MR2.mono (r:=znk) _ _ _ _ h) (MR2.mono (r:=zjh) _ _ _ _ h)⟩
instance:MRS zhZ:=⟨fun _ _ _ _ _ h ⟨ds,e,q⟩=>⟨ds,e,h _ q⟩⟩
def zl4:RS':=fun x lo hi Q=>zl5 x lo hi Q\/zhZ x lo hi Q
theorem s_A:Sli X zl4:=zws.or zuE
instance:MRS zl4:=⟨fun _ _ _ _ _ h q=>q.imp (MRS.mono (r:=zl5) _ _ _ _ _ h) (MRS.mono (r:=zhZ) _ _ _ _ _ h)⟩
def zgY:RC':=fun ds Q=>zgc ds Q\/zjf ds Q
theorem zaF:Cal X (.builtin "len") zgY:=zvB.or ztC
instance:MRC zgY:=⟨fun _ _ _ h q=>q.imp (MRC.mono (r:=zgc) _ _ _ h) (MRC.mono (r:=zjf) _ _ _ h)⟩
def zl6:zo9:=fun ds Q=>zje ds Q\/zgX ds Q
theorem zrB (hc:X.calm=true):CalO X (.type "list") zl6:=ztB.or (zrA hc)
@[simp] theorem zun:D.tup []=plc []:=rfl
@[simp] theorem zum (l:List Nat):D.tup [.str l]=plc [l]:=rfl
def zct (p:List (List Nat)):List Key:=p.map fun l=>Sum.inr (st l)
theorem zbX (p:List (List Nat)):plc p=.tup ((zct p).map keyD):=by
 unfold plc zct; rw [List.map_map]
 exact congrArg D.tup (List.map_congr_left fun l _=>by
  show D.str l=D.str (st l).cps.toList
  rw [zV])
theorem zfq {p q:List (List Nat)} (h:plc p=plc q):p=q:=by
 unfold plc at h
 injection h with h
 exact (List.map_inj_right (fun a b h=>D.str.inj h)).mp h
@[simp] theorem zv1 (p q:List (List Nat)):plc p=plc q↔p=q:=⟨zfq,fun h=>by rw [h]⟩
@[simp] theorem zss (i j:Int):zh1 (.int i) (.int j) Q↔Q (.int (i+j)):=by simp [zh1,zji]
@[simp] theorem zl8 (l m:List Nat):zh1 (.str l) (.str m) Q↔l.length+m.length<=sizeLine/\Q (.str (l ++ m)):=by simp [zh1,zji]
@[simp] theorem zdV (p q:List (List Nat)):zh1 (plc p) (plc q) Q↔p.length+q.length<=sizeLine/\Q (plc (p ++ q)):=by
 simp [zh1,zji,zg1,zjj,plc]
@[simp] theorem zuS (c:Nat) (l:List Nat):zt3 (.str [c]) (.str l) Q↔Q (.bl (decide (c ∈ l))):=by simp [zt3,zpi,zgZ]
theorem zdG (p:List (List Nat)) (ds:List (D × D)) (h:Q (.bl (!(zbm ds (plc p)).isSome))):zjd (plc p) (.dit ds) Q:=.inr (.inl ⟨zct p,ds,zbX p,rfl,h⟩)
@[simp] theorem zt2 (ds:List D) (i:Int):zeU (.lst ds) (.int i) Q↔∃ d,atI ds i=some d/\Q d:=by simp [zeU,zjh]
@[simp] theorem znS (ds:List D) (i:Int):zeU (.tup ds) (.int i) Q↔∃ d,atI ds i=some d/\Q d:=by simp [zeU,zjh]
@[simp] theorem zt0 (l:List Nat) (i:Int):zeU (.str l) (.int i) Q↔l.length<=sizeLine/\∃ c,atI l i=some c/\Q (.str [c]):=by simp [zeU,zjh]
@[simp] theorem zt1 (p:List (List Nat)) (i:Int):zeU (plc p) (.int i) Q↔∃ d,atI (p.map D.str) i=some d/\Q d:=znS _ i
theorem zj5 (p:List (List Nat)) (ds:List (D × D)) {v:D} (e:zbm ds (plc p)=some v) (h:Q v):zeU (.dit ds) (plc p) Q:=.inr ⟨ds,zct p,v,rfl,zbX p,e,h⟩
@[simp] theorem zuJ (l:List Nat) (n:Int):zl4 (.str l) none (some n) Q↔l.length<=sizeLine/\0<=n/\Q (.str (l.take n.toNat)):=by simp [zl4,zhZ]
@[simp] theorem zsg (l:List Nat) (n:Int):zl4 (.str l) (some n) none Q↔l.length<=sizeLine/\0<=n/\Q (.str (l.drop n.toNat)):=by simp [zl4,zhZ]
@[simp] theorem ztU (ds:List D) (lo hi:Option Int):zl4 (.lst ds) lo hi Q↔Q (.lst (zdt ds lo hi)):=by simp [zl4,zhZ]
@[simp] theorem znQ (ds:List D) (lo hi:Option Int):zl4 (.tup ds) lo hi Q↔Q (.tup (zdt ds lo hi)):=by simp [zl4,zhZ,zl5,zk1,zk2]
theorem ze7 {α β:Type} (f:α->β) (xs:List α) (lo hi:Option Int):zdt (xs.map f) lo hi=(zdt xs lo hi).map f:=by
 unfold zdt; rw [List.length_map,List.map_take,List.map_drop]
@[simp] theorem zj4 (p:List (List Nat)) (lo hi:Option Int):zl4 (plc p) lo hi Q↔Q (plc (zdt p lo hi)):=by
 unfold plc; rw [znQ,ze7]
@[simp] theorem zsi (l:List Nat):zgY [.str l] Q↔l.length<=sizeLine/\Q (.int (l.length:Nat)):=by simp [zgY,zjf]
@[simp] theorem zsk (l:List D):zgY [.lst l] Q↔Q (.int (l.length:Nat)):=by simp [zgY,zjf]
@[simp] theorem zl7 (l:List D):zgY [.tup l] Q↔Q (.int (l.length:Nat)):=by simp [zgY,zjf]
@[simp] theorem zsj (p:List (List Nat)):zgY [plc p] Q↔Q (.int (p.length:Nat)):=by
 unfold plc; rw [zl7,List.length_map]
@[simp] theorem ztP (p:List (List Nat)):zp2 (plc p)=some (p.map .str):=rfl
@[simp] theorem zrG {Q:OD->Prop} (l:List (D × D)):zl6 [.dit l] Q↔Q (.lst (l.map (·.1))):=by simp [zl6,zje,zgX]
theorem zjK {α:Type} (xs:List α) (n:Nat):zdt xs none (some (n:Int))=xs.take n:=by
 unfold zdt; rw [HT.sIx_none,HT.sIx_nat,List.drop_zero,Nat.sub_zero]
 by_cases h:n<=xs.length
 ·rw [Nat.min_eq_left h]
 ·rw [Nat.min_eq_right (by omega),List.take_length,List.take_of_length_le (by omega)]
theorem ziL {α:Type} (xs:List α) (n:Nat):zdt xs (some (n:Int)) none=xs.drop n:=by
 unfold zdt; rw [HT.sIx_none,HT.sIx_nat]
 by_cases h:n<=xs.length
 ·rw [Nat.min_eq_left h,List.take_of_length_le (by rw [List.length_drop]; exact Nat.le_refl _)]
 ·rw [Nat.min_eq_right (by omega),List.drop_length,List.take_nil,List.drop_eq_nil_of_le (by omega)]
theorem zec {α:Type} (xs:List α):zdt xs none (some (-1))=xs.dropLast:=by
 unfold zdt
 have e:HT.sIx xs.length xs.length (some (-1))=xs.length-1:=by
  show (if (-1:Int)<0 then ((-1:Int)+(xs.length:Int)).toNat else min (-1:Int).toNat xs.length)=_
  rw [if_pos (by decide)]
  omega
 rw [HT.sIx_none,e,List.drop_zero,Nat.sub_zero,List.dropLast_eq_take]
theorem zck {i:Int} {j:Nat} {p pos:Pos}:PE' X (.UnaryOp .USub (.Constant (.int i) j p) pos) (tC' (.int (-i))):=by
 refine zjn (v:=.int (-i)) (PE.weak (zuW zrM zmj) ?_) fun _=>.int _
 intro σ H Q q; exact ⟨i,rfl,q⟩
theorem zaE {A:Around} {k:Nat} (hr:Room k A):A.units+100<cLine:=by have:=hr.un; omega
@[simp] theorem zwM {α:Type} (a:α) (l:List α):atI (a :: l) 0=some a:=zcU (j:=0) rfl
@[simp] theorem zwL {α:Type} (a b:α) (l:List α):atI (a :: b :: l) 1=some b:=zcU (j:=1) rfl
@[simp] theorem zwK {α:Type} (a b c:α) (l:List α):atI (a :: b :: c :: l) 2=some c:=zcU (j:=2) rfl
@[simp] theorem zwJ {α:Type} (a b c d:α) (l:List α):atI (a :: b :: c :: d :: l) 3=some d:=zcU (j:=3) rfl
@[simp] theorem zwb {CX:CXT} {P:Program} {w:World} {K:W.Frag} {mg:Str->Option Value} {base:Heap} {N:List Str} {q:Str} {sc:Scope} {f:Addr} {cd:Value} {A:Around} {o:List Env} {s:Shared} {H:Hp} {E:XK}:(zhF CX P w K mg base N q sc f cd A o s H E).K=K:=rfl
@[simp] theorem zwa {CX:CXT} {P:Program} {w:World} {K:W.Frag} {mg:Str->Option Value} {base:Heap} {N:List Str} {q:Str} {sc:Scope} {f:Addr} {cd:Value} {A:Around} {o:List Env} {s:Shared} {H:Hp} {E:XK}:(zhF CX P w K mg base N q sc f cd A o s H E).N=N:=rfl
@[simp] theorem zsm (K:W.Frag) (C c:Addr) (fs:List (Str × D)):zjg K [.obj C fs,.cls c] Q↔InsT K C/\∃ b,W.kitOne K (.ref C) (.ref c)=some b/\Q (.bl b):=by
 constructor
 ·rintro ⟨d,t,cd,v,b,e,h1,h2,h3,q⟩
  injection e with e1 e2
  injection e2 with e2 _
  subst e1 e2
  cases h1
  rcases h2 with ⟨n,_,h2⟩ | ⟨C',fs',e,rfl,T⟩ | ⟨C',fs',e,_,_⟩
  ·cases h2
  ·cases e
   exact ⟨T,b,h3,q⟩
  ·cases e
 ·rintro ⟨T,b,h,q⟩
  exact ⟨_,_,_,_,b,rfl,rfl,.inr (.inl ⟨C,fs,rfl,rfl,T⟩),h,q⟩
theorem zgu (K:W.Frag) {d:D} {n:String} (hk:zq9 d=some n) {cd:D} {c:Value} (hc:zvA cd=some c):zjg K [d,cd] Q↔∃ b,W.kitOne K (.type n) c=some b/\Q (.bl b):=by
 constructor
 ·rintro ⟨d',t,cd',v,b,e,h1,h2,h3,q⟩
  injection e with e1 e2
  injection e2 with e2 _
  subst e1 e2
  rw [hc] at h1; cases h1
  rcases h2 with ⟨m,rfl,h2⟩ | ⟨C',fs',rfl,rfl,T⟩ | ⟨C',fs',rfl,rfl,T⟩
  ·rw [hk] at h2
   cases h2; exact ⟨b,h3,q⟩
  ·cases hk
  ·cases hk
 ·rintro ⟨b,h,q⟩
  exact ⟨d,_,cd,c,b,rfl,hc,.inl ⟨n,rfl,hk⟩,h,q⟩
@[simp] theorem zsn (K:W.Frag) (c:String) :zjg K [.non,.ty c] Q↔∃ b,W.kitOne K (.type "NoneType") (.type c)=some b/\Q (.bl b):=zgu K rfl rfl
@[simp] theorem zsl (K:W.Frag) (c:String) (x:List Nat):zjg K [(.str x),.ty c] Q↔∃ b,W.kitOne K (.type "str") (.type c)=some b/\Q (.bl b):=zgu K rfl rfl
end
end PL
namespace X1
open PySem PySem.W
section
variable {prog:Program} {w:World} {A:Around} {E:Value->Shared->Prop} {s:Shared} {K:Frag} {x C:Addr} {vs:Array Value} {sl:Array (Option Value)} {name:Str} {v:Value}
end
end X1
namespace X1
open PySem PySem.W
section
variable {prog:Program} {w:World} {A:Around} {E:Value->Shared->Prop} {h:Heap} {g:Array GenState} {d:Drawn} {t:Nat} {os:OsState} {C N e:Addr} {bm bmB:List Value} {B nid iid:String} {zdp:List Value} {vs:Array Value} {dd:Option Addr} {sl:Array (Option Value)}
end
end X1
namespace L2
open PySem PySem.Spec PyProof.Rows
section
variable {P:Program} {w:World} {K:W.Frag} {mg:Str->Option Value} {base:Heap} {N:List Str} {qual:Str} {scope:Scope} {f:Addr} {cd:Value} {A:Around} {outer:List Env} {s s':Shared} {H H':Hp} {E:XK} {pins:List (Addr × Obj)} {σ:St} {e C:Addr} {dd:Option Addr}
end
end L2
namespace L2
open PySem PySem.Spec PyProof.Rows
structure FlyI (X:Cx) (pins:List (Addr × Obj)) (H:Hp) (h:Heap) (e C:Addr) (dd:Option Addr):Prop where
 fe:zhD X pins H e
 ex:∃ vs,X1.Ex h e (.ref C) dd vs/\1<vs.size/\X1.Hd h e vs .none (zhD X pins H)
abbrev XS:=St->XK
def XP (X:Cx) (pins:List (Addr × Obj)) (E:XS) (e:Value) (s':Shared):Prop:=∃ ae C dd σ' H',e=.ref ae/\Inv X pins σ' H' s'/\FlyI X pins H' s'.heap ae C dd/\E σ' (.ref C) dd H'
abbrev TEx:=St->Hp->VK->XK->Prop
abbrev TSx:=Ends->XS->St->Hp->Prop
section
variable {X:Cx} {st:Stmt} {zdp:List Stmt} {t u:TSx} {e:Expr} {te:TEx} {pos:Pos}
end
section
variable {P:Program} {w:World} {K:W.Frag} {mg:Str->Option Value} {base:Heap}
end
end L2
namespace L2
open PySem PySem.Spec PyProof.Rows
def del (H:Hp) (a:Addr):Hp:=fun b=>if b=a then none else H b
section
variable {X:Cx}
end
end L2
namespace L2
open PySem PySem.Spec PyProof.Rows
section
variable {X:Cx}
end
end L2
namespace L2
open PySem PySem.Spec PyProof.Rows
section
variable {X:Cx} {pins:List (Addr × Obj)} {σ:St} {H:Hp} {s:Shared}
end
section
variable {X:Cx}
end
end L2
namespace PL
open PySem L2
abbrev XW:=Addr->List (Str × D)->Sts->Prop
abbrev zwP:=Sts->(D->Sts->Prop)->XW->Prop
abbrev zwc:=Ends'->XW->Sts->Prop
section
variable {X:Cx} {pos:Pos} {e:Expr} {te:zwP} {st:Stmt} {zdp:List Stmt} {t u:zwc}
abbrev zvH:=List D->(Res->Prop)->(Addr->List (Str × D)->Prop)->Prop
end
section
variable {X:Cx} {k:Nat} {x:Str} {ps:List Str} {sp:zvH} {p pos:Pos} {e:Expr} {es:List Expr} {t:TA'}
end
section
variable {P:Program} {w:World} {K:W.Frag} {mg:Str->Option Value} {base:Heap}
theorem zgB {N ps:List Str} {vs:List V} {ds:List D} {Hi H:Hp} (hlen:ds.length=ps.length) (hpl:ps.length<=N.length) (sb:Fz Hi H) (dl:zaV K Hi vs ds):Good K N.length ⟨H,Hi,[]⟩ Hi (zcr N ds) (L2.start N vs) H:=by
 have hvl:=zg dl
 refine ⟨?_,sb,fun b o e _=>e,fun b o e=>⟨o,e⟩,fun b o e=>rfl,fun j d e=>?_,fun j o e=>?_,fun j k o o' b e=>?_,fun j d b xs e=>?_⟩
 ·unfold L2.start
  rw [List.length_append,List.length_map,List.length_replicate]; omega
 all_goals
  unfold zcr at e
  by_cases hj:j<ds.length
  ·rw [List.getElem?_append_left (by simpa using hj),List.getElem?_map,List.getElem?_eq_getElem hj] at e
   try cases e
   try
    obtain ⟨v,e1,e2⟩:=zQ dl (List.getElem?_eq_getElem hj); refine ⟨v,?_,e2⟩; unfold L2.start
    rw [List.getElem?_append_left (by rw [List.length_map]; omega),List.getElem?_map,e1]
    rfl
  ·rw [List.getElem?_append_right (by simpa using hj),List.getElem?_replicate] at e
   split at e <;> cases e
end
section
variable {X:Cx} {k:Nat} {x fld:Str} {C:Addr} {ok:V->Hp->Prop} {okD:D->Prop} {p cpos pos:Pos} {e:Expr} {ta:TA'}
end
section
variable {X:Cx} {M:Addr} {x n:Str} {body suite:List Stmt} {b0:Stmt} {tb:zwc} {ts:TS'} {p hpos pos:Pos}
end
end PL
namespace L2
open PySem PySem.Spec PyProof.Rows PySem.Builtin PySem.Builtin.Str
structure XFl (K:W.Frag) (C:Addr):Prop where
 get:X1.XGet K C
 hd:W.hasDictIn K C=true
section
variable {X:Cx}
def zuz (K:W.Frag) (ta:TE) (f:Str):TE:=fun σ H Q=>ta σ H fun x H1=>(∃ a C dx fs v,x=.ref a/\H1 a=some (.ins C dx fs)/\Cls K C/\zai K C f/\fs.lookup f=some v/\Q v H1) \/
 ∃ a C dx fs v,x=.ref a/\H1 a=some (.ext (XAt a C (some dx)))/\H1 dx=some (.xd fs)/\XFl K C/\zai K C f/\fs.lookup f=some v/\Q v H1
theorem zqF {e:Expr} {f:Str} {pos:Pos} {ta:TE} (he:PE X e ta) (hb:attributeBase e f X.env (eval e X.env)=eval e X.env):PE X (.Attribute e f pos) (zuz X.K ta f):=by
 intro pins s σ H Q I h
 refine zrC hb (thn (he pins s σ H _ I h) fun u s1 ⟨x,H1,I1,rx,q⟩=>?_)
 rcases q with ⟨a,C,dx,fs,v,rfl,ea,c,n,l,q⟩ | ⟨a,C,dx,fs,v,rfl,ea,ed,c,n,l,q⟩
 ·obtain rfl:u=Value.ref a:=rx
  exact zln I1 ea c n l fun u' s2 I2 ru=>⟨v,H1,I2,ru,q⟩
 ·obtain rfl:u=Value.ref a:=rx
  obtain ⟨⟨vs,sl,hx⟩,_⟩:=(show zaP X.prog X.w H1 s1.heap a (.ext (XAt a C (some dx))) from I1.hok a _ ea)
  obtain ⟨mA,ns,r⟩:=(show zaP X.prog X.w H1 s1.heap dx (.xd fs) from I1.hok dx _ ed)
  obtain ⟨od,ho,hl⟩:=zin ns
  obtain ⟨w',hw,rw'⟩:=zi0.some_of (v:=v) (o:=mA f) (by rw [<- l]; exact r f)
  have J:W.InstAt s1.heap a ⟨.ref C,some dx,.fields vs,sl⟩ C (some od):=⟨hx,rfl,rfl,ho⟩
  exact X1.xget I1.kIn J c.get (W.findObj_own c.hd n rfl (by rw [hl,hw])) (ziz rw') ⟨v,H1,I1.tok _,rw',q⟩
end
end L2
namespace PL
open PySem L2
section
variable {X:Cx}
def zdj (K:W.Frag) (t:TE') (f:Str):TE':=fun Γ Q=>t Γ fun d Γ1=>(∃ C fs v,d=.obj C fs/\Cls K C/\zai K C f/\fs.lookup f=some v/\Q v Γ1)\/∃ C fs v,d=.exc C fs/\XFl K C/\zai K C f/\fs.lookup f=some v/\Q v Γ1
theorem zA {e:Expr} {t:TE'} {f:Str} {pos:Pos} (he:PE' X e t) (hb:attributeBase e f X.env (eval e X.env)=eval e X.env:=by rfl):PE' X (.Attribute e f pos) (zdj X.K t f):=by
 refine ⟨PE.weak (zqF he.h hb) ?_⟩
 rintro σ H Q ⟨W,Hi,Γ,Q',g,h,fin⟩
 refine ⟨W,Hi,Γ,_,g,h,?_⟩
 rintro x H1 ⟨Hi1,d,Γ1,s1,g1,den1,h1⟩
 rcases h1 with ⟨C,fs,v,rfl,cl,na,lk,q⟩ | ⟨C,fs,v,rfl,cl,na,lk,q⟩
 ·obtain ⟨a,dx,fvs,rfl,ha,df⟩:=den1.objI
  obtain ⟨u,hu,du⟩:=df.look lk; exact .inl ⟨a,C,dx,fvs,u,rfl,g1.sub _ _ ha,cl,na,hu,fin u H1 ⟨Hi1,v,Γ1,s1,g1,du,q⟩⟩
 ·obtain ⟨a,dd,rfl,ha,xd⟩:=den1.excI
  rcases xd with ⟨_,rfl⟩ | ⟨dx,fvs,rfl,hd,df⟩
  ·cases lk
  ·obtain ⟨u,hu,du⟩:=df.look lk
   exact .inr ⟨a,C,dx,fvs,u,rfl,g1.sub _ _ ha,g1.sub _ _ hd,cl,na,hu,fin u H1 ⟨Hi1,v,Γ1,s1,g1,du,q⟩⟩
theorem zl0 {K:W.Frag} {H:Hp} {vs:List V} {ds:List D} (h:zaV K H vs ds):∀ k,zaV K H (List.replicate k vs).flatten (List.replicate k ds).flatten
 | 0=>.nil
 | k+1=>by
  rw [List.replicate_succ,List.replicate_succ,List.flatten_cons,List.flatten_cons]; exact zah h (zl0 h k)
end
end PL
namespace PL
open PySem L2
section
variable {X:Cx} {k:Nat} {x:Str} {ps:List Str} {sp:zvH} {p pos:Pos} {e:Expr} {es:List Expr} {t:TA'}
end
end PL
namespace PL
open PySem L2
theorem zkF {X:Cx} (K:W.Frag) (h:X.K=K):Cal X (.builtin "isinstance") (zjg K):=by
 subst h; exact ztD
end PL
namespace L2
open PySem PySem.Spec PyProof.Rows
section
variable {K:W.Frag} {C M N NM f:Addr} {c cM:Value} {d dM od:Option Addr} {es eM:Array DictEntry} {ep epM:Nat} {sl slM sf:Array (Option Value)}
theorem zhn:W.kitOne K (.ref C) (.ref C)=some true:=by
 unfold W.kitOne
 rw [if_pos (by simp)]
end
end L2
namespace L2
open PySem
end L2
namespace L2
open PySem PySem.Spec PyProof.Rows
section
variable {X:Cx}
end
end L2
namespace PL
open PySem L2
structure Mth (P:Program) (w:World) (K:W.Frag) (mg:Str->Option Value) (base:Heap) (k:Nat) (C:Addr) (m:Str) (ps:List Str) (sp:Sp'):Prop where
 ex:∃ f fd,FnOk P w K mg base CX0 k f fd ps (zlU K sp)/\zbi K fd ps []/\Meth K C m f/\Cls K C
section
variable {X:Cx} {k:Nat} {C:Addr} {m:Str} {ps:List Str} {sp:Sp'} {spx:zvH} {apos pos:Pos} {o e:Expr} {es:List Expr} {to:TE'} {t:TA'}
def zc9 (C:Addr) (m:Str) (sp:Sp') (to:TE') (t:TA'):TE':=fun Γ Q=>to Γ fun d Γ1=>∃ fs,d=.obj C fs/\fs.lookup m=none/\t Γ1 fun ds Γ2=>sp (.obj C fs :: ds) fun r=>Q r.toD Γ2
theorem ziI {K:W.Frag} {H:Hp} {f:Str}:∀ {fs:List (Str × V)} {ds:List (Str × D)},zlB K H fs ds->ds.lookup f=none->fs.lookup f=none
 | _,_,.nil,_=>rfl
 | p :: fs,q :: ds,.cons r t,h=>by
  obtain ⟨p1,p2⟩:=p; obtain ⟨q1,q2⟩:=q; obtain ⟨r1,r2⟩:=r
  dsimp only at r1
  subst r1
  by_cases e:f=q1
  ·have hb:(f == q1)=true:=beq_iff_eq.mpr e
   simp only [List.lookup,hb] at h; cases h
  ·have hb:(f == q1)=false:=beq_eq_false_iff_ne.mpr e
   simp only [List.lookup,hb] at h ⊢; exact ziI t h
theorem zF (h:Mth X.prog X.w X.K X.mg X.base k C m ps sp) (hr:Room k X.A) (ho:PE' X o to) (ha:PA' X (e :: es) t) {pl:Sem Bool}
  (ht:eval (.Call (.Attribute o m apos) (e :: es) [] pos) X.env=(do
   let ov <- eval o X.env
   standAt apos.atName
   let (f,first) <- holding [ov] (getMethod ov m pl)
   callWith pos f first (backTo pos (starEach (e :: es) X.env)) (backToKw pos (keywordEach [] X.env))):=by rfl) :
  PE' X (.Call (.Attribute o m apos) (e :: es) [] pos) (zc9 C m sp to t):=by
 obtain ⟨f,fd,F,b,hm,cl⟩:=h.ex; refine ⟨PE.weak (zqA (E:=E0) (dvs:=[]) ho.h cl hm F hr b .nil zml ha.pa (zK (zM ha.pl).1) (zay (zM ha.pl).2) ht) ?_⟩
 rintro σ H Q ⟨W,Hi,Γ,Q',g,h,fin⟩
 refine ⟨W,Hi,Γ,_,g,h,?_⟩
 rintro x H1 ⟨Hi1,d,Γ1,s1,g1,den1,fs,rfl,lk,q⟩
 obtain ⟨a,dx,fvs,rfl,ha',df⟩:=id den1.objI; refine ⟨a,dx,fvs,rfl,g1.sub _ _ ha',ziI df lk,?_⟩; refine ⟨W,Hi1,Γ1,_,g1,q,?_⟩; intro vs H2 Hi2 Γ2 ds s2 g2 dl q2; rw [List.append_nil]; refine ⟨Hi2,_,_,g2.fz,.cons (den1.mono s2) dl,q2,?_⟩; intro Hi3 H3 v r ex ro q3; have s12:=s1.trans s2
 cases r with
 | val d=>exact fin v H3 ⟨Hi3,d,Γ2,s12.trans ex.hi,g2.ext ex,ro,q3⟩
 | own o =>
  obtain ⟨a,rfl,h1,h2,h3⟩:=ro; have nw:=zeT g2 ex h1 h2 h3; obtain ⟨u,hu⟩:=h3.there; exact fin _ H3 ⟨upd Hi3 a u,_,Γ2,s12.trans (ex.hi.trans (zO h1 u)),(g2.ext ex).freezeA nw.hi nw.h0 nw.ne hu,h3.den h1 hu,q3⟩
 | bk d o =>
  obtain ⟨b',dv,hol,h1,h2,h3⟩:=ro; have nw:=zeT g2 ex h1 h2 h3; obtain ⟨u,hu⟩:=h3.there; exact fin _ H3 ⟨upd Hi3 b' u,_,Γ2,s12.trans (ex.hi.trans (zO h1 u)),(g2.ext ex).freezeA nw.hi nw.h0 nw.ne hu,hol b' _ v o (h3.den h1 hu) (dv.mono (zO h1 u)),q3⟩
abbrev zng:=List D->Sts->(Sts->Prop)->Prop
def zwD (K:W.Frag) (n:Nat) (g:zng):TGs:=fun vs σ H Q2=>∃ W Hi Γ ds Q,Good K n W Hi Γ σ H/\zaV K Hi vs ds/\g ds Γ Q/\∀ σ' H' Hi' Γ',zU Hi Hi'->Good K n W Hi' Γ' σ' H'->Q Γ'->Q2 σ' H'
structure PGs' (X:Cx) (es:List Expr) (g:zng):Prop where
 h:PGs X es (zwD X.K X.N.length g)
theorem PGs.weak {es:List Expr} {t t2:TGs} (h:PGs X es t) (w:∀ vs σ H Q,t2 vs σ H Q->t vs σ H Q):PGs X es t2:=fun pins s σ H vs us Q I r q=>h pins s σ H vs us Q I r (w _ _ _ _ q)
def zeP:zng:=fun ds Γ Q=>ds=[]/\Q Γ
def zb2 (t:TG') (u:zng):zng:=fun ds Γ Q=>∃ d r,ds=d :: r/\t d Γ fun Γ1=>u r Γ1 Q
def zeO (n:Nat) (t:zng):TG':=fun d Γ Q=>∃ ds,d=.tup ds/\ds.length=n/\t ds Γ Q
theorem zoa:PGs' X [] zeP:=by
 refine ⟨PGs.weak zqv ?_⟩
 rintro vs σ H Q ⟨W,Hi,Γ,ds,Q',g,dl,⟨rfl,q⟩,fin⟩
 cases dl; exact ⟨rfl,fin σ H Hi Γ (zU.refl _) g q⟩
theorem zh4 {e:Expr} {es:List Expr} {t:TG'} {u:zng} (h1:PG' X e t) (h2:PGs' X es u) (hs:(assignEach (e :: es) X.env).map (·.2)=assign e X.env :: (assignEach es X.env).map (·.2):=by rfl):PGs' X (e :: es) (zb2 t u):=by
 refine ⟨PGs.weak (zob h1.h h2.h hs) ?_⟩
 rintro vs σ H Q ⟨W,Hi,Γ,ds,Q',g,dl,⟨d,r,rfl,q⟩,fin⟩
 cases dl with
 | cons r0 rr =>
  refine ⟨_,_,rfl,W,Hi,Γ,d,_,g,r0,q,?_⟩; intro σ1 H1 Hi1 Γ1 s1 g1 q1
  exact ⟨W,Hi1,Γ1,r,Q',g1,zaV.mono rr s1,q1,fun σ2 H2 Hi2 Γ2 s2=>fin σ2 H2 Hi2 Γ2 (s1.trans s2)⟩
theorem zqw {es:List Expr} {k n:Nat} {t:zng} (h:PGs' X es t) (hc:X.calm=true:=by rfl) (hn:(assignEach es X.env).length=n:=by rfl) (hst:(assignEach es X.env).findIdx? (·.1)=none:=by rfl):PG' X (.Tuple es k pos) (zeO n t):=by
 refine ⟨PG.weak (zsC hc h.h hn hst) ?_⟩
 rintro v σ H Q ⟨W,Hi,Γ,d,Q',g,den,⟨ds,rfl,hl,q⟩,fin⟩
 obtain ⟨a,vs,rfl,ha,dl⟩:=den.tupI
 exact ⟨a,vs,rfl,zC g.sub ha,by rw [zg dl]; exact hl,W,Hi,Γ,ds,Q',g,dl,q,fin⟩
end
end PL
namespace PL
open PySem L2
section
variable {X:Cx}
def zf4:TS':=fun _ _=>False
theorem zg4 {st:Stmt}:PS' X st zf4:=⟨fun pins s σ H N I q=>by
 obtain ⟨_,_,_,_,_,h,_⟩:=q; exact h.elim⟩
end
section
variable {P:Program} {w:World} {K:W.Frag} {mg:Str->Option Value} {base:Heap}
end
end PL
namespace Mu
open PySem PySem.Builtin
theorem noFill_tup:fillsNumberSlot (.type "tuple") "mul"=pure false :=
 fillsNumberSlot_seq (id:="tuple.__mul__") (r:=some (.builtin "tuple.__rmul__")) PySem.F.slot_tuple_mul.lookup (by decide +kernel) PySem.F.slot_tuple_rmul.lookup (by decide +kernel)
theorem rep_tup:seqRepeat? (.type "tuple")=pure (some (.builtin "tuple.__mul__")):=by
 unfold seqRepeat?
 rw [seqSlot_of (T:="tuple") (name:="__mul__") (id:="tuple.__mul__") PySem.F.slot_tuple_mul.lookup (by decide +kernel),seqSlot_of (T:="tuple") (name:="__rmul__") (id:="tuple.__rmul__") PySem.F.slot_tuple_rmul.lookup (by decide +kernel)]
 rfl
theorem rmul_tup (a:Int) (t:Tok) (l:Addr) (o:Obj) (xs:Array Value) (n:Nat) (hc:o.cls=.type "tuple") (hd:o.data=.seq xs n):Meets (Builtin.«int.__rmul__» ⟨[.int a t,.ref l],[]⟩) (fun _ R s=>s.heap.get? l=some o/\R (.ok (.ret Value.notImplemented)) s) :=
 .of_wp fun prog w A R s h=>by
  obtain ⟨hp,g,d,tk,os⟩:=s; obtain ⟨hl,h⟩:=h; obtain ⟨oc,od,dt,sl⟩:=o
  dsimp only at hc hd
  subst hc hd
  wp_walk
  exact ⟨_,rfl,h⟩
theorem mul_tup (k:Nat) (t:Tok) (l:Addr) (o:Obj) (xs:Array Value) (n:Nat) (hc:o.cls=.type "tuple") (hd:o.data=.seq xs n) (hk:2<=k) (hk2:k<=100) (hz:xs.size * k<=10000) :
  Meets (Builtin.«tuple.__mul__» ⟨[.ref l,.int k t],[]⟩) (fun _ R s=>s.heap.get? l=some o/\(xs.isEmpty=true->R (.ok (.ret (.ref l))) s) /\
   (xs.isEmpty=false->R (.ok (.ret (.ref s.heap.objs.size))) { s with heap:=s.heap.push { cls:=.type "tuple",data:=.seq ((List.replicate k xs).foldl (· ++ ·) #[]) } })) :=
 .of_wp fun prog w A R s h=>by
  obtain ⟨hp,g,d,tk,os⟩:=s; obtain ⟨hl,h1,h2⟩:=h; obtain ⟨oc,od,dt,sl⟩:=o
  dsimp only at hc hd
  subst hc hd
  have e1:(decide ((k:Int)< -(2 ^ 63)) || decide ((k:Int) >= 2 ^ 63))=false:=by
   rw [decide_eq_false (by omega),decide_eq_false (by omega)]
   rfl
  have e2:((k:Int) == 1)=false:=by rw [beq_eq_false_iff_ne]; omega
  have e3:decide ((k:Int)<=0)=false:=decide_eq_false (by omega)
  have e4:¬ ((xs.size:Int) * (k:Int) > (2 ^ 63-1) / 8):=by
   have:((xs.size * k:Nat):Int)<=10000:=by omega
   rw [Int.natCast_mul] at this; omega
  have e5:Builtin.Tuple.tupleTooMany ((xs.size:Int) * (k:Int))=false:=by
   unfold Builtin.Tuple.tupleTooMany
   have:((xs.size * k:Nat):Int)<=10000:=by omega
   rw [Int.natCast_mul] at this
   have b:10000<sizeLine:=by decide
   exact decide_eq_false (by omega)
  wp_walk
  rw [if_neg (by rw [e1]; exact Bool.false_ne_true)]
  wp_walk
  cases he:xs.isEmpty with
  | true =>
   wp_walk
   exact ⟨_,rfl,h1 he⟩
  | false =>
   wp_walk
   rw [if_neg (by rw [e3]; decide)]
   dsimp only
   rw [if_neg e4,if_neg (by rw [e5]; decide),Int.toNat_natCast]
   have hsz:(List.foldl (fun x1 x2=>x1 ++ x2) #[] (List.replicate k xs)).size<=sizeLine:=by
    have e:=L2.foldl_rep xs.toList k []
    have e':List.foldl (fun x1 x2=>x1 ++ x2) #[] (List.replicate k xs)=([] ++ (List.replicate k xs.toList).flatten).toArray:=by simpa using e
    rw [e',List.size_toArray,List.nil_append,L2.len_rep,Array.length_toList,Nat.mul_comm]
    have b:10000<sizeLine:=by decide
    omega
   unfold Builtin.Tuple.tupleExact; exact wpAny_bind (wpAny_newObj_type (wpAny_pure ⟨_,rfl,h2 he⟩) hsz)
end Mu
namespace L2
open PySem PySem.Spec PyProof.Rows
section
variable {X:Cx}
def zuK:R2:=fun x y H Q=>∃ (l:Addr) (k:Nat) (xs:List V),x=.ref l/\y=.int k/\H l=some (.tup xs)/\2<=k/\k<=100/\xs.length * k<=10000/\(xs=[]->Q (.ref l) H)/\(xs≠[]->∀ p,H p=none->Q (.ref p) (upd H p (.tup (List.replicate k xs).flatten)))
theorem zqN:OpR X (binaryOp .Mult) zuK:=by
 intro pins s σ H x y v u Q I rx ry h; obtain ⟨l,k,xs,rfl,rfl,hH,h1,h2,hz,q1,q2⟩:=h; cases rx; obtain ⟨t,rfl⟩:=ry
 obtain ⟨z,its,r,o,ho,hc,n,hd⟩:=(show zaP X.prog X.w H s.heap l (.tup xs) from I.hok l _ hH)
 have hl:=r.length
 refine wpAny_binaryOp_repeat_ref (T:="tuple") (U:="int") (by decide) ⟨_,ho,hc⟩ (fun s'=>typeIs_int s' k t) Mu.noFill_tup PySem.F.fills_int_mul PySem.F.slot_int_rmul Mu.rep_tup PySem.F.slot_int_index.lookup
  (call_meets PySem.F.slot_int_rmul (typeIs_int s k t) PySem.F.entry_int_rmul (PySem.F.args_int_rmul_2 _ _) (Mu.rmul_tup k t l o its.toArray n hc hd) ⟨ho,rfl,⟨_,ho,hc⟩,call_meets PySem.F.slot_tuple_mul ⟨_,ho,hc⟩ PySem.F.entry_tuple_mul (PySem.F.args_tuple_mul_2 _ _) (Mu.mul_tup k t l o its.toArray n hc hd h1 h2 (by rw [List.size_toArray,<- hl]; exact hz)) ⟨ho,fun e=>?_,fun e=>?_⟩⟩)
 ·have:xs=[]:=List.eq_nil_of_length_eq_zero (by rw [hl]; simpa using e)
  exact ⟨.ref l,H,I,rfl,q1 this⟩
 ·have hne:xs≠[]:=fun z=>by
   rw [z] at hl
   have:its=[]:=List.eq_nil_of_length_eq_zero hl.symm
   rw [this] at e
   simp at e
  have e':List.foldl (fun x1 x2=>x1 ++ x2) #[] (List.replicate k its.toArray)=(List.replicate k its).flatten.toArray:=by
   have:=foldl_rep its k []
   rw [List.nil_append] at this; exact this
  rw [e']
  have hlen:(List.replicate k xs).flatten.length<=sizeLine:=by
   rw [len_rep,Nat.mul_comm]
   have b:10000<sizeLine:=by decide
   omega
  refine ⟨.ref _,upd H s.heap.objs.size (.tup (List.replicate k xs).flatten),I.laid (t':=s.toks) (fun _ _ q=>Heap.get?_push_of_some _ q) (Nat.le_refl _) ⟨hlen,(List.replicate k its).flatten,r.rep k,⟨_,Heap.get?_push_size _ rfl,rfl,_,rfl⟩⟩,rfl,q2 hne _ I.fresh⟩
end
end L2
namespace PL
open PySem L2
section
variable {X:Cx}
def zh0:R2':=fun x y Q=>∃ (ds:List D) (k:Nat),x=.tup ds/\y=.int k/\2<=k/\k<=100/\ds.length * k<=10000/\Q (.tup (List.replicate k ds).flatten)
theorem zs0:Op2 X (binaryOp .Mult) zh0:=⟨_,zqN,by
 rintro Hi H x y dx dy Q Q2 s d1 d2 ⟨ds,k,rfl,rfl,h1,h2,h3,q⟩ fin
 obtain ⟨a,vs,rfl,ha,dl⟩:=d1.tupJ; have hl:=zg dl
 refine ⟨a,k,vs,rfl,d2.intI,s.sub _ _ ha,h1,h2,by rw [hl]; exact h3,fun e=>?_,fun _ p hp=>?_⟩
 ·have:ds=[]:=List.eq_nil_of_length_eq_zero (by rw [<- hl,e]; rfl)
  subst this; refine fin Hi H _ (.tup []) (Ext.refl s) d1 ?_
  simpa using q
 ·have e:=Ext.new s hp (.tup (List.replicate k vs).flatten)
  exact fin _ _ _ _ e (Den.mkT zj (zl0 (dl.mono e.hi) k)) q⟩
instance:MR2 zh0:=⟨fun _ _ _ _ h ⟨ds,k,a,b,c,d,e,q⟩=>⟨ds,k,a,b,c,d,e,h _ q⟩⟩
end
end PL
namespace PL
open PySem L2
section
variable {X:Cx} {Q:D->Prop}
def znR:R2':=fun x y Q=>rI' zpa (fun i j=>.int (i * j)) x y Q\/zh0 x y Q
theorem zkg:Op2 X (binaryOp .Mult) znR:=zu7.or zs0
instance:MR2 znR:=⟨fun _ _ _ _ h q=>q.imp (MR2.mono (r:=rI' zpa fun i j=>.int (i * j)) _ _ _ _ h) (MR2.mono (r:=zh0) _ _ _ _ h)⟩
@[simp] theorem zsh (i j:Int):znR (.int i) (.int j) Q↔zpa i j/\Q (.int (i * j)):=by simp [znR,zh0]
end
end PL
namespace PL
open PySem L2
section
variable {X:Cx} {Q:D->Prop}
def zsp:RC':=fun ds Q=>∃ b:Bool,ds=[.bl b]/\Q (.int (if b then 1 else 0))
theorem ztE:Cal X (.type "int") zsp:=⟨_,znc,by
 rintro Hi H vs ds Q Q2 s dl ⟨b,rfl,q⟩ fin
 obtain ⟨v,rfl,den⟩:=zeb dl
 exact .inr ⟨b,by rw [den.blI],fin Hi H _ _ (Ext.refl s) (.int _) q⟩⟩
def zsq:RC':=fun ds Q=>zso ds Q\/zsp ds Q
theorem zpL:Cal X (.type "int") zsq:=zvC.or ztE
end
end PL
namespace Zp
open PySem
structure Src (prog:Program) (w:World) (it:Addr) (xs:List Value) (fp:List Addr) (nx:Nat->Heap->Prop):Prop where
 mem:it ∈ fp
 fr:∀ i h h',nx i h->(∀ c ∈ fp,∀ o,h.get? c=some o->h'.get? c=some o)->nx i h'
 at_:∀ i h,nx i h->∃ o,h.get? it=some o/\∀ v,o.data≠.cell v
 item:∀ (A:Around) (s:Shared) (i:Nat) (x:Value) (Q:Value->Shared->Prop) (E:Value->Shared->Prop),nx i s.heap->xs[i]?=some x->(∀ h',nx (i+1) h'->Heap.SameBut it s.heap h'->Q x { s with heap:=h' })->wpAny (model prog w) A (Builtin.SmallTypes.nextOf (.ref it)) Q E s
 stop:∀ (A:Around) (s:Shared) (i:Nat) (Q:Value->Shared->Prop) (E:Value->Shared->Prop),A.handled=none->nx i s.heap->xs[i]?=none ->
  (∀ h' e,Heap.ExtBut it s.heap h'->(∃ o,h'.get? e=some o/\o.cls=.type "StopIteration")->E (.ref e) { s with heap:=h' })->wpAny (model prog w) A (Builtin.SmallTypes.nextOf (.ref it)) Q E s
theorem znM {a:Addr} {h h':Heap} (x:Heap.SameBut a h h'):∀ c o,c≠a->h.get? c=some o->h'.get? c=some o:=fun c o n e=>x.extBut _ _ n e
theorem zhM {prog:Program} {w:World} {it l:Addr} {xs:List Value} (ne:l≠it):Src prog w it xs [it,l] (fun i h=>h.IsTupleIter it l i/\h.IsTuple l xs.toArray) where
 mem:=by simp
 fr:=fun i h h' ⟨a,⟨ol,e,r⟩⟩ k=>⟨a.at fun o e=>k it (by simp) o e,⟨ol,k l (by simp) ol e,r⟩⟩
 at_:=fun i h ⟨⟨o,e,_,d⟩,_⟩=>⟨o,e,fun v z=>by rw [d] at z; cases z⟩
 item:=by
  intro A s i x Q E ⟨a,b⟩ hx q
  obtain ⟨oi,gi,ci,di⟩:=id a; obtain ⟨ot,gt,ct,nt,dt⟩:=id b; unfold Builtin.SmallTypes.nextOf; refine wpAny_bind (wpAny_callSpecial?_slot (name:=Str.ofString "__next__") a.typeIs PySem.F.slot_tuple_iterator_next (wpAny_call_entry PySem.F.slot_tuple_iterator_next a.typeIs PySem.F.entry_tuple_iterator_next ?_ (PySem.F.args_tuple_iterator_next_1 _)))
  show wpAny _ _ (field (.ref it) 0 >>= _) _ _ _
  refine wpAny_bind (wpAny_field gi di (x:=.ref l) rfl ?_)
  show wpAny _ _ (if (Value.ref l == Value.none)=true then _ else _) _ _ _
  rw [if_neg (by simp)]
  show wpAny _ _ (field (.ref it) 1 >>= _) _ _ _
  refine wpAny_bind (wpAny_field gi di (x:=.int i 0) rfl ?_)
  show wpAny _ _ (seqItems? (.ref l) >>= _) _ _ _
  refine wpAny_bind (wpAny_seqItems gt dt ?_)
  have hx':xs.toArray[i]?=some x:=by simpa using hx
  simp only [Int.toNat_natCast,hx']
  refine wpAny_bind (wpAny_setField gi di (by simp) (wpAny_pure ⟨x,rfl,wpAny_pure (q _ ⟨⟨_,Heap.get?_update_self _ gi (Obj.isFreed_of_fields (Obj.data_mapFields di _)),(Obj.cls_mapFields ..).trans ci,by rw [Obj.data_mapFields di]; simp [rawInt]⟩,?_⟩ (Heap.SameBut.update ..))⟩))
  exact ⟨ot,(Heap.get?_update_other _ _ (Ne.symm ne)).trans gt,ct,nt,dt⟩
 stop:=by
  intro A s i Q E hh ⟨a,b⟩ hx q
  obtain ⟨oi,gi,ci,di⟩:=id a; obtain ⟨ot,gt,ct,nt,dt⟩:=id b; unfold Builtin.SmallTypes.nextOf; refine wpAny_bind (wpAny_callSpecial?_slot (name:=Str.ofString "__next__") a.typeIs PySem.F.slot_tuple_iterator_next (wpAny_call_entry PySem.F.slot_tuple_iterator_next a.typeIs PySem.F.entry_tuple_iterator_next ?_ (PySem.F.args_tuple_iterator_next_1 _)))
  show wpAny _ _ (field (.ref it) 0 >>= _) _ _ _
  refine wpAny_bind (wpAny_field gi di (x:=.ref l) rfl ?_)
  show wpAny _ _ (if (Value.ref l == Value.none)=true then _ else _) _ _ _
  rw [if_neg (by simp)]
  show wpAny _ _ (field (.ref it) 1 >>= _) _ _ _
  refine wpAny_bind (wpAny_field gi di (x:=.int i 0) rfl ?_)
  show wpAny _ _ (seqItems? (.ref l) >>= _) _ _ _
  refine wpAny_bind (wpAny_seqItems gt dt ?_)
  have hx':xs.toArray[i]?=none:=by simpa using hx
  simp only [Int.toNat_natCast,hx']
  refine wpAny_bind (wpAny_rule (wpAny_bind (wpAny_setField gi di (by simp) ?_)))
  show wpAny _ _ (newExc (.type "StopIteration") [] >>= _) _ _ _
  refine wpAny_bind ?_; simp only [newExc,newTuple]
  refine wpAny_bind (wpAny_newObj_type ?_ (by size_fits))
  refine wpAny_bind (m:=firstArgMember _ _) (wpAny_of_eq (a:=Value.none) (by first | rfl | (simp only [firstArgMember]; rfl)) ?_)
  refine wpAny_newObj_type ?_ (by size_fits)
  simp only [raiseNew]; refine wpAny_bind (wpAny_handled ?_)
  first | rw [show A.in1.handled=none from hh] | rw [hh]
  exact wpAny_bind (wpAny_pure (wpAny_throw (q _ _ (((Heap.SameBut.update ..).extBut.push _).push _) ⟨_,Heap.get?_push_size _ rfl,rfl⟩)))
structure Apart (z TI TO i1 i2:Addr) (f1 f2:List Addr):Prop where
 z1:z ∉ f1
 z2:z ∉ f2
 o1:TO ∉ f1
 o2:TO ∉ f2
 i21:i2 ∉ f1
 i12:i1 ∉ f2
 iz:TI≠z
 oz:TO≠z
 io:TI≠TO
 ii1:TI≠i1
 ii2:TI≠i2
section
variable {prog:Program} {w:World} {A:Around} {E:Value->Shared->Prop} {s:Shared} {z TI TO i1 i2:Addr} {f1 f2:List Addr} {n1 n2:Nat->Heap->Prop} {xs ys:List Value} {k:Nat} {a b x y:Value}
end
end Zp
namespace Zp
open PySem
section
variable {prog:Program} {w:World} {A:Around} {E:Value->Shared->Prop} {s:Shared}
end
end Zp
namespace L2
open PySem PySem.Spec PyProof.Rows
section
variable {X:Cx} {pins:List (Addr × Obj)} {σ:St} {H:Hp} {s:Shared} {h':Heap}
theorem Inv.turnedNew {t':Nat} {ch:List Addr} {p:Addr} {o:HO} (I:Inv X pins σ H s) (hch:∀ b ∈ ch,zhD X pins H b) (k:∀ b u,b ∉ ch->s.heap.get? b=some u->h'.get? b=some u) (hp:s.heap.objs.size<=p) (new:zaP X.prog X.w (upd H p o) h' p o) :
  Inv X pins σ (upd H p o) { s with heap:=h',toks:=t' }:=by
 have fr:H p=none:=I.hok.fresh hp
 have sm:∀ b u,H b=some u->upd H p o b=some u:=fun b u e=>by rw [zq (zI e fr)]; exact e
 have nch:∀ b u,H b=some u->b ∉ ch:=fun b u e z=>by rw [(hch b z).1] at e; cases e
 refine I.step (g':=s.gens) (d':=s.drawn) (ch:=ch) (fun b hb=>?_) (fun b u _ _ hc e _=>k b u hc e) (fun b u _ _ hc e _=>⟨u.slots,k b u hc e⟩) (fun b u hc e n=>?_) (fun b u hc e=>⟨u,k b u hc e⟩) (fun b xs e=>sm _ _ e) (fun b ob u e=>sm _ _ e) (fun b ps e=>⟨#[],by rw [sm _ _ e]; simp⟩) (fun m hm=>?_) (fun b u e=>?_) I.bare
 ·obtain ⟨_,y1,_,y3,y4,y5⟩:=hch b hb
  exact ⟨y3,y1,y4,y5⟩
 ·rw [zq (Nat.ne_of_lt (Nat.lt_of_lt_of_le (Heap.lt_size e) hp))]
  exact n
 ·obtain ⟨ob,es,ep,ho,r⟩:=hm
  exact ⟨ob,es,ep,k _ ob (fun z=>(hch _ z).2.1 rfl) ho,r⟩
 ·by_cases z:b=p
  ·subst z
   rw [zj] at e; cases e; exact new
  ·rw [zq z] at e
   refine (I.hok b u e).stay (fun c v hc q=>k c v ?_ q) (fun c q=>sm _ _ q) fun c xs q=>sm _ _ q
   rcases hc with rfl | hc
   ·exact nch _ u e
   ·exact nch c _ hc
theorem Inv.turnedL {t':Nat} {ch:List Addr} (I:Inv X pins σ H s) (hch:∀ b ∈ ch,zhD X pins H b) (k:∀ b u,b ∉ ch->s.heap.get? b=some u->h'.get? b=some u):Inv X pins σ H { s with heap:=h',toks:=t' }:=by
 have nch:∀ b u,H b=some u->b ∉ ch:=fun b u e z=>by rw [(hch b z).1] at e; cases e
 refine I.step (g':=s.gens) (d':=s.drawn) (ch:=ch) (fun b hb=>?_) (fun b u _ _ hc e _=>k b u hc e) (fun b u _ _ hc e _=>⟨u.slots,k b u hc e⟩) (fun b u hc e n=>n) (fun b u hc e=>⟨u,k b u hc e⟩) (fun b xs e=>e) (fun b ob u e=>e) (fun b ps e=>⟨#[],by rw [e]; simp⟩) (fun m hm=>?_) (fun b u e=>?_) I.bare
 ·obtain ⟨_,y1,_,y3,y4,y5⟩:=hch b hb
  exact ⟨y3,y1,y4,y5⟩
 ·obtain ⟨ob,es,ep,ho,r⟩:=hm
  exact ⟨ob,es,ep,k _ ob (fun z=>(hch _ z).2.1 rfl) ho,r⟩
 ·refine (I.hok b u e).stay (fun c v hc q=>k c v ?_ q) (fun c q=>q) fun c xs q=>q
  rcases hc with rfl | hc
  ·exact nch _ u e
  ·exact nch c _ hc
end
end L2
namespace L2
open PySem PySem.Spec PyProof.Rows Zp
def SqB (lb:Bool) (K:W.Frag) (H:Hp) (a:Addr) (xs:List V):Prop:=match lb with | true=>SqL K H a xs | false=>SqT K H a xs
section
variable {X:Cx} {pins:List (Addr × Obj)} {σ:St} {H:Hp} {s:Shared} {a b:Addr} {xs ys:List V} {lb:Bool}
theorem zl1 {u:HO} (h:Rd H a u):∃ o,H a=some o:=by
 rcases h with h | ⟨o,h⟩
 ·exact ⟨_,h⟩
 ·exact ⟨_,h⟩
theorem zne (I:Inv X pins σ H s) {o:Obj} (e:X.K.lookup a=some o) (f:zhD X pins H b):a≠b:=by
 have g:=I.ok.mod.kin _ _ e; obtain ⟨_,_,_,f3,_⟩:=f
 rintro rfl
 rcases f3 with z | z
 ·exact I.ok.noex _ _ g z
 ·exact absurd (Nat.lt_of_lt_of_le (Heap.lt_size g) (Nat.le_trans I.ok.bsz z)) (Nat.lt_irrefl _)
theorem zr5 (I:Inv X pins σ H s) (h:SqB lb X.K H a xs) (f:zhD X pins H b):a≠b:=by
 have tr:∀ o,H a=some o->a≠b:=fun o e z=>by rw [z,f.1] at e; cases e
 cases lb with
 | true =>
  rcases h with h | ⟨o,its,n,hk,_⟩
  ·obtain ⟨o,e⟩:=zl1 h; exact tr o e
  ·exact zne I hk f
 | false =>
  rcases h with h | ⟨o,its,n,hk,_⟩
  ·obtain ⟨o,e⟩:=zl1 h; exact tr o e
  ·exact zne I hk f
theorem zr6 (I:Inv X pins σ H s) (h:SqB lb X.K H a xs) (h':SqB lb X.K H a ys):ys=xs:=by
 cases lb with
 | true=>exact I.list_inj h' h
 | false=>exact I.tuple_inj h' h
end
end L2
namespace L2
open PySem PySem.Spec PyProof.Rows Zp
theorem zs7 {a b:Nat} (h:a≠b):(a:Addr)≠(b:Addr):=h
section
variable {X:Cx}
end
end L2
namespace PL
open PySem L2
section
variable {X:Cx}
end
end PL
namespace Lb
def Dig (c:Nat):Prop:=48<=c/\c<=57
def Sml (c:Nat):Prop:=97<=c/\c<=122
def zs9:List Nat:=[97,98,99,100,101,102,103,104,105,106,107,108,109,110,111,112,113,114,115,116,117,118,119,120,121,122]
def zuc:List Nat:=[48,49,50,51,52,53,54,55,56,57]
theorem zov (c:Nat):c ∈ zs9↔Sml c:=by
 show c ∈ List.range' 97 26↔_
 rw [List.mem_range'_1]; unfold Sml; omega
theorem ze0 (c:Nat):c ∈ zuc↔Dig c:=by
 show c ∈ List.range' 48 10↔_
 rw [List.mem_range'_1]; unfold Dig; omega
theorem zdb {p:Nat->Bool}:∀ (ls ds:List Nat),(∀ c ∈ ls,p c=true)->(∀ c ∈ ds,p c=false)->(ls ++ ds).takeWhile p=ls
 | [],[],_,_=>rfl
 | [],d :: ds,_,h=>by rw [List.nil_append,List.takeWhile_cons,h d (List.mem_cons_self ..)]; rfl
 | l :: ls,ds,h1,h2=>by
  rw [List.cons_append,List.takeWhile_cons,h1 l (List.mem_cons_self ..),if_pos rfl,zdb ls ds (fun c hc=>h1 c (List.mem_cons_of_mem _ hc)) h2]
theorem zkS {p:Nat->Bool} {ds ls:List Nat} (h1:∀ c ∈ ls,p c=true) (h2:∀ c ∈ ds,p c=false):(((ds ++ ls).reverse).takeWhile p).length=ls.length:=by
 rw [List.reverse_append,zdb _ _ (fun c hc=>h1 c (List.mem_reverse.mp hc)) (fun c hc=>h2 c (List.mem_reverse.mp hc)),List.length_reverse]
end Lb
namespace Lb
def dig (c:Nat):Bool:=decide (c ∈ zuc)
def sml (c:Nat):Bool:=decide (c ∈ zs9)
def wsg:List Nat:=zs9 ++ zuc
def cut (l:List Nat):List Nat:=(l.reverse.dropWhile sml).reverse
def zdw (l:List Nat):List Nat:=(l.reverse.takeWhile sml).reverse
theorem zfX (l:List Nat):cut l ++ zdw l=l:=by
 unfold cut zdw; rw [<- List.reverse_append,List.takeWhile_append_dropWhile,List.reverse_reverse]
theorem zdc {p:Nat->Bool}:∀ l:List Nat,∀ c ∈ l.takeWhile p,p c=true
 | [],c,h=>by simp at h
 | a :: r,c,h=>by
  rw [List.takeWhile_cons] at h; split at h
  ·rename_i ha
   rcases List.mem_cons.mp h with e | e
   ·rw [e]; exact ha
   ·exact zdc r c e
  ·simp at h
theorem znC (l:List Nat):∀ c ∈ zdw l,sml c=true:=fun c hc=>zdc _ c (List.mem_reverse.mp hc)
theorem zdK {c:Nat} (h:dig c=true):sml c=false:=by
 have a:=(ze0 c).mp (of_decide_eq_true h)
 refine decide_eq_false fun z=>?_
 have b:=(zov c).mp z; unfold Dig at a; unfold Sml at b; omega
theorem zpJ {ds ls:List Nat} (h1:∀ c ∈ ls,sml c=true) (h2:∀ c ∈ ds,sml c=false):cut (ds ++ ls)=ds:=by
 have e:=zkS h1 h2; have a:=zfX (ds ++ ls)
 have hl:(zdw (ds ++ ls)).length=ls.length:=by
  unfold zdw; rw [List.length_reverse]; exact e
 have hl2:(cut (ds ++ ls)).length=ds.length:=by
  have:=congrArg List.length a
  rw [List.length_append,List.length_append] at this; omega
 exact (List.append_inj a hl2).1
def zy (l:List Nat):Bool:=decide (1<=(cut l).length/\(cut l).length<=9) && decide ((cut l)[0]?≠some 48) && (cut l).all dig && decide (l.length-(cut l).length<=3)
end Lb
namespace M11
open PySem L2 Lb PL
theorem ziC:∀ (m:Nat),1<=m->∃ c r,Nat.toDigits 10 m=c :: r/\c.toNat≠48
 | m,h=>by
  by_cases hm:m<10
  ·refine ⟨_,[],Nat.toDigits_of_lt_base hm,?_⟩
   have:∀ k:Fin 10,k.1≠0->(Nat.digitChar k.1).toNat≠48:=by decide
   exact this ⟨m,hm⟩ (Nat.pos_iff_ne_zero.mp h)
  ·obtain ⟨c,r,e,hc⟩:=ziC (m / 10) (by omega)
   exact ⟨c,r ++ [(m % 10).digitChar],by rw [Nat.toDigits_of_base_le (by decide) (by omega),e]; rfl,hc⟩
termination_by m=>m
decreasing_by omega
theorem num_lab {n:Int} (h0:1<=n) (h1:n<10 ^ 9):(∀ c ∈ zfB n,dig c=true)/\1<=(zfB n).length/\(zfB n).length<=9/\(zfB n)[0]?≠some 48:=by
 have hl:=PyProof.Rows.toString_length_le (v:=n) (by omega) (k:=9) (by decide) h1
 obtain ⟨m,rfl⟩:=Int.eq_ofNat_of_zero_le (show 0<=n by omega)
 have hs:=W.KIN.signs_num m
 obtain ⟨c,r,e,hc⟩:=ziC m (by omega)
 unfold zfB
 refine ⟨fun c hc=>?_,?_,?_,?_⟩
 ·rw [hs] at hc
  obtain ⟨d,hd,rfl⟩:=List.mem_map.mp hc
  have hdig:=Nat.isDigit_of_mem_toDigits (by decide) (by decide) hd
  simp only [Char.isDigit,Bool.and_eq_true,decide_eq_true_eq] at hdig; exact decide_eq_true ((ze0 _).mpr ⟨hdig.1,hdig.2⟩)
 ·rw [hs,e]
  simp
 ·rw [show (Str.ofString (toString (m:Int))).cps.toList.length=(Str.ofString (toString (m:Int))).length by simp [Str.length]]
  exact hl
 ·rw [hs,e]
  simpa using hc
theorem lab_of {ds ls:List Nat} (h1:∀ c ∈ ds,dig c=true) (h2:1<=ds.length) (h3:ds.length<=9) (h4:ds[0]?≠some 48) (h5:∀ c ∈ ls,sml c=true) (h6:ls.length<=3):zy (ds ++ ls)=true:=by
 have e:cut (ds ++ ls)=ds:=zpJ h5 fun c hc=>zdK (h1 c hc)
 unfold zy; rw [e]
 have ha:ds.all dig=true:=List.all_eq_true.mpr h1
 rw [ha,decide_eq_true (⟨h2,h3⟩:1<=ds.length/\ds.length<=9),decide_eq_true h4,decide_eq_true (show (ds ++ ls).length-ds.length<=3 by rw [List.length_append]; omega)]
 rfl
end M11
namespace MT
open PySem L2 PL
abbrev Pl:=List (List Nat)
inductive Tr where
 | node (l:List Nat) (ws:Pl) (ks:List Tr)
def Tr.lab:Tr->List Nat
 | .node l _ _=>l
def Tr.wds:Tr->Pl
 | .node _ ws _=>ws
def Tr.kds:Tr->List Tr
 | .node _ _ ks=>ks
mutual
def trD:Tr->D
 | .node l ws ks=>.tup [.str l,plc ws,.tup (zrP ks)]
def zrP:List Tr->List D
 | []=>[]
 | t :: r=>trD t :: zrP r
end
theorem zjT:∀ ks:List Tr,zrP ks=ks.map trD
 | []=>by simp [zrP]
 | t :: r=>by simp [zrP,zjT r]
theorem zaj (t:Tr):trD t=.tup [.str t.lab,plc t.wds,.tup (t.kds.map trD)]:=by
 cases t with
 | node l ws ks=>simp [trD,zjT,Tr.lab,Tr.wds,Tr.kds]
def zi (l:List Nat) (ks:List Tr):Option Tr:=ks.find? fun k=>decide (k.lab=l)
def zf0:Option Tr->D
 | none=>.non
 | some t=>trD t
def zp:Tr->Pl->Option Tr
 | t,[]=>some t
 | t,l :: p=>match zi l t.kds with
  | none=>none
  | some k=>zp k p
def zrJ (above made:Tr):Tr:=.node above.lab above.wds (above.kds.map fun k=>if k.lab=made.lab then made else k)
def za6:Tr->Pl->Tr->Tr
 | _,[],n=>n
 | t,l :: p,n=>match zi l t.kds with
  | none=>n
  | some k=>zrJ t (za6 k p n)
theorem zaX (t:Tr):trD t≠.non:=by rw [zaj]; simp
inductive Dp:Nat->Tr->Prop where
 | mk {n:Nat} {l:List Nat} {ws:Pl} {ks:List Tr} (h:∀ k ∈ ks,Dp n k):Dp (n+1) (.node l ws ks)
def zbj (ws old:Pl):List Nat:=(List.range (ws.length+1-old.length)).filter fun b=>decide ((ws.drop b).take old.length=old)
theorem zdI:∀ (p:Pl) (t:Tr) (l:List Nat),zp t (p ++ [l])=match zp t p with
  | none=>none
  | some k=>zi l k.kds
 | [],t,l=>by
  simp only [List.nil_append,zp]
  cases zi l t.kds <;> rfl
 | m :: p,t,l=>by
  simp only [List.cons_append,zp]
  cases zi m t.kds with
  | none=>rfl
  | some k=>exact zdI p k l
theorem zjw {t:Tr} {p:Pl} (h:(zp t p).isSome=true):∀ i,(zp t (p.take i)).isSome=true:=by
 intro i
 have e:p=p.take i ++ p.drop i:=(List.take_append_drop i p).symm
 generalize p.drop i=r at e; generalize hq:p.take i=a at e
 clear hq
 subst e
 induction r generalizing a with
 | nil=>simpa using h
 | cons l r ih =>
  have h':(zp t ((a ++ [l]) ++ r)).isSome=true:=by simpa using h
  have:=ih (a ++ [l]) h'
  rw [zdI] at this
  cases hn:zp t a with
  | none=>rw [hn] at this; exact this
  | some k=>rfl
end MT
namespace L2
open PySem PySem.Spec PyProof.Rows
def PU (X:Cx) (e:Expr) (t:TE):Prop:=∀ (pins:List (Addr × Obj)) (s:Shared) (σ:St) (H:Hp) (Q:VK) (i:Nat) (x:Str) (pos pos':Pos) (D:Ends),Inv X pins σ H s->t σ H Q->X.N.Nodup->X.N[i]?=some x->X.env.scope.names.lookup x=some .local ->
 swapsWith e (some (.Name x pos')) pos.line X.env=pure true->(∀ v H',Q v H'->D.nx (σ.set i (some v)) H')->wpAny (model X.prog X.w) X.A (exec (.Assign [.Name x pos'] e pos) X.env) (SP X pins D) X.xe s
theorem PU.weak {X:Cx} {e:Expr} {t t2:TE} (h:PU X e t) (w:∀ σ H Q,t2 σ H Q->t σ H Q):PU X e t2:=fun pins s σ H Q i x pos pos' D I q=>h pins s σ H Q i x pos pos' D I (w _ _ _ q)
theorem zqg {X:Cx} {elt tg iter:Expr} {ifs:List Expr} {sc fsc:Scope} {pos:Pos} {wi:TI} {g:TG} {tc:TT} {te:TE} {N N':List Str} {src:List (Option Nat)} (B:Blk N N' src fsc sc) (hi:PI X tg iter wi)
  (hg:∀ cl C s H fp pn,PG (blk X N' sc cl C s H fp pn) tg g) (ht:∀ cl C s H fp pn,PTs (blk X N' sc cl C s H fp pn) ifs tc) (he:∀ cl C s H fp pn,PE (blk X N' sc cl C s H fp pn) elt te)
  (hx:X.xe=(fun _ _=>False):=by rfl) (hc:X.calm=true:=by rfl) (hN:X.N=N:=by rfl) (hs:X.env.scope=fsc:=by rfl)
  (hf:∀ x,foldedSetIterable iter X.env x=pure x:=by intro _; rfl):PU X (.ListComp elt [⟨tg,iter,ifs,0⟩] sc pos) (zrZ wi src g tc te):=by
 intro pins s σ H Q i0 x0 p0 p1 D0 I h hNd hi0 hx0 hsw fin; rw [exec_Assign_Name_used _ _ _ _ hsw]; refine wpAny_bind (wpAny_standAt (wpAny_bind ?_))
 show wpAny _ _ (do let _ <- comprehension (.ListComp elt [⟨tg,iter,ifs,0⟩] sc pos) sc X.env _ (newList []) false (eval iter X.env) (some (assign (.Name x0 p1) X.env))) _ _ _
 have hfr:∀ y ∈ sc.names,y.2=.free->∃ c,X.env.cells.lookup y.1=some c:=fun y hy e=>I.ok.has y.1 (.inl (by have:=B.free y hy e; rw [<- hs] at this; exact this))
 refine wpAny_bind (wpAny_mono (wpAny_comprehension_free (use:=some (assign (.Name x0 p1) X.env)) (Q:=fun _ s'=>SP X pins D0 .next s') (cl:=zdv X.env.cells sc.names []) rfl hf (zgE hfr) B.kind B.names ?_) (fun _ s' hq=>wpAny_pure (wpAny_pure hq)) fun _ _ e=>e)
 refine thn (hi pins s σ H _ I h) fun v s1 h1=>thn h1 fun itv s2 h2=>?_
 obtain ⟨it,fp,tn,J,H2,e,I2,T,st2,f2,q⟩:=h2; subst e
 obtain ⟨W,⟨m0,w0⟩,turn⟩:=q s2.heap.objs.size (I2.hok.fresh (Nat.le_refl _))
 refine wpAny_newObj_type (wpAny_newFunctionEnv B.cell (by intro y hy; simp at hy) (fun h1 hns hsb=>?_) B.kind)
 dsimp only at hns hsb ⊢
 have I3:Inv X pins σ (upd H2 s2.heap.objs.size (.lst [])) { s2 with heap:=s2.heap.push { cls:=.type "list",dict:=none,data:=.seq ([]:List Value).toArray } } :=
  I2.laid (t':=s2.toks) (fun b o e=>Heap.get?_push_of_some _ e) (Nat.le_refl _) ⟨Nat.zero_le _,[],0,.nil,Heap.get?_push_size _ rfl⟩
 have fb:∀ b ∈ fp,b<s2.heap.objs.size:=fun b hb=>by
  obtain ⟨o,e,_⟩:=T.obj 0 _ st2 b hb; exact Heap.lt_size e
 have f3:∀ b ∈ fp,zhD X pins (upd H2 s2.heap.objs.size (.lst [])) b:=fun b hb=>by
  refine ⟨?_,(f2 b hb).2⟩; rw [zq (Nat.ne_of_lt (fb b hb))]; exact (f2 b hb).1
 generalize hh3:s2.heap.push { cls:=.type "list",dict:=none,data:=.seq ([]:List Value).toArray }=h3 at hns hsb I3 ⊢
 have z3:s2.heap.objs.size<h3.objs.size:=by rw [<- hh3,Heap.size_push]; exact Nat.lt_succ_self _
 have k3:∀ b o,h3.get? b=some o->h1.get? b=some o:=fun b o e=>hsb.extBut b o (Nat.ne_of_lt (Heap.lt_size e)) (Heap.get?_push_of_some _ e)
 have I4:=zpM (tk:=s2.toks+([]:List (Str × Value)).length) I3 B hN hs f3 (fun b hb=>Nat.lt_trans (fb b hb) z3) hns k3
 have st4:tn 0 h1:=T.keep 0 _ _ st2 fun b hb o e=>k3 b o (by rw [<- hh3]; exact Heap.get?_push_of_some _ e)
 have fok:∀ {H':Hp},(∀ b ∈ fp,H' b=none)->∀ b ∈ fp,zhD (blk X N' sc (zdv X.env.cells sc.names []) h3.objs.size { s2 with heap:=h3 } (upd H2 s2.heap.objs.size (.lst [])) fp (X.pn ++ pins)) [] H' b:=fun hn b hb=>by
  obtain ⟨_,g1,g2,g3,g4,g5⟩:=f3 b hb
  refine ⟨hn b hb,Nat.ne_of_lt (Nat.lt_trans (fb b hb) z3),fun z=>?_,.inl hb,fun x c e=>g4 x c (zed sc.names [] hfr (fun _ _ z=>by simp at z) e),fun p hp=>g5 p (by rw [List.append_nil] at hp; exact hp)⟩
  rcases List.mem_cons.mp (I3.stkSub b z) with e | e
  ·exact g1 e
  ·exact g2 e
 have loop:∀ s4:Shared,s4={ s2 with heap:=h1,toks:=s2.toks+([]:List (Str × Value)).length } ->
   codeAny (model X.prog X.w) X.A (.compLoop (.ListComp elt [⟨tg,iter,ifs,0⟩] sc pos) 0 (.ref it) (.ref s2.heap.objs.size) (compEnvC sc (zdv X.env.cells sc.names []) h3.objs.size X.env))
    (compPost (model X.prog X.w) X.A X.xe (some (assign (.Name x0 p1) X.env)) (fun _ s'=>SP X pins D0 .next s') (.ref s2.heap.objs.size) h3.objs.size) s4:=by
  rintro s4 rfl
  refine ziO (fun k s'=>∃ i σ5 H5,Inv (blk X N' sc (zdv X.env.cells sc.names []) h3.objs.size { s2 with heap:=h3 } (upd H2 s2.heap.objs.size (.lst [])) fp (X.pn ++ pins)) [] σ5 H5 s'/\tn i s'.heap/\(∀ b ∈ fp,H5 b=none)/\W i k σ5 H5) ?_ m0
   ⟨0,_,_,I4,st4,fun b hb=>(f3 b hb).1,w0⟩
  rintro k s5 ⟨i,σ5,H5,I5,st5,fr5,w5⟩
  rcases turn i k σ5 H5 w5 with ⟨stop,qd⟩ | ⟨go,M,hM,step⟩
  ·refine thn (T.done (blk X N' sc (zdv X.env.cells sc.names []) h3.objs.size { s2 with heap:=h3 } (upd H2 s2.heap.objs.size (.lst [])) fp (X.pn ++ pins)) rfl rfl rfl hc i [] s5 σ5 H5 _ I5 (fok fr5) st5 stop) fun r s6 ⟨hr,I6⟩=>?_
   subst hr; obtain ⟨m6,hn6,_⟩:=id I6.loc
   have I7:Inv X pins σ H5 s6:=I3.call' (s':=s6) (ch:=fp) I6.os (Un.same I6.base (Heap.SameBut.refl ..) (Nat.le_refl _)) (HOk.same I6.hok (Heap.SameBut.refl ..) I6.free) I6.bare fun b hb=>⟨(f3 b hb).2.2.2.1,(f3 b hb).2.1,(f3 b hb).2.2.2.2.1,(f3 b hb).2.2.2.2.2⟩
   obtain ⟨c0,c1,c2,c3,c4,c5⟩:=I3.fpOk (H':=H5) (b:=h3.objs.size) (Nat.le_refl _) I6.free
   show wpAny _ _ (assign (.Name x0 p1) X.env (.ref s2.heap.objs.size)) _ _ _
   refine wpAny_assign_Name (zhK (v:=.ref s2.heap.objs.size) I7 hNd hi0 (.inl hx0) rfl (fun s8 I8 sb=>?_) (.inr hx0))
   obtain ⟨a8,sb8,ha8⟩:=sb
   have ne8:h3.objs.size≠a8:=by
    rcases ha8 with e | e
    ·rw [e]; exact c1
    ·exact fun z=>c4 _ _ e z.symm
   exact ⟨m6,hn6.sameBut sb8 ne8,fun h' hsb'=>⟨_,H5,I8.turned (t':=s8.toks) (fun b o hb e=>(hsb'.2 b hb).trans e) c0 c1 c3 c4 c5,fin _ _ qd⟩⟩
  ·refine thn (T.item (blk X N' sc (zdv X.env.cells sc.names []) h3.objs.size { s2 with heap:=h3 } (upd H2 s2.heap.objs.size (.lst [])) fp (X.pn ++ pins)) rfl rfl rfl hc i [] s5 σ5 H5 _ I5 (fok fr5) st5 go) fun r s6 ⟨u,hr,h6⟩=>?_
   subst hr
   refine thn h6 fun _ s7 ⟨x,H7,I7,r7,y7,st7,fr7⟩=>?_
   have I7':=I7.pinned (fok fr7) (T.obj _ _ st7)
   have back:∀ {σ8:St} {H8:Hp} {s8:Shared},Inv (blk X N' sc (zdv X.env.cells sc.names []) h3.objs.size { s2 with heap:=h3 } (upd H2 s2.heap.objs.size (.lst [])) fp (X.pn ++ pins)) ([] ++ zgw fp s7.heap) σ8 H8 s8->tn (i+1) s8.heap/\∀ b ∈ fp,H8 b=none:=fun {σ8 H8 s8} I8=>by
    have pn8:∀ b ∈ fp,∀ o,s7.heap.get? b=some o->s8.heap.get? b=some o/\H8 b=none:=fun b hb o e=>by
     have q:=I8.pin (b,o) (List.mem_append_right _ (List.mem_append_right _ (zc4 hb e))); exact ⟨q.1,q.2.1⟩
    refine ⟨T.keep _ _ _ st7 fun b hb o e=>(pn8 b hb o e).1,fun b hb=>?_⟩
    obtain ⟨o,e,_⟩:=T.obj _ _ st7 b hb; exact (pn8 b hb o e).2
   have xf:∀ {α:Type} {t:Sem α} {Q1 Q2:α->Shared->Prop} {z:Shared},wpAny (model X.prog X.w) X.A t Q1 X.xe z->(∀ a z',Q1 a z'->Q2 a z')->wpAny (model X.prog X.w) X.A t Q2 (fun _ _=>False) z:=fun g1 g2=>by
    rw [hx] at g1; exact thn g1 g2
   refine xf (hg _ _ _ _ _ _ _ s7 σ5 H7 x u _ I7' r7 (step x H7 y7)) fun _ s8 ⟨σ8,H8,I8,q8⟩=>?_
   refine xf (ht _ _ _ _ _ _ _ s8 σ8 H8 _ I8 q8) fun b s9 ⟨H9,I9,q9⟩=>?_
   cases b with
   | false =>
    obtain ⟨m',hm,w'⟩:=hM σ8 H9 (by simpa using q9)
    obtain ⟨g1,g2⟩:=back I9; exact ⟨m',hm,i+1,σ8,H9,I9.unpinned,g1,g2,w'⟩
   | true =>
    rw [if_pos rfl] at q9 ⊢
    refine xf (he _ _ _ _ _ _ _ s9 σ8 H9 _ I9 q9) fun y s10 ⟨yv,H10,I10,r10,ys,hy,hz,w⟩=>?_
    obtain ⟨m',hm,w'⟩:=hM _ _ w
    refine xf (zfD (X:=(blk X N' sc (zdv X.env.cells sc.names []) h3.objs.size { s2 with heap:=h3 } (upd H2 s2.heap.objs.size (.lst [])) fp (X.pn ++ pins))) _ s10 σ8 H10 (.ref s2.heap.objs.size) [yv] _ [y] (fun _ H11=>H11=upd H10 s2.heap.objs.size (.lst (ys ++ [yv]))) I10 rfl (.cons r10 .nil) ⟨_,ys,yv,rfl,rfl,hy,hz,rfl⟩) fun _ s11 ⟨_,H11,I11,_,e11⟩=>?_
    subst e11; obtain ⟨g1,g2⟩:=back I11; exact ⟨m',hm,i+1,σ8,_,I11.unpinned,g1,g2,w'⟩
 exact codeAny_compStart_list (loop _ rfl) (T.self _ 0 _ _ _ st4 (loop _ rfl))
end L2
namespace PL
open PySem L2
structure PU' (X:Cx) (e:Expr) (t:TO'):Prop where
 h:PU X e (oOf X.K X.N.length t)
section
variable {X:Cx} {pos:Pos}
theorem zj7 {elt tg iter:Expr} {ifs:List Expr} {sc fsc:Scope} {ti:TI'} {g:TG'} {tc:TT'} {te:TE'} {N N':List Str} {src:List (Option Nat)} (B:Blk N N' src fsc sc) (hi:PI' X tg iter ti)
  (hg:∀ cl C s H fp pn,PG' (blk X N' sc cl C s H fp pn) tg g) (ht:∀ cl C s H fp pn,PTs' (blk X N' sc cl C s H fp pn) ifs tc) (he:∀ cl C s H fp pn,PE' (blk X N' sc cl C s H fp pn) elt te)
  (hx:X.xe=(fun _ _=>False):=by rfl) (hc:X.calm=true:=by rfl) (hN:X.N=N:=by rfl) (hs:X.env.scope=fsc:=by rfl)
  (hf:∀ x,foldedSetIterable iter X.env x=pure x:=by intro _; rfl):PU' X (.ListComp elt [⟨tg,iter,ifs,0⟩] sc pos) (zcq ti src g tc te):=by
 refine ⟨PU.weak (zqg (g:=gOf X.K N'.length g) (tc:=zrE X.K N'.length tc) (te:=tOf X.K N'.length te) B hi.h (fun a b c d e f=>(hg a b c d e f).h) (fun a b c d e f=>(ht a b c d e f).h) (fun a b c d e f=>(he a b c d e f).h) hx hc hN hs hf) ?_⟩
 rintro σ H Q2 ⟨W,Hi,Γ,Q,gd,h,fin⟩
 refine ⟨W,Hi,Γ,_,gd,h,?_⟩
 rintro J H1 Hi1 Γ1 ds s1 g1 itd ⟨hlen,q⟩
 intro A hA
 -- the state between two turns
 have hn':src.length=N'.length:=B.len
 refine ziN (n:=ds.length) (fun i σ' H'=>∃ Hi' acc vs Γ',zU Hi1 Hi'/\Fz Hi' H'/\(∀ b o,H1 b=some o->H' b=some o)/\(∀ b o,H1 b=some o->Hi' b=Hi1 b)/\Hi' A=none/\H' A=some (.lst vs)/\zaV X.K Hi' vs acc/\vs.length<=i/\σ'.length=N'.length /\
   (∀ (j:Nat) s,Γ'[j]?=some s->s=.emp\/∃ d,s=.val d/\∃ v,σ'[j]?=some (some v)/\Den X.K Hi' v d)/\zcW g tc te (fun acc=>Q (.lst acc) Γ1) (ds.drop i) acc Γ') ?_ ?_ ?_
 ·refine ⟨Hi1,[],[],znt src Γ1,zU.refl _,(Ext.newO g1.fz hA _ (fun _ z=>by cases z)).fz,fun b o e=>zO hA _ b o e,fun b o e=>rfl,g1.sub.free hA,zj,.nil,Nat.zero_le _,?_,fun j s e=>?_,by simpa using q⟩
  ·unfold znK; rw [List.length_map,hn']
  ·unfold znt at e
   rw [List.getElem?_map] at e
   cases hj:src[j]? with
   | none=>rw [hj] at e; cases e
   | some o =>
    rw [hj] at e
    cases o with
    | none=>cases e; exact .inl rfl
    | some i =>
     have e':(match Γ1[i]? with | some (.val d)=>Slot.val d | _=>.emp)=s:=Option.some.inj e
     cases hΓ:Γ1[i]? with
     | none=>rw [hΓ] at e'; exact .inl e'.symm
     | some sl =>
      rw [hΓ] at e'
      cases sl with
      | val d =>
       refine .inr ⟨d,e'.symm,?_⟩; obtain ⟨v,h1,h2⟩:=g1.val i d hΓ; refine ⟨v,?_,h2⟩; unfold znK; rw [List.getElem?_map,hj]
       show some ((some i).bind fun i=>(σ[i]?).join)=some (some v)
       show some ((σ[i]?).join)=some (some v)
       rw [h1]; rfl
      | emp=>exact .inl e'.symm
      | own o=>exact .inl e'.symm
      | bk _ _ _=>exact .inl e'.symm
 ·rintro i σ' H' hlt ⟨Hi',acc,vs,Γ',s2,s3,k1,k2,hA1,hA2,dl,hv,hl,hsl,q⟩
  have hd:ds.drop i=ds[i] :: ds.drop (i+1):=List.drop_eq_getElem_cons hlt
  rw [hd] at q; obtain ⟨go,yl⟩:=(itd Hi' H' s2 s3).1 i ds[i] (List.getElem?_eq_getElem hlt)
  refine ⟨go,fun x H'' y=>?_⟩
  obtain ⟨Hi'',ex,den⟩:=yl x H'' y
  have gb:Good X.K N'.length ⟨H'',Hi'',[]⟩ Hi'' Γ' σ' H'':=by
   refine ⟨hl,ex.fz,fun b o e _=>e,fun b o e=>⟨o,e⟩,fun b o e=>rfl,fun j d e=>?_,fun j o e=>?_,fun j k o o' b e=>?_,fun j d b xs e=>?_⟩
   ·rcases hsl j _ e with z | ⟨d',z,v,h1,h2⟩
    ·cases z
    ·cases z; exact ⟨v,h1,h2.mono ex.hi⟩
   ·rcases hsl j _ e with z | ⟨d',z,_⟩ <;> cases z
   ·rcases hsl j _ e with z | ⟨d',z,_⟩ <;> cases z
   ·rcases hsl j _ e with z | ⟨d',z,_⟩ <;> cases z
  refine ⟨⟨H'',Hi'',[]⟩,Hi'',Γ',ds[i],_,gb,den,q,?_⟩; intro σ3 H3 Hi3 Γ3 s4 g3 q3; refine ⟨⟨H'',Hi'',[]⟩,Hi3,Γ3,_,g3,q3,?_⟩; intro b H4 Hi4 Γ4 s5 g4 q4
  -- what the state is behind a turn
  have back:∀ {Γ5:Sts} {Hi5 H5:Hp},zU Hi4 Hi5->Good X.K N'.length ⟨H'',Hi'',[]⟩ Hi5 Γ5 σ3 H5 ->
    zU Hi1 Hi5/\Fz Hi5 H5/\(∀ b o,H1 b=some o->H5 b=some o)/\(∀ b o,H1 b=some o->Hi5 b=Hi1 b)/\Hi5 A=none/\H5 A=some (.lst vs)/\zU Hi' Hi5:=fun {Γ5 Hi5 H5} s6 g5=>by
   have sx:zU Hi' Hi5:=ex.hi.trans (s4.trans (s5.trans s6))
   have hA3:H'' A=some (.lst vs):=ex.h _ _ hA2
   refine ⟨s2.trans sx,g5.fz,fun b o e=>g5.keep b o (ex.h _ _ (k1 b o e)) (by simp),fun b o e=>?_,?_,g5.keep A _ hA3 (by simp),sx⟩
   ·rw [g5.fro b o (ex.h _ _ (k1 b o e))]
    show Hi'' b=Hi1 b
    rw [ex.fro b o (k1 b o e),k2 b o e]
   ·rw [g5.fro A _ hA3]
    show Hi'' A=none
    rw [ex.fro A _ hA2,hA1]
  have sl:∀ {Γ5:Sts} {Hi5 H5:Hp},Good X.K N'.length ⟨H'',Hi'',[]⟩ Hi5 Γ5 σ3 H5->∀ (j:Nat) s,(vo Γ5)[j]?=some s->s=.emp\/∃ d,s=.val d/\∃ v,σ3[j]?=some (some v)/\Den X.K Hi5 v d:=fun {Γ5 Hi5 H5} g5 j s e=>by
   unfold vo at e; rw [List.getElem?_map] at e
   cases hj:Γ5[j]? with
   | none=>rw [hj] at e; cases e
   | some sl =>
    rw [hj] at e
    cases sl with
    | val d =>
     cases e; exact .inr ⟨d,rfl,g5.val j d hj⟩
    | emp=>cases e; exact .inl rfl
    | own o=>cases e; exact .inl rfl
    | bk _ _ _=>cases e; exact .inl rfl
  cases b with
  | false =>
   simp only [Bool.false_eq_true,if_false] at q4 ⊢; obtain ⟨b1,b2,b3,b4,b5,b6,b7⟩:=back (zU.refl _) g4
   exact ⟨Hi4,acc,vs,vo Γ4,b1,b2,b3,b4,b5,b6,dl.mono b7,by omega,g4.len,sl g4,q4⟩
  | true =>
   simp only [if_true] at q4 ⊢; refine ⟨⟨H'',Hi'',[]⟩,Hi4,Γ4,_,g4,q4,?_⟩
   rintro y' H5 ⟨Hi5,dy,Γ5,s6,g5,den5,q5⟩
   obtain ⟨b1,b2,b3,b4,b5,b6,b7⟩:=back s6 g5
   refine ⟨vs,b6,by omega,Hi5,acc ++ [dy],vs ++ [y'],vo Γ5,b1,?_,?_,b4,b5,zj,zah (dl.mono b7) (.cons den5 .nil),by rw [List.length_append]; simp; omega,g5.len,sl g5,q5⟩
   ·refine ⟨fun b o e=>?_,fun b xs e=>?_⟩
    ·rw [zq (fun z=>by rw [z,b5] at e; cases e)]
     exact b2.sub b o e
    ·by_cases hb:b=A
     ·subst hb; rw [zj] at e; cases e
     ·rw [zq hb] at e; exact b2.tups b xs e
   ·intro b o e
    rw [zq (zI e hA)]; exact b3 b o e
 ·rintro σ' H' ⟨Hi',acc,vs,Γ',s2,s3,k1,k2,hA1,hA2,dl,hv,hl,hsl,q⟩
  refine ⟨(itd Hi' H' s2 s3).2,?_⟩; rw [List.drop_eq_nil_of_le (Nat.le_refl _)] at q
  have ex:Ext Hi1 H1 Hi' H':=⟨s2,k1,s3,k2⟩
  refine fin A H' Hi' Γ1 (.lst acc) (s1.trans s2) (g1.ext ex) ⟨hA1,?_,⟨fun j o' e z=>?_,fun j d xs e=>?_⟩,vs,hA2,dl⟩ q
  ·cases hq:W.H₀ A with
   | none=>rfl
   | some w =>
    obtain ⟨w',hw⟩:=g1.there A w hq
    rw [hA] at hw; cases hw
  ·obtain ⟨a,h1,_,_,h4⟩:=g1.own j o' e
   rw [z] at h1; cases h1; obtain ⟨w,hw⟩:=h4.there
   rw [hA] at hw; cases hw
  ·obtain ⟨w,hw⟩:=(g1.bk j d A xs e).at_.there
   rw [hA] at hw; cases hw
theorem zj8 (i:Nat) {x:Str} {e:Expr} {te:TO'} {pos':Pos} (hN:X.N.Nodup) (he:PU' X e te) (hi:X.N[i]?=some x:=by rfl) (hx:X.env.scope.names.lookup x=some .local:=by rfl) (hs:swapsWith e (some (.Name x pos')) pos.line X.env=pure true:=by rfl):PS' X (.Assign [.Name x pos'] e pos) (zdx (zf6 te) (zac i)):=by
 refine ⟨fun pins s σ H N2 I q=>?_⟩
 obtain ⟨W,Hi,Γ,N,g,h,l⟩:=q
 refine he.h pins s σ H (fun v H'=>N2.nx (σ.set i (some v)) H') i x pos pos' N2 I ⟨W,Hi,Γ,_,g,h,?_⟩ hN hi hx hs fun _ _ z=>z
 intro a H1 Hi1 Γ1 o s1 g1 nw q; obtain ⟨u,hu⟩:=nw.own.there; exact l.nx _ H1 (upd Hi1 a u) _ (s1.trans (zO nw.hi u)) ((g1.freezeA nw.hi nw.h0 nw.ne hu).set (List.getElem?_eq_some_iff.mp hi).1 (nw.own.den nw.hi hu)) q
end
end PL
namespace PL
open PySem L2
def zwd:OD->Prop
 | .lst ds=>∀ d,d ∈ ds->Imm d
 | _=>False
def zdh (n:Nat) (t:TO'):TO':=fun Γ Q=>t (zcQ n Γ) fun o _=>zwd o/\Q o Γ
theorem zqq {X:Cx} {e:Expr} {t:TO'} (h:PO' X e t):PO' X e (zdh X.N.length t):=by
 refine ⟨PE.weak h.h ?_⟩
 rintro σ H Q ⟨W,Hi,Γ,Q',g,q,fin⟩
 obtain ⟨s1,g1⟩:=g.look; refine ⟨_,_,_,_,g1,q,?_⟩
 rintro a H' Hb Γ' o sb g' nw ⟨im,q'⟩
 obtain ⟨s2,g2,hd⟩:=g.unlook sb g'
 have ha:H a=none:=nw.h0
 refine fin a H' _ Γ o s2.hi g2 ⟨?_,?_,⟨fun j o' e z=>?_,fun j d xs e=>?_⟩,?_⟩ q'
 ·unfold zcu
  split
  ·rfl
  ·exact nw.hi
 ·cases hq:W.H₀ a with
  | none=>rfl
  | some w =>
   obtain ⟨w',hw⟩:=g.there a w hq
   rw [ha] at hw; cases hw
 ·obtain ⟨b,h1,_,_,h4⟩:=g.own j o' e
  rw [z] at h1; cases h1; obtain ⟨w,hw⟩:=h4.there
  rw [ha] at hw; cases hw
 ·obtain ⟨w,hw⟩:=(g.bk j d a _ e).at_.there
  rw [ha] at hw; cases hw
 ·cases o with
  | lst ds =>
   obtain ⟨vs,e,dl⟩:=nw.own
   exact ⟨vs,e,paired_of (zg dl) fun i v d h1 h2=>hd v d (im d (List.mem_of_getElem? h2)) (paired_get i dl h1 h2)⟩
  | dic ds=>exact im.elim
  | dit ds=>exact im.elim
  | obj C ds=>exact im.elim
structure ExtB (b:Addr) (Hi H Hi' H':Hp):Prop where
 hi:zU Hi Hi'
 h:∀ a o,a≠b->H a=some o->H' a=some o
 fz:Fz Hi' H'
 fro:∀ a o,H a=some o->Hi' a=Hi a
theorem zca {Γ:Sts} {i:Nat} {t:Slot} {j:Nat} {s:Slot} (e:(Γ.set i t)[j]?=some s):(j=i/\s=t)\/(j≠i/\Γ[j]?=some s):=by
 by_cases hj:j=i
 ·subst hj
  refine .inl ⟨rfl,?_⟩; rw [List.getElem?_set] at e; simp only [if_true] at e; split at e
  ·exact (Option.some.inj e).symm
  ·cases e
 ·rw [List.getElem?_set_ne (fun z=>hj z.symm)] at e
  exact .inr ⟨hj,e⟩
theorem Good.extB {K:W.Frag} {n:Nat} {W:Wd} {Hi Hi' H H':Hp} {Γ:Sts} {σ:St} {i:Nat} {d:D->D} {b:Addr} {xs xs':OD} (g:Good K n W Hi Γ σ H) (e0:Γ[i]?=some (.bk d b xs)) (e:ExtB b Hi H Hi' H') (at_:zaU K Hi' H' b xs'):Good K n W Hi' (Γ.set i (.bk d b xs')) σ H':=by
 have B:=g.bk i d b _ e0
 have hbi:Hi' b=none:=by
  obtain ⟨u,hu⟩:=B.at_.there; exact (e.fro b u hu).trans B.hi
 have mv:∀ {a:Addr} {o:OD},a≠b->zaU K Hi H a o->zaU K Hi' H' a o:=fun ne h=>h.mono e.hi fun u q=>e.h _ u ne q
 refine ⟨g.len,e.fz,fun a o q nf=>?_,fun a o q=>?_,fun a o q=>?_,fun j d' q=>?_,fun j o q=>?_,fun j k o o' a q1 q2 h1 h2=>?_,fun j d' b' ys q=>?_⟩
 ·refine e.h a o (fun z=>?_) (g.keep a o q nf)
  rw [z] at q nf; rw [B.h0 nf] at q; cases q
 ·by_cases z:a=b
  ·rw [z]
   exact at_.there
  ·obtain ⟨o',h⟩:=g.there a o q
   exact ⟨o',e.h a o' z h⟩
 ·obtain ⟨o',h⟩:=g.there a o q
  exact (e.fro a o' h).trans (g.fro a o q)
 ·rcases zca q with ⟨_,z⟩ | ⟨_,z⟩
  ·cases z
  ·obtain ⟨v,h1,h2⟩:=g.val j d' z
   exact ⟨v,h1,h2.mono e.hi⟩
 ·rcases zca q with ⟨_,z⟩ | ⟨_,z⟩
  ·cases z
  ·obtain ⟨a,h1,h2,h3,h4⟩:=g.own j o z
   have ne:a≠b:=fun w=>B.ne j o z (by rw [<- w]; exact h1)
   obtain ⟨u,hu⟩:=h4.there; exact ⟨a,h1,(e.fro a u hu).trans h2,h3,mv ne h4⟩
 ·rcases zca q1 with ⟨_,z⟩ | ⟨_,z⟩
  ·cases z
  ·rcases zca q2 with ⟨_,y⟩ | ⟨_,y⟩
   ·cases y
   ·exact g.apart j k o o' a z y h1 h2
 ·rcases zca q with ⟨rfl,z⟩ | ⟨hj,z⟩
  ·cases z
   obtain ⟨⟨v,v1,v2⟩,p1,p2,p3,p4,p5,p6⟩:=B
   refine ⟨⟨v,v1,v2.mono e.hi⟩,p1,hbi,p3,at_,fun k d2 ys q=>?_,fun k o' q=>?_⟩
   ·rcases zca q with ⟨rfl,y⟩ | ⟨_,y⟩
    ·rfl
    ·exact p5 k _ _ y
   ·rcases zca q with ⟨_,y⟩ | ⟨_,y⟩
    ·cases y
    ·exact p6 k o' y
  ·obtain ⟨⟨v,v1,v2⟩,p1,p2,p3,p4,p5,p6⟩:=g.bk j d' b' _ z
   have ne:b'≠b:=fun w=>hj (B.one j d' ys (by rw [<- w]; exact z))
   obtain ⟨u,hu⟩:=p4.there
   refine ⟨⟨v,v1,v2.mono e.hi⟩,p1,(e.fro b' u hu).trans p2,p3,mv ne p4,fun k d2 ys q=>?_,fun k o' q=>?_⟩
   ·rcases zca q with ⟨rfl,y⟩ | ⟨_,y⟩
    ·cases y
     exact absurd rfl ne
    ·exact p5 k _ _ y
   ·rcases zca q with ⟨_,y⟩ | ⟨_,y⟩
    ·cases y
    ·exact p6 k o' y
section
variable {X:Cx}
end
abbrev SpB:=(D->D)->List D->List D->(D->List D->Prop)->Prop
section
variable {X:Cx} {k:Nat} {C:Addr} {m x y:Str} {ps:List Str} {sp:SpB} {apos pos p q:Pos} {e:Expr} {es:List Expr} {t:TA'}
def zdP (i:Nat) (sp:SpB) (t:TA'):TE':=fun Γ Q=>(∃ d b xs,Γ[i]?=some (.bk d b (.lst xs)))/\t Γ fun ds Γ1=>∃ d b xs,Γ1[i]?=some (.bk d b (.lst xs))/\sp d xs ds fun r ys=>Q r (Γ1.set i (.bk d b (.lst ys)))
end
section
variable {P:Program} {w:World} {K:W.Frag} {mg:Str->Option Value} {base:Heap}
end
end PL
namespace L2
open PySem PySem.Spec PyProof.Rows
theorem zn6 {h:Heap} {a:Addr} {its:Array Value} (p:PlainL h a its):h.IsList a its:=by
 obtain ⟨o,n,e,c,d,e2⟩:=p
 first | exact ⟨o,e,c,n,e2⟩ | exact ⟨o,e,c,n,d⟩
section
variable {X:Cx} {tg:Expr}
end
end L2
namespace PL
open PySem L2
section
variable {X:Cx}
theorem zqW:Op2 X (binaryOp .Pow) (rI' ztM fun i j=>.int (i ^ j.toNat)):=⟨_,zsR,zkl _ fun i j _=>.int _⟩
def zgO (t:TE'):TE':=fun Γ Q=>t Γ fun d Γ1=>∃ i:Int,d=.int i/\Q (.int (-i)) Γ1
end
end PL
namespace L2
open PySem PySem.Spec PyProof.Rows
section
variable {X:Cx}
end
end L2
namespace PL
open PySem L2
section
variable {X:Cx}
end
end PL
namespace PL
open PySem L2
class MGs (t:zng):Prop where
 mono:∀ ds Γ (Q Q':Sts->Prop),(∀ Γ,Q Γ->Q' Γ)->t ds Γ Q->t ds Γ Q'
instance:MGs zeP:=⟨fun _ _ _ _ h ⟨a,q⟩=>⟨a,h _ q⟩⟩
instance {t:TG'} {u:zng} [MG t] [MGs u]:MGs (zb2 t u):=⟨fun _ _ _ _ h ⟨d,r,e,q⟩=>⟨d,r,e,MG.mono (g:=t) _ _ _ _ (fun _ z=>MGs.mono (t:=u) _ _ _ _ h z) q⟩⟩
instance {n:Nat} {t:zng} [MGs t]:MG (zeO n t):=⟨fun _ _ _ _ h ⟨ds,e,l,q⟩=>⟨ds,e,l,MGs.mono (t:=t) _ _ _ _ h q⟩⟩
end PL
namespace So
open PySem PySem.W PyProof.Rows
def run (lt:Nat->Nat->Bool) {α:Type}:KasT α->α
 | .ret a=>a
 | .ask i j k=>run lt (k (lt i j))
theorem zc2 (lt:Nat->Nat->Bool) {α β:Type} (f:α->KasT β):∀ t:KasT α,run lt (t.bind f)=run lt (f (run lt t))
 | .ret _=>rfl
 | .ask i j k=>zc2 lt f (k (lt i j))
def g (p:Array Nat) (i:Nat):Nat:=p.getD i 0
theorem g_eq (p:Array Nat) (i:Nat):g p i=(p[i]?).getD 0:=by
 unfold g; simp [Array.getD_eq_getD_getElem?]
theorem zZ {p:Array Nat} {i j:Nat} (hj:j<=p.size) (k:Nat):g (kas_rev p i j) k=if i<=k/\k<j then g p (i+j-1-k) else g p k:=by
 unfold kas_rev; rw [g_eq,getElem?_mirror_all hj]
 split <;> rw [g_eq]
theorem zoW {p:Array Nat} {src d:Nat} (hs:src<p.size) (hd:d<=src) (k:Nat):g (bubble p src d) k=if k=src-d then g p src else if src-d<k/\k<=src then g p (k-1) else g p k:=by
 rw [g_eq,getElem?_bubble hs d hd]; split
 ·rw [g_eq]
 ·split <;> rw [g_eq]
structure Ord (lt:Nat->Nat->Bool):Prop where
 asym:∀ a b,lt a b=true->lt b a=false
 tr:∀ a b c,lt b a=false->lt c b=false->lt c a=false
def L (lt:Nat->Nat->Bool) (a b:Nat):Prop:=lt a b=true\/(lt b a=false/\a<b)
section
variable {lt:Nat->Nat->Bool}
theorem L.le (o:Ord lt) {a b:Nat} (h:L lt a b):lt b a=false:=by
 rcases h with h | h
 ·exact o.asym _ _ h
 ·exact h.1
theorem zmu (o:Ord lt) {a b c:Nat} (h:lt a b=true) (k:lt c b=false):lt a c=true:=by
 cases e:lt a c with
 | true=>rfl
 | false=>exact absurd (o.tr b c a k e) (by rw [h]; exact fun z=>nomatch z)
theorem zq3 (o:Ord lt) {a b c:Nat} (h:lt b a=false) (k:lt b c=true):lt a c=true:=by
 cases e:lt a c with
 | true=>rfl
 | false=>exact absurd (o.tr c a b e h) (by rw [k]; exact fun z=>nomatch z)
theorem L.trans (o:Ord lt) {a b c:Nat} (h:L lt a b) (k:L lt b c):L lt a c:=by
 rcases h with h | ⟨h,h'⟩
 ·exact .inl (zmu o h (L.le o k))
 ·rcases k with k | ⟨k,k'⟩
  ·exact .inl (zq3 o h k)
  ·exact .inr ⟨o.tr _ _ _ h k,Nat.lt_trans h' k'⟩
end
def Srt (lt:Nat->Nat->Bool) (p:Array Nat) (n:Nat):Prop:=∀ i j,i<j->j<n->L lt (g p i) (g p j)
structure B (p:Array Nat) (N n:Nat):Prop where
 size:p.size=N
 low:∀ k,k<n->g p k<n
 high:∀ k,n<=k->k<N->g p k=k
theorem B.succ {p:Array Nat} {N n:Nat} (b:B p N n) (h:n<N):B p N (n+1) where
 size:=b.size
 low:=fun k hk=>by
  by_cases e:k=n
  ·subst e; rw [b.high k (Nat.le_refl _) h]; omega
  ·have:=b.low k (by omega); omega
 high:=fun k h1 h2=>b.high k (by omega) h2
theorem B.mirror {p:Array Nat} {N n i j:Nat} (b:B p N n) (hj:j<=n) (hn:n<=N):B (kas_rev p i j) N n where
 size:=by rw [kas_rev_size,b.size]
 low:=fun k hk=>by
  rw [zZ (by rw [b.size]; omega)]
  split
  ·exact b.low _ (by omega)
  ·exact b.low _ hk
 high:=fun k h1 h2=>by
  rw [zZ (by rw [b.size]; omega),if_neg (by omega)]
  exact b.high k h1 h2
section
variable {lt:Nat->Nat->Bool} (o:Ord lt)
include o
theorem Srt.succ {p:Array Nat} {N n:Nat} (b:B p N n) (h1:1<=n) (hn:n<N) (s:Srt lt p n) (q:lt (g p n) (g p (n-1))=false):Srt lt p (n+1):=fun i j hij hj=>by
 by_cases e:j=n
 ·subst e
  have l1:L lt (g p (j-1)) (g p j):=.inr ⟨q,by
   rw [b.high j (Nat.le_refl _) hn]
   exact b.low _ (by omega)⟩
  by_cases e2:i=j-1
  ·subst e2; exact l1
  ·exact (s i (j-1) (by omega) (by omega)).trans o l1
 ·exact s i j hij (by omega)
theorem asc {p:Array Nat} {N:Nat}:∀ (f n:Nat),n+f=N->1<=n->B p N n->Srt lt p n->n<=run lt (kas_asc p f n)/\run lt (kas_asc p f n)<=N/\B p N (run lt (kas_asc p f n))/\Srt lt p (run lt (kas_asc p f n)) /\
  (run lt (kas_asc p f n)<N->lt (g p (run lt (kas_asc p f n))) (g p (run lt (kas_asc p f n)-1))=true)
 | 0,n,h,h1,b,s=>⟨Nat.le_refl _,by show n<=N; omega,b,s,fun z=>absurd (show n<N from z) (by omega)⟩
 | f+1,n,h,h1,b,s=>by
  have e:run lt (kas_asc p (f+1) n)=run lt (if lt (g p n) (g p (n-1))=true then KasT.ret n else kas_asc p f (n+1)):=rfl
  rw [e]
  cases q:lt (g p n) (g p (n-1)) with
  | true =>
   rw [if_pos rfl]
   exact ⟨Nat.le_refl _,by show n<=N; omega,b,s,fun _=>q⟩
  | false =>
   rw [if_neg (by decide)]
   obtain ⟨a1,a2,a3,a4,a5⟩:=asc (N:=N) f (n+1) (by omega) (by omega) (b.succ (by omega)) (Srt.succ o b h1 (by omega) s q)
   exact ⟨by omega,a2,a3,a4,a5⟩
structure De (lt:Nat->Nat->Bool) (p:Array Nat) (N n q:Nat):Prop where
 b:B p N n
 le:n<=N
 q1:q+1<=n
 blk:∀ i j,n-(q+1)<=i->i<j->j<n->L lt (g p i) (g p j)/\lt (g p i) (g p j)=false
 str:∀ i j,i<n-(q+1)->n-(q+1)<=j->j<n->lt (g p j) (g p i)=true
 old:∀ i j,i<j->j<n-(q+1)->L lt (g p j) (g p i)
def Fal (lt:Nat->Nat->Bool) (p:Array Nat) (n:Nat):Prop:=∀ i j,i<j->j<n->L lt (g p j) (g p i)
theorem De.turned {p:Array Nat} {N n q:Nat} (d:De lt p N n q):Fal lt (kas_rev p (n-(q+1)) n) n:=fun i j hij hj=>by
 have hs:n<=p.size:=by rw [d.b.size]; exact d.le
 have hq:=d.q1; rw [zZ hs,zZ hs]
 by_cases hi:n-(q+1)<=i
 ·rw [if_pos ⟨by omega,hj⟩,if_pos ⟨hi,by omega⟩]
  exact (d.blk _ _ (by omega) (by omega) (by omega)).1
 ·rw [if_neg (show ¬ (n-(q+1)<=i/\i<n) by omega)]
  by_cases hj2:n-(q+1)<=j
  ·rw [if_pos ⟨hj2,hj⟩]
   exact .inl (d.str _ _ (by omega) (by omega) (by omega))
  ·rw [if_neg (show ¬ (n-(q+1)<=j/\j<n) by omega)]
   exact d.old i j hij (by omega)
theorem De.fal0 {p:Array Nat} {N n:Nat} (d:De lt p N n 0):Fal lt p n:=fun i j hij hj=>by
 by_cases e:n-1<=j
 ·exact .inl (d.str i j (by omega) (by omega) hj)
 ·exact d.old i j hij (by omega)
theorem De.next {p:Array Nat} {N n:Nat} (b:B p N n) (hn:n<N) (h1:1<=n) (fa:Fal lt p n) (st:∀ i,i<n->lt (g p n) (g p i)=true):De lt p N (n+1) 0 where
 b:=b.succ hn
 le:=hn
 q1:=by omega
 blk:=fun i j h1 h2 h3=>by omega
 str:=fun i j h1 h2 h3=>by
  have e:j=n:=by omega
  subst e
  exact st i (by omega)
 old:=fun i j h1 h2=>fa i j h1 (by omega)
theorem De.st {p:Array Nat} {N n q:Nat} (d:De lt p N n q) (h:lt (g p n) (g p (n-1))=true):∀ i,i<n->lt (g p n) (g p i)=true:=fun i hi=>by
 have hq:=d.q1
 by_cases e:i=n-1
 ·subst e; exact h
 ·refine zmu o h ?_
  by_cases hb:n-(q+1)<=i
  ·exact (d.blk i (n-1) hb (by omega) (by omega)).2
  ·exact o.asym _ _ (d.str i (n-1) (by omega) (by omega) (by omega))
theorem ztv {N:Nat}:∀ (f:Nat) (p:Array Nat) (n q:Nat),n+f=N->De lt p N n q->∃ p' n' q',run lt (kas_desc f p n q)=(p',n',q')/\De lt p' N n' q'
 | 0,p,n,q,_,d=>⟨p,n,q,rfl,d⟩
 | f+1,p,n,q,h,d=>by
  have hn:n<N:=by omega
  have hq:=d.q1
  have e:run lt (kas_desc (f+1) p n q)=run lt (if lt (g p n) (g p (n-1))=true then (if q > 0 then kas_desc f (kas_rev p (n-(q+1)) n) (n+1) 0 else kas_desc f p (n+1) 0)
   else KasT.ask (p.getD (n-1) 0) (p.getD n 0) fun c=>if c=true then .ret (p,n,q) else kas_desc f p (n+1) (q+1)):=rfl
  rw [e]
  cases c:lt (g p n) (g p (n-1)) with
  | true =>
   rw [if_pos rfl]
   by_cases hq0:q > 0
   ·rw [if_pos hq0]
    refine ztv f _ (n+1) 0 (by omega) (De.next o (d.b.mirror (Nat.le_refl _) d.le) hn (by omega) (De.turned o d) fun i hi=>?_)
    have hs:n<=p.size:=by rw [d.b.size]; exact d.le
    rw [zZ hs,zZ hs,if_neg (show ¬ (n-(q+1)<=n/\n<n) by omega)]
    split
    ·exact De.st o d c _ (by omega)
    ·exact De.st o d c _ hi
   ·rw [if_neg hq0]
    have e0:q=0:=by omega
    subst e0
    exact ztv f _ (n+1) 0 (by omega) (De.next o d.b hn (by omega) (De.fal0 o d) (De.st o d c))
  | false =>
   rw [if_neg (by decide)]
   have e2:run lt (KasT.ask (p.getD (n-1) 0) (p.getD n 0) fun c=>if c=true then KasT.ret (p,n,q) else kas_desc f p (n+1) (q+1))=run lt (if lt (g p (n-1)) (g p n)=true then KasT.ret (p,n,q) else kas_desc f p (n+1) (q+1)):=rfl
   rw [e2]
   cases c2:lt (g p (n-1)) (g p n) with
   | true=>rw [if_pos rfl]; exact ⟨p,n,q,rfl,d⟩
   | false =>
    rw [if_neg (by decide)]
    have hb:n+1-(q+1+1)=n-(q+1):=by omega
    have gn:g p n=n:=d.b.high n (Nat.le_refl _) hn
    refine ztv f _ (n+1) (q+1) (by omega) ⟨d.b.succ hn,hn,by omega,fun i j h1 h2 h3=>?_,fun i j h1 h2 h3=>?_,fun i j h1 h2=>?_⟩
    ·rw [hb] at h1
     by_cases ej:j=n
     ·subst ej
      have lo:g p i<g p j:=by rw [gn]; exact d.b.low i h2
      by_cases ei:i=j-1
      ·subst ei; exact ⟨.inr ⟨c,lo⟩,c2⟩
      ·obtain ⟨u1,u2⟩:=d.blk i (j-1) h1 (by omega) (by omega)
       exact ⟨.inr ⟨o.tr _ _ _ (L.le o u1) c,lo⟩,o.tr _ _ _ c2 u2⟩
     ·exact d.blk i j h1 h2 (by omega)
    ·rw [hb] at h1 h2
     by_cases ej:j=n
     ·subst ej
      exact zq3 o c2 (d.str i (j-1) h1 (by omega) (by omega))
     ·exact d.str i j h1 h2 (by omega)
    ·rw [hb] at h2
     exact d.old i j h1 h2
theorem zrQ {p:Array Nat} {N n:Nat} (b:B p N n) (hn:n<=N) (h1:1<=n) (fa:Fal lt p n):∃ m p',run lt (kas_tail3 n N p)=(m,p')/\1<=m/\m<=N/\B p' N m/\Srt lt p' m:=by
 unfold kas_tail3; rw [zc2]
 have hs:n<=p.size:=by rw [b.size]; exact hn
 obtain ⟨a1,a2,a3,a4,_⟩:=asc o (p:=kas_rev p 0 n) (N:=N) (N-n) n (by omega) h1 (b.mirror (Nat.le_refl _) hn) (fun i j hij hj=>by
  rw [zZ hs,zZ hs,if_pos ⟨by omega,by omega⟩,if_pos ⟨by omega,hj⟩]
  exact fa _ _ (by omega) (by omega))
 exact ⟨_,_,rfl,by omega,a2,a3,a4⟩
theorem zkz {p:Array Nat} {N n:Nat} (hn:n<N) (d:De lt p N (n+1) 0):∃ m p',run lt (kas_descPart n N p)=(m,p')/\1<=m/\m<=N/\B p' N m/\Srt lt p' m:=by
 unfold kas_descPart; rw [zc2]
 obtain ⟨p',n',q',e,d'⟩:=ztv o (N:=N) (N-(n+1)) p (n+1) 0 (by omega) d
 rw [e]; have hq:=d'.q1
 by_cases h:q' > 0
 ·show ∃ m p'',run lt (if q' > 0 then kas_tail3 n' N (kas_rev p' (n'-(q'+1)) n') else kas_tail3 n' N p')=(m,p'')/\_
  rw [if_pos h]
  exact zrQ o (d'.b.mirror (Nat.le_refl _) d'.le) d'.le (by omega) (De.turned o d')
 ·show ∃ m p'',run lt (if q' > 0 then kas_tail3 n' N (kas_rev p' (n'-(q'+1)) n') else kas_tail3 n' N p')=(m,p'')/\_
  rw [if_neg h]
  have e0:q'=0:=by omega
  subst e0
  exact zrQ o d'.b d'.le (by omega) (De.fal0 o d')
theorem count {p:Array Nat} {N:Nat} (hN:1<=N) (b:B p N 1):∃ m p',run lt (kas_count N p)=(m,p')/\1<=m/\m<=N/\B p' N m/\Srt lt p' m:=by
 unfold kas_count; rw [zc2]
 obtain ⟨a1,a2,a3,a4,a5⟩:=asc o (p:=p) (N:=N) (N-1) 1 (by omega) (Nat.le_refl _) b (fun i j hij hj=>by omega)
 generalize run lt (kas_asc p (N-1) 1)=n at a1 a2 a3 a4 a5 ⊢
 by_cases e:n=N
 ·rw [if_pos (by rw [e]; exact beq_self_eq_true _)]
  exact ⟨n,p,rfl,a1,a2,a3,a4⟩
 ·have hn:n<N:=by omega
  have hs:n<=p.size:=by rw [a3.size]; exact a2
  rw [if_neg (by simpa using e)]
  by_cases h1:n > 1
  ·rw [if_pos h1]
   show ∃ m p',run lt (if lt (g p 0) (g p (n-1))=true then KasT.ret (n,p) else kas_descPart n N (kas_rev p 0 n))=(m,p')/\_
   cases c:lt (g p 0) (g p (n-1)) with
   | true=>rw [if_pos rfl]; exact ⟨n,p,rfl,a1,a2,a3,a4⟩
   | false =>
    rw [if_neg (by decide)]
    refine zkz o hn (De.next o (a3.mirror (Nat.le_refl _) a2) hn a1 (fun i j hij hj=>?_) fun i hi=>?_)
    ·rw [zZ hs,zZ hs,if_pos ⟨by omega,hj⟩,if_pos ⟨by omega,by omega⟩]
     exact a4 _ _ (by omega) (by omega)
    ·rw [zZ hs,zZ hs,if_neg (show ¬ (0<=n/\n<n) by omega),if_pos ⟨by omega,hi⟩]
     refine zmu o (a5 hn) ?_; generalize hk:0+n-1-i=k
     have hkn:k<n:=by omega
     by_cases k0:k=0
     ·subst k0; exact c
     ·exact o.tr _ _ _ c (L.le o (a4 0 k (by omega) hkn))
  ·rw [if_neg h1]
   have e1:n=1:=by omega
   subst e1
   exact zkz o hn (De.next o a3 hn (Nat.le_refl _) (fun i j h1 h2=>by omega) fun i hi=>by
    have e0:i=0:=by omega
    subst e0; exact a5 hn)
theorem zn7 {p:Array Nat} {k:Nat} (s:Srt lt p k):∀ (f l r:Nat),r-l<=f->l<=r->r<=k->(∀ i,i<l->lt (g p k) (g p i)=false)->(∀ i,r<=i->i<k->lt (g p k) (g p i)=true) ->
  run lt (kas_place p k f l r)<=k/\(∀ i,i<run lt (kas_place p k f l r)->lt (g p k) (g p i)=false)/\∀ i,run lt (kas_place p k f l r)<=i->i<k->lt (g p k) (g p i)=true
 | 0,l,r,h,h1,h2,a,c=>⟨show l<=k by omega,a,fun i (hi:l<=i)=>c i (by omega)⟩
 | f+1,l,r,h,h1,h2,a,c=>by
  have e:run lt (kas_place p k (f+1) l r)=run lt (if l >= r then KasT.ret l else KasT.ask (p.getD k 0) (p.getD ((l+r) / 2) 0) fun c=>if c=true then kas_place p k f l ((l+r) / 2) else kas_place p k f ((l+r) / 2+1) r):=rfl
  rw [e]
  by_cases hlr:l >= r
  ·rw [if_pos hlr]
   exact ⟨show l<=k by omega,a,fun i (hi:l<=i)=>c i (by omega)⟩
  ·rw [if_neg hlr]
   show run lt (if lt (g p k) (g p ((l+r) / 2))=true then kas_place p k f l ((l+r) / 2) else kas_place p k f ((l+r) / 2+1) r)<=k/\(∀ i,i<run lt (if lt (g p k) (g p ((l+r) / 2))=true then kas_place p k f l ((l+r) / 2) else kas_place p k f ((l+r) / 2+1) r)->_)/\∀ i,run lt (if lt (g p k) (g p ((l+r) / 2))=true then kas_place p k f l ((l+r) / 2) else kas_place p k f ((l+r) / 2+1) r)<=i->_
   cases q:lt (g p k) (g p ((l+r) / 2)) with
   | true =>
    rw [if_pos rfl]
    refine zn7 s f l _ (by omega) (by omega) (by omega) a fun i hi hk=>?_
    by_cases ei:i=(l+r) / 2
    ·subst ei; exact q
    ·exact zmu o q (L.le o (s _ i (by omega) hk))
   | false =>
    rw [if_neg (by decide)]
    refine zn7 s f _ r (by omega) (by omega) h2 (fun i hi=>?_) c
    by_cases ei:i=(l+r) / 2
    ·subst ei; exact q
    ·exact o.tr _ _ _ (L.le o (s i ((l+r) / 2) (by omega) (by omega))) q
theorem ins {p:Array Nat} {N k l:Nat} (b:B p N k) (hk:k<N) (s:Srt lt p k) (hl:l<=k) (a:∀ i,i<l->lt (g p k) (g p i)=false) (c:∀ i,l<=i->i<k->lt (g p k) (g p i)=true):B (bubble p k (k-l)) N (k+1)/\Srt lt (bubble p k (k-l)) (k+1):=by
 have hs:k<p.size:=by rw [b.size]; exact hk
 have gk:g p k=k:=b.high k (Nat.le_refl _) hk
 have e:∀ i,g (bubble p k (k-l)) i=if i=l then g p k else if l<i/\i<=k then g p (i-1) else g p i:=fun i=>by
  rw [zoW hs (by omega),show k-(k-l)=l by omega]
 refine ⟨⟨by rw [bubble_size,b.size],fun i hi=>?_,fun i h1 h2=>?_⟩,fun i j hij hj=>?_⟩
 ·rw [e]
  split
  ·omega
  ·split
   ·have:=b.low (i-1) (by omega); omega
   ·have:=b.low i (by omega); omega
 ·rw [e,if_neg (by omega),if_neg (by omega)]
  exact b.high i (by omega) h2
 ·rw [e,e]
  have lo:∀ x,x<k->g p x<g p k:=fun x hx=>by rw [gk]; exact b.low x hx
  by_cases h1:i=l
  ·subst h1
   rw [if_pos rfl,if_neg (by omega),if_pos ⟨hij,by omega⟩]
   exact .inl (c _ (by omega) (by omega))
  ·rw [if_neg h1]
   by_cases h2:j=l
   ·subst h2
    rw [if_pos rfl,if_neg (by omega)]
    exact .inr ⟨a i hij,lo i (by omega)⟩
   ·rw [if_neg h2]
    split <;> split <;> exact s _ _ (by omega) (by omega)
theorem bin {N:Nat}:∀ (f:Nat) (p:Array Nat) (k:Nat),k+f=N->B p N k->Srt lt p k->B (run lt (kas_bin f p k)) N N/\Srt lt (run lt (kas_bin f p k)) N
 | 0,p,k,h,b,s=>by
  have e:k=N:=by omega
  subst e; exact ⟨b,s⟩
 | f+1,p,k,h,b,s=>by
  have e:run lt (kas_bin (f+1) p k)=run lt ((kas_place p k k 0 k).bind fun l=>kas_bin f (bubble p k (k-l)) (k+1)):=rfl
  rw [e,zc2]
  obtain ⟨a1,a2,a3⟩:=zn7 o s k 0 k (by omega) (Nat.zero_le _) (Nat.le_refl _) (fun i hi=>absurd hi (Nat.not_lt_zero _)) fun i h1 h2=>absurd h1 (by omega)
  obtain ⟨b',s'⟩:=ins o b (by omega) s a1 a2 a3
  exact bin f _ (k+1) (by omega) b' s'
theorem sort {N:Nat} (hN:1<=N):B (run lt (kas_sort N)) N N/\Srt lt (run lt (kas_sort N)) N:=by
 unfold kas_sort; rw [zc2]
 have g0:∀ k,k<N->g (List.toArray (List.range N)) k=k:=fun k hk=>by
  rw [g_eq]; simp [hk]
 obtain ⟨m,p',e,h1,h2,b,s⟩:=count o hN (p:=List.toArray (List.range N)) ⟨by simp,fun k hk=>by rw [g0 k (by omega)]; exact hk,fun k h1 h2=>g0 k h2⟩
 rw [e]
 show B (run lt (if m<N then kas_bin (N-max m 1) p' (max m 1) else KasT.ret p')) N N/\Srt lt (run lt (if m<N then kas_bin (N-max m 1) p' (max m 1) else KasT.ret p')) N
 by_cases hm:m<N
 ·rw [if_pos hm,Nat.max_eq_left h1]
  exact bin o _ _ _ (by omega) b s
 ·rw [if_neg hm]
  have e:m=N:=by omega
  subst e; exact ⟨b,s⟩
end
def Ok (lt:Nat->Nat->Bool) (N:Nat) {α:Type}:KasT α->Prop
 | .ret _=>True
 | .ask i j k=>i<N/\j<N/\Ok lt N (k (lt i j))
theorem Ok.bind {lt:Nat->Nat->Bool} {N:Nat} {α β:Type} {f:α->KasT β}:∀ {t:KasT α},Ok lt N t->Ok lt N (f (run lt t))->Ok lt N (t.bind f)
 | .ret _,_,h=>h
 | .ask i j k,⟨h1,h2,h3⟩,h=>⟨h1,h2,Ok.bind (t:=k (lt i j)) h3 h⟩
theorem B.lt {p:Array Nat} {N n k:Nat} (b:B p N n) (hn:n<=N) (hk:k<N):g p k<N:=by
 by_cases h:k<n
 ·have:=b.low k h; omega
 ·rw [b.high k (by omega) hk]; exact hk
section
variable {lt:Nat->Nat->Bool} (o:Ord lt)
include o
theorem zmp {p:Array Nat} {N:Nat} {n0:Nat} (b:B p N n0) (h0:n0<=N):∀ (f n:Nat),n+f=N->Ok lt N (kas_asc p f n)
 | 0,_,_=>trivial
 | f+1,n,h=>⟨b.lt h0 (k:=n) (by omega),b.lt h0 (k:=n-1) (by omega),by
  show Ok lt N (if lt (g p n) (g p (n-1))=true then KasT.ret n else kas_asc p f (n+1))
  split
  ·trivial
  ·exact zmp b h0 f (n+1) (by omega)⟩
theorem zhe {N:Nat}:∀ (f:Nat) (p:Array Nat) (n q:Nat),n+f=N->De lt p N n q->Ok lt N (kas_desc f p n q)
 | 0,_,_,_,_,_=>trivial
 | f+1,p,n,q,h,d=>⟨d.b.lt d.le (k:=n) (by omega),d.b.lt d.le (k:=n-1) (by omega),by
  show Ok lt N (if lt (g p n) (g p (n-1))=true then (if q > 0 then kas_desc f (kas_rev p (n-(q+1)) n) (n+1) 0 else kas_desc f p (n+1) 0)
   else KasT.ask (p.getD (n-1) 0) (p.getD n 0) fun c=>if c=true then .ret (p,n,q) else kas_desc f p (n+1) (q+1))
  have hn:n<N:=by omega
  have hq:=d.q1
  cases c:lt (g p n) (g p (n-1)) with
  | true =>
   rw [if_pos rfl]
   by_cases hq0:q > 0
   ·rw [if_pos hq0]
    refine zhe f _ (n+1) 0 (by omega) (De.next o (d.b.mirror (Nat.le_refl _) d.le) hn (by omega) (De.turned o d) fun i hi=>?_)
    have hs:n<=p.size:=by rw [d.b.size]; exact d.le
    rw [zZ hs,zZ hs,if_neg (show ¬ (n-(q+1)<=n/\n<n) by omega)]
    split
    ·exact De.st o d c _ (by omega)
    ·exact De.st o d c _ hi
   ·rw [if_neg hq0]
    have e0:q=0:=by omega
    subst e0
    exact zhe f _ (n+1) 0 (by omega) (De.next o d.b hn (by omega) (De.fal0 o d) (De.st o d c))
  | false =>
   rw [if_neg (by decide)]
   refine ⟨d.b.lt d.le (k:=n-1) (by omega),d.b.lt d.le (k:=n) (by omega),?_⟩
   show Ok lt N (if lt (g p (n-1)) (g p n)=true then KasT.ret (p,n,q) else kas_desc f p (n+1) (q+1))
   cases c2:lt (g p (n-1)) (g p n) with
   | true=>rw [if_pos rfl]; trivial
   | false =>
    rw [if_neg (by decide)]
    have hb:n+1-(q+1+1)=n-(q+1):=by omega
    have gn:g p n=n:=d.b.high n (Nat.le_refl _) hn
    refine zhe f _ (n+1) (q+1) (by omega) ⟨d.b.succ hn,hn,by omega,fun i j h1 h2 h3=>?_,fun i j h1 h2 h3=>?_,fun i j h1 h2=>?_⟩
    ·rw [hb] at h1
     by_cases ej:j=n
     ·subst ej
      have lo:g p i<g p j:=by rw [gn]; exact d.b.low i h2
      by_cases ei:i=j-1
      ·subst ei; exact ⟨.inr ⟨c,lo⟩,c2⟩
      ·obtain ⟨u1,u2⟩:=d.blk i (j-1) h1 (by omega) (by omega)
       exact ⟨.inr ⟨o.tr _ _ _ (L.le o u1) c,lo⟩,o.tr _ _ _ c2 u2⟩
     ·exact d.blk i j h1 h2 (by omega)
    ·rw [hb] at h1 h2
     by_cases ej:j=n
     ·subst ej
      exact zq3 o c2 (d.str i (j-1) h1 (by omega) (by omega))
     ·exact d.str i j h1 h2 (by omega)
    ·rw [hb] at h2
     exact d.old i j h1 h2⟩
theorem zkf {p:Array Nat} {N n:Nat} (b:B p N n) (hn:n<=N):Ok lt N (kas_tail3 n N p):=by
 unfold kas_tail3
 exact Ok.bind (zmp o (b.mirror (Nat.le_refl _) hn) hn _ n (by omega)) trivial
theorem zfy {p:Array Nat} {N n:Nat} (hn:n<N) (d:De lt p N (n+1) 0):Ok lt N (kas_descPart n N p):=by
 unfold kas_descPart
 refine Ok.bind (zhe o _ p (n+1) 0 (by omega) d) ?_
 obtain ⟨p',n',q',e,d'⟩:=ztv o (N:=N) (N-(n+1)) p (n+1) 0 (by omega) d
 rw [e]
 show Ok lt N (if q' > 0 then kas_tail3 n' N (kas_rev p' (n'-(q'+1)) n') else kas_tail3 n' N p')
 split
 ·exact zkf o (d'.b.mirror (Nat.le_refl _) d'.le) d'.le
 ·exact zkf o d'.b d'.le
theorem zol {p:Array Nat} {N:Nat} (hN:1<=N) (b:B p N 1):Ok lt N (kas_count N p):=by
 unfold kas_count
 refine Ok.bind (zmp o b hN _ 1 (by omega)) ?_
 obtain ⟨a1,a2,a3,a4,a5⟩:=asc o (p:=p) (N:=N) (N-1) 1 (by omega) (Nat.le_refl _) b (fun i j hij hj=>by omega)
 generalize run lt (kas_asc p (N-1) 1)=n at a1 a2 a3 a4 a5 ⊢
 by_cases e:n=N
 ·rw [if_pos (by rw [e]; exact beq_self_eq_true _)]
  trivial
 ·have hn:n<N:=by omega
  have hs:n<=p.size:=by rw [a3.size]; exact a2
  rw [if_neg (by simpa using e)]
  by_cases h1:n > 1
  ·rw [if_pos h1]
   refine ⟨a3.lt a2 (k:=0) (by omega),a3.lt a2 (k:=n-1) (by omega),?_⟩
   show Ok lt N (if lt (g p 0) (g p (n-1))=true then KasT.ret (n,p) else kas_descPart n N (kas_rev p 0 n))
   cases c:lt (g p 0) (g p (n-1)) with
   | true=>rw [if_pos rfl]; trivial
   | false =>
    rw [if_neg (by decide)]
    refine zfy o hn (De.next o (a3.mirror (Nat.le_refl _) a2) hn a1 (fun i j hij hj=>?_) fun i hi=>?_)
    ·rw [zZ hs,zZ hs,if_pos ⟨by omega,hj⟩,if_pos ⟨by omega,by omega⟩]
     exact a4 _ _ (by omega) (by omega)
    ·rw [zZ hs,zZ hs,if_neg (show ¬ (0<=n/\n<n) by omega),if_pos ⟨by omega,hi⟩]
     refine zmu o (a5 hn) ?_; generalize hk:0+n-1-i=k
     have hkn:k<n:=by omega
     by_cases k0:k=0
     ·subst k0; exact c
     ·exact o.tr _ _ _ c (L.le o (a4 0 k (by omega) hkn))
  ·rw [if_neg h1]
   have e1:n=1:=by omega
   subst e1
   exact zfy o hn (De.next o a3 hn (Nat.le_refl _) (fun i j h1 h2=>by omega) fun i hi=>by
    have e0:i=0:=by omega
    subst e0; exact a5 hn)
theorem zg9 {p:Array Nat} {N k:Nat} (b:B p N k) (hk:k<N):∀ (f l r:Nat),r<=k->Ok lt N (kas_place p k f l r)
 | 0,_,_,_=>trivial
 | f+1,l,r,h=>by
  show Ok lt N (if l >= r then KasT.ret l else KasT.ask (p.getD k 0) (p.getD ((l+r) / 2) 0) fun c=>if c=true then kas_place p k f l ((l+r) / 2) else kas_place p k f ((l+r) / 2+1) r)
  by_cases hlr:l >= r
  ·rw [if_pos hlr]; trivial
  ·rw [if_neg hlr]
   refine ⟨b.lt (by omega) (k:=k) hk,b.lt (by omega) (k:=(l+r) / 2) (by omega),?_⟩
   show Ok lt N (if lt (g p k) (g p ((l+r) / 2))=true then kas_place p k f l ((l+r) / 2) else kas_place p k f ((l+r) / 2+1) r)
   split
   ·exact zg9 b hk f _ _ (by omega)
   ·exact zg9 b hk f _ _ h
theorem zpo {N:Nat}:∀ (f:Nat) (p:Array Nat) (k:Nat),k+f=N->B p N k->Srt lt p k->Ok lt N (kas_bin f p k)
 | 0,_,_,_,_,_=>trivial
 | f+1,p,k,h,b,s=>by
  refine Ok.bind (zg9 o b (by omega) k 0 k (Nat.le_refl _)) ?_
  obtain ⟨a1,a2,a3⟩:=zn7 o s k 0 k (by omega) (Nat.zero_le _) (Nat.le_refl _) (fun i hi=>absurd hi (Nat.not_lt_zero _)) fun i h1 h2=>absurd h1 (by omega)
  obtain ⟨b',s'⟩:=ins o b (by omega) s a1 a2 a3
  exact zpo f _ (k+1) (by omega) b' s'
theorem ok_sort {N:Nat} (hN:1<=N):Ok lt N (kas_sort N):=by
 unfold kas_sort
 have g0:∀ k,k<N->g (List.toArray (List.range N)) k=k:=fun k hk=>by
  rw [g_eq]; simp [hk]
 have b0:B (List.toArray (List.range N)) N 1:=⟨by simp,fun k hk=>by rw [g0 k (by omega)]; exact hk,fun k h1 h2=>g0 k h2⟩
 refine Ok.bind (zol o hN b0) ?_; obtain ⟨m,p',e,h1,h2,b,s⟩:=count o hN b0; rw [e]
 show Ok lt N (if m<N then kas_bin (N-max m 1) p' (max m 1) else KasT.ret p')
 split
 ·rw [Nat.max_eq_left h1]
  exact zpo o _ _ _ (by omega) b s
 ·trivial
end
theorem wp_of {lt:Nat->Nat->Bool} {N:Nat} {J:Shared->Prop} {cmp:Nat->Nat->(Bool->Shared->Prop)->Shared->Prop} (hc:∀ i j C s,i<N->j<N->J s->(∀ s',J s'->C (lt i j) s')->cmp i j C s) {α:Type} {Q:α->Shared->Prop} :
  ∀ (t:KasT α) (s:Shared),Ok lt N t->J s->(∀ s',J s'->Q (run lt t) s')->t.kasWp cmp Q s
 | .ret _,s,_,hj,h=>h s hj
 | .ask i j k,s,⟨h1,h2,h3⟩,hj,h=>hc i j _ s h1 h2 hj fun s' hj'=>wp_of hc (k (lt i j)) s' h3 hj' h
end So
namespace So
open PySem PySem.W PyProof.Rows
section
variable {prog:Program} {w:World} {A:Around} {E:Value->Shared->Prop} {s:Shared} {a kS:Addr} {vs ks:List Value} {κ:SortKind}
def Fin3 (a kS:Addr) (ks:List Value) (e e1:Nat) (out:List Value) (C:Shared->Prop) (s:Shared):Prop :=
 s.heap.get? kS=some (seqObj "list" ks.toArray e)/\s.heap.get? a=some (seqObj "list" #[] e1) /\
  ∀ h' c c2,(∀ b o,b≠kS->b≠a->s.heap.get? b=some o->h'.get? b=some o)->h'.objs.size=s.heap.objs.size->h'.get? kS=some (seqObj "list" #[] c)->h'.get? a=some (seqObj "list" out.toArray c2)->C { s with heap:=h' }
theorem Fin3.mono {e e1:Nat} {out:List Value} {C C':Shared->Prop} (h:Fin3 a kS ks e e1 out C s) (hc:∀ s,C s->C' s):Fin3 a kS ks e e1 out C' s :=
 ⟨h.1,h.2.1,fun h' c c2 k z x y=>hc _ (h.2.2 h' c c2 k z x y)⟩
theorem zjY {st:SortSt} {e e1:Nat} {out:List Value} {P:PySem.Fin->Shared->Prop} (ne:kS≠a) (hout:(arrOf st).map (·.2)=List.toArray out) (hz:out.length<64) (hkz:ks.length<64) (hf:failedOf st=none)
  (h:Fin3 a kS ks e e1 out (fun s'=>P (.done (.ret .none)) s') s):wpAny (model prog w) A (ksk_tail a false e1 (.ref kS) st) P E s:=by
 obtain ⟨hk,ha,k⟩:=h
 have s1:=Heap.SameBut.update s.heap kS (Obj.mapSeq fun _=>(#[]:Array Value))
 obtain ⟨ck,hck⟩:∃ ck,(s.heap.update kS (Obj.mapSeq fun _=>(#[]:Array Value))).get? kS=some (seqObj "list" #[] ck):=⟨_,get?_update_seq hk fun _=>#[]⟩
 have ha1:(s.heap.update kS (Obj.mapSeq fun _=>(#[]:Array Value))).get? a=some (seqObj "list" #[] e1):=(s1.2 a (Ne.symm ne)).trans ha
 have s2:=Heap.SameBut.update (s.heap.update kS (Obj.mapSeq fun _=>(#[]:Array Value))) a (Obj.mapSeq fun _=>List.toArray out)
 obtain ⟨c2,hc2⟩:∃ c2,((s.heap.update kS (Obj.mapSeq fun _=>(#[]:Array Value))).update a (Obj.mapSeq fun _=>List.toArray out)).get? a=some (seqObj "list" (List.toArray out) c2):=⟨_,get?_update_seq ha1 fun _=>List.toArray out⟩
 unfold ksk_tail
 try dsimp only
 rw [hout]
 refine wpAny_bind (listUpdate_at hk rfl ?_ (by rw [List.size_toArray,sizeLine_eq]; omega) (Nat.zero_le _))
 refine wpAny_bind (wpAny_letGo ?_); refine wpAny_bind (seqEpoch_at ha1 rfl ?_)
 refine wpAny_bind (listUpdate_at ha1 rfl ?_ (Nat.zero_le _) (by simp only [Bool.false_eq_true,if_false]; rw [List.size_toArray,sizeLine_eq]; omega))
 rw [hf]; simp only [bne_self_eq_false,Bool.false_eq_true,if_false]
 refine wpAny_pure (k _ ck c2 (fun b o h1 h2 q=>(s2.2 b h2).trans ((s1.2 b h1).trans q)) (by rw [Heap.size_update,Heap.size_update]) ((s2.2 kS ne).trans hck) hc2)
theorem srt_end {e e1:Nat} {P:PySem.Fin->Shared->Prop} (ne:kS≠a) (hl:ks.length=vs.length) (h2:2<=vs.length) (h64:vs.length<64)
  (h:wpAny (model prog w) A (keyKind' (List.toArray ks)) (fun κ s'=>(kas_sort vs.length).kasWp (kas_ask prog w A κ ks) (fun p s''=>Fin3 a kS ks e e1 (p.toList.map fun i=>vs.getD i Value.none) (fun s3=>P (.done (.ret .none)) s3) s'') s') (fun _ _=>False) s) :
  wpAny (model prog w) A (ksk_end a false vs.toArray e1 (.ref kS) (List.toArray ks)) P E s:=by
 have hn2:¬ vs.toArray.size<2:=by rw [List.size_toArray]; omega
 unfold ksk_end
 try dsimp only
 simp only [Bool.false_eq_true,if_false]; rw [if_neg hn2,if_neg hn2]
 refine wpAny_bind (wpAny_mono h (fun κ s0 hk=>?_) fun _ _ x=>x.elim)
 refine wpAny_bind (wpAny_mono (kat_run (Q:=fun st' s'=>∃ p:Array Nat,p.size=vs.length/\arrOf st'=p.map (kas_item ((List.toArray ks).zip (List.toArray vs)))/\failedOf st'=none /\
   Fin3 a kS ks e e1 (p.toList.map fun i=>vs.getD i Value.none) (fun s3=>P (.done (.ret .none)) s3) s')
  hl h2 h64 (fun p' st' s' a1 a2 a3 a4=>⟨p',a1,a2,a3,a4⟩) hk) ?_ fun _ _ x=>x)
 rintro ⟨⟨⟩,st'⟩ s' ⟨p,hp,har,hf,fin⟩
 try dsimp only
 exact zjY ne (kat_snds hl har) (by rw [List.length_map,Array.length_toList,hp]; exact h64) (by omega) hf fin
theorem srt_end1 {e e1:Nat} {P:PySem.Fin->Shared->Prop} (ne:kS≠a) (hl:ks.length=vs.length) (h2:vs.length<2)
  (h:Fin3 a kS ks e e1 vs (fun s3=>P (.done (.ret .none)) s3) s):wpAny (model prog w) A (ksk_end a false vs.toArray e1 (.ref kS) (List.toArray ks)) P E s:=by
 have hn2:vs.toArray.size<2:=by rw [List.size_toArray]; omega
 unfold ksk_end
 try dsimp only
 simp only [Bool.false_eq_true,if_false]; rw [if_pos hn2,if_pos hn2]; refine wpAny_bind (wpAny_pure ?_); refine wpAny_bind (m:=StateT.run (pure ()) _) (wpAny_pure ?_)
 try dsimp only
 refine zjY ne ?_ (by omega) (by omega) rfl h
 apply Array.toList_inj.mp
 show (((List.toArray ks).zip (List.toArray vs)).map (·.2)).toList=_
 rw [Array.toList_map,ksk_zip]
 clear h hn2
 cases vs with
 | nil =>
  cases ks with
  | nil=>rfl
  | cons k r=>simp at hl
 | cons v r =>
  cases r with
  | cons v2 r=>exact absurd h2 (by simp)
  | nil =>
   cases ks with
   | nil=>simp at hl
   | cons k r =>
    cases r with
    | nil=>rfl
    | cons k2 r=>simp at hl
theorem zjZ {f:Value} {n:Nat} {body:Value->PUnit->Sem (ForInStep PUnit)} (J:List Value->Nat->Shared->Prop) (hn:n<64) (all:List Value) (hall:all.length=n)
  (hb:∀ x ks e (s:Shared) (C:Value->Nat->Shared->Prop),List.length ks<64->wpAny (model prog w) A (call f [x]) (fun k s'=>s'.heap.get? kS=some (seqObj "list" ks.toArray e)/\∀ c,(s'.heap.update kS (Obj.mapSeq (·.push k))).get? kS=some (seqObj "list" (List.toArray (ks ++ [k])) c)->C k c { s' with heap:=s'.heap.update kS (Obj.mapSeq (·.push k)) }) (fun _ _=>False) s ->
   wpAny (model prog w) A (body x ⟨⟩) (fun r s'=>r=.yield ⟨⟩/\∃ k c,C k c s') E s)
  (step:∀ ks e s x,all[ks.length]?=some x->J ks e s->wpAny (model prog w) A (call f [x]) (fun k s'=>s'.heap.get? kS=some (seqObj "list" ks.toArray e)/\∀ c,(s'.heap.update kS (Obj.mapSeq (·.push k))).get? kS=some (seqObj "list" (List.toArray (ks ++ [k])) c)->J (ks ++ [k]) c { s' with heap:=s'.heap.update kS (Obj.mapSeq (·.push k)) }) (fun _ _=>False) s) :
  ∀ (r ks:List Value) (e:Nat) (s:Shared),all.drop ks.length=r->ks.length<=n->J ks e s ->
   wpAny (model prog w) A (forIn r PUnit.unit body) (fun _ s'=>∃ ks e,ks.length=n/\J ks e s') E s
 | [],ks,e,s,hl,hle,h=>by
  rw [List.forIn_nil]
  have:all.length<=ks.length:=List.drop_eq_nil_iff.mp hl
  exact wpAny_pure ⟨ks,e,by omega,h⟩
 | x :: r,ks,e,s,hl,hle,h=>by
  rw [List.forIn_cons]
  have hx:all[ks.length]?=some x:=by
   have:=congrArg (fun l=>l[0]?) hl
   simpa using this
  have hlt:ks.length<n:=by rw [<- hall]; exact (List.getElem?_eq_some_iff.mp hx).1
  refine wpAny_bind (wpAny_mono (hb x ks e s (fun k c s'=>J (ks ++ [k]) c s') (by omega) (step ks e s x hx h)) (fun q s' hq=>?_) fun _ _ x=>x)
  obtain ⟨rfl,k,c,h2⟩:=hq
  show wpAny (model prog w) A (forIn r PUnit.unit body) _ E s'
  refine zjZ J hn all hall hb step r (ks ++ [k]) c s' ?_ (by rw [List.length_append,List.length_singleton]; omega) h2
  rw [List.length_append,List.length_singleton,<- List.drop_drop,hl]; rfl
theorem srt_rest {f:Value} {e1:Nat} {P:PySem.Fin->Shared->Prop} (J:List Value->Nat->Shared->Prop) (h64:vs.length<64) (hJ:∀ ks e s,J ks e s->s.heap.get? kS=some (seqObj "list" ks.toArray e))
  (step:∀ ks e s x,vs[ks.length]?=some x->J ks e s->wpAny (model prog w) A (call f [x]) (fun k s'=>s'.heap.get? kS=some (seqObj "list" ks.toArray e)/\∀ c,(s'.heap.update kS (Obj.mapSeq (·.push k))).get? kS=some (seqObj "list" (List.toArray (ks ++ [k])) c)->J (ks ++ [k]) c { s' with heap:=s'.heap.update kS (Obj.mapSeq (·.push k)) }) (fun _ _=>False) s)
  (fin:∀ ks e s,ks.length=vs.length->J ks e s->wpAny (model prog w) A (ksk_end a false vs.toArray e1 (.ref kS) (List.toArray ks)) P E s) (h0:J [] 0 s) :
  wpAny (model prog w) A (ksk_rest a f false vs.toArray e1 (.ref kS)) P E s:=by
 unfold ksk_rest; refine wpAny_bind (wpAny_rule ?_)
 first
  | rw [List.forIn_toArray]
  | (rw [<- Array.forIn_toList]; simp only [List.toList_toArray])
  | rw [<- Array.forIn_toList]
 refine wpAny_bind (wpAny_mono (zjZ (f:=f) (kS:=kS) J h64 vs rfl (fun x ks e s' C hz hx=>?_) step vs [] 0 s rfl (Nat.zero_le _) h0) (fun _ s' hd=>?_) fun _ _ x=>x)
 ·refine wpAny_bind (wpAny_attempt (wpAny_mono hx (fun k s'' hk=>?_) fun _ _ hF=>hF.elim))
  obtain ⟨nk,c⟩:=hk
  have ea:(List.toArray ks).push k=List.toArray (ks ++ [k]):=by simp
  obtain ⟨c2,hc2⟩:∃ c2,(s''.heap.update kS (Obj.mapSeq (·.push k))).get? kS=some (seqObj "list" (List.toArray (ks ++ [k])) c2):=⟨_,by rw [<- ea]; exact get?_update_seq nk (·.push k)⟩
  try dsimp only
  refine wpAny_bind (listUpdate_at nk rfl ?_ (by rw [List.size_toArray,sizeLine_eq]; omega) (Nat.le_trans (Nat.le_of_eq (Array.size_push ..)) (by rw [List.size_toArray,sizeLine_eq]; omega)))
  exact wpAny_pure ⟨rfl,k,c2,c c2 hc2⟩
 ·obtain ⟨ks,e,hl,fj⟩:=hd
  try dsimp only
  refine wpAny_bind (listItems_at (hJ _ _ _ fj) rfl ?_); exact fin ks e s' hl fj
theorem srt_tree {f:Value} {n:Nat} {P:PySem.Fin->Shared->Prop} (ho:s.heap.get? a=some (seqObj "list" vs.toArray n)) (h64:vs.length<64)
  (h:∀ e1 h',(∀ b o,b≠a->s.heap.get? b=some o->h'.get? b=some o)->h'.objs.size=s.heap.objs.size+2->h'.get? (s.heap.objs.size+1)=some (seqObj "list" #[] 0)->h'.get? a=some (seqObj "list" #[] e1) ->
   wpAny (model prog w) A (ksk_rest a f false vs.toArray e1 (.ref (s.heap.objs.size+1))) P E { s with heap:=h' }) :
  wpAny (model prog w) A (ksk_tree a f false) P E s:=by
 have ha:a<s.heap.objs.size:=Heap.lt_size ho
 have s1:=Heap.SameBut.update s.heap a (Obj.mapSeq fun _=>(#[]:Array Value))
 obtain ⟨e1,ho1⟩:∃ e1,(s.heap.update a (Obj.mapSeq fun _=>(#[]:Array Value))).get? a=some (seqObj "list" #[] e1):=⟨_,get?_update_seq ho fun _=>#[]⟩
 have hkS:((s.heap.update a (Obj.mapSeq fun _=>(#[]:Array Value))).push (seqObj "tuple" vs.toArray 0)).objs.size=s.heap.objs.size+1:=by rw [size_push',Heap.size_update]
 unfold ksk_tree; refine wpAny_bind (listItems_at ho rfl ?_)
 refine wpAny_bind (listUpdate_at ho rfl ?_ (by rw [List.size_toArray,sizeLine_eq]; omega) (Nat.zero_le _))
 refine wpAny_bind (seqEpoch_at ho1 rfl ?_)
 refine wpAny_bind (wpAny_newTuple ?_ (by show vs.length<=_; rw [sizeLine_eq]; omega))
 refine wpAny_bind (wpAny_newList ?_ (Nat.zero_le _)); refine wpAny_holding ?_
 have h':=h e1 (((s.heap.update a (Obj.mapSeq fun _=>(#[]:Array Value))).push (seqObj "tuple" vs.toArray 0)).push (seqObj "list" #[] 0)) (fun b o hb q=>Heap.get?_push_of_some _ (Heap.get?_push_of_some _ ((s1.2 b hb).trans q)))
  (by rw [size_push',hkS]) (by rw [<- hkS]; exact Heap.get?_push_size _ rfl) (Heap.get?_push_of_some _ (Heap.get?_push_of_some _ ho1))
 rw [<- hkS] at h'; exact h'
end
end So
namespace L2
open PySem PySem.Spec PyProof.Rows PySem.W
section
variable {X:Cx} {pins:List (Addr × Obj)} {σ:St} {H:Hp} {s:Shared} {h':Heap}
theorem Inv.turnedOwn {t':Nat} {ch:List Addr} {p:Addr} {o:HO} (I:Inv X pins σ H s) (hch:∀ b ∈ ch,zhD X pins H b) (hp:p ∈ ch) (k:∀ b u,b ∉ ch->s.heap.get? b=some u->h'.get? b=some u) (new:zaP X.prog X.w (upd H p o) h' p o) :
  Inv X pins σ (upd H p o) { s with heap:=h',toks:=t' }:=by
 have fr:H p=none:=(hch p hp).1
 have sm:∀ b u,H b=some u->upd H p o b=some u:=fun b u e=>by rw [zq (zI e fr)]; exact e
 have nch:∀ b u,H b=some u->b ∉ ch:=fun b u e z=>by rw [(hch b z).1] at e; cases e
 refine I.step (g':=s.gens) (d':=s.drawn) (ch:=ch) (fun b hb=>?_) (fun b u _ _ hc e _=>k b u hc e) (fun b u _ _ hc e _=>⟨u.slots,k b u hc e⟩) (fun b u hc e n=>?_) (fun b u hc e=>⟨u,k b u hc e⟩) (fun b xs e=>sm _ _ e) (fun b ob u e=>sm _ _ e) (fun b ps e=>⟨#[],by rw [sm _ _ e]; simp⟩) (fun m hm=>?_) (fun b u e=>?_) I.bare
 ·obtain ⟨_,y1,_,y3,y4,y5⟩:=hch b hb
  exact ⟨y3,y1,y4,y5⟩
 ·rw [zq (fun z=>hc (by rw [z]; exact hp))]
  exact n
 ·obtain ⟨ob,es,ep,ho,r⟩:=hm
  exact ⟨ob,es,ep,k _ ob (fun z=>(hch _ z).2.1 rfl) ho,r⟩
 ·by_cases z:b=p
  ·subst z
   rw [zj] at e; cases e; exact new
  ·rw [zq z] at e
   refine (I.hok b u e).stay (fun c v hc q=>k c v ?_ q) (fun c q=>sm _ _ q) fun c xs q=>sm _ _ q
   rcases hc with rfl | hc
   ·exact nch _ u e
   ·exact nch c _ hc
theorem zp7 {A':Around} {k:Nat} {f:Addr} {fd:FuncData} {ps:List Str} {sp:Sp} {Q:VK} {us:List Value} {vs:List V} (F:FnOk X.prog X.w X.K X.mg X.base CX0 k f fd ps sp) (hr:Room k A') (hA:Env0 X.prog X.w X.K X.mg X.base A' X.stack s H) (hb:zbi X.K fd ps [])
  (I:Inv X pins σ H s) (r:zae vs us) (h:sp vs H Q E0):wpAny (model X.prog X.w) A' (call (.ref f) us) (EP X pins σ Q) (fun _ _=>False) s:=by
 have hl:(us ++ []).length=ps.length:=by rw [List.append_nil,<- r.length]; exact F.len _ _ _ _ h
 have hb':=hb s us I.kIn hl; rw [List.append_nil] at hb'
 refine wpAny_call (codeAny_mono (F.run A' X.stack s H ⟨us,[]⟩ us vs Q E0 hr hA hb' r h) fun r s' hq=>?_)
 cases r with
 | error e=>exact hq.elim
 | ok fl =>
  cases fl with
  | ret u=>exact I.after hq
  | next=>exact False.elim hq
  | brk=>exact False.elim hq
  | cont=>exact False.elim hq
def zrH (sp:Sp) (Fin:List V->Hp->Prop):List V->List V->Hp->Prop
 | [],ks,H=>Fin ks H
 | v :: r,ks,H=>sp [v] H (fun k H'=>zrH sp Fin r (ks ++ [k]) H') E0
def zlv (X:Cx) (ks:List V) (H:Hp) (lt:Nat->Nat->Bool):Prop:=∀ (A':Around) (pins:List (Addr × Obj)) (σ:St) (s:Shared) (kss:List Value),Inv X pins σ H s->zae ks kss->2<=ks.length ->
 wpAny (model X.prog X.w) A' (keyKind' kss.toArray) (fun κ s'=>Inv X pins σ H s'/\∀ (i j:Nat) (C:Bool->Shared->Prop) s'',i<ks.length->j<ks.length->Inv X pins σ H s''->(∀ s3,Inv X pins σ H s3->C (lt i j) s3)->kas_ask X.prog X.w A' κ kss i j C s'') (fun _ _=>False) s
def zeL (lt:Nat->Nat->Bool) (xs:List V):List V:=if xs.length<2 then xs else (So.run lt (kas_sort xs.length)).toList.map fun i=>xs.getD i .non
theorem ziA {xs:List V} {us:List Value} (r:zae xs us) (i:Nat) (hi:i<xs.length):zao (xs.getD i .non) (us.getD i Value.none):=by
 have hl:=r.length; obtain ⟨u,hu,ru⟩:=r.get (List.getElem?_eq_getElem hi); simp only [List.getD,List.getElem?_eq_getElem hi,Option.getD_some]; rw [hu]; exact ru
theorem zjQ {xs:List V} {us:List Value} (r:zae xs us):∀ (l:List Nat),(∀ i,i ∈ l->i<xs.length)->zae (l.map fun i=>xs.getD i .non) (l.map fun i=>us.getD i Value.none)
 | [],_=>.nil
 | i :: l,h=>.cons (ziA r i (h i (by simp))) (zjQ r l fun j hj=>h j (by simp [hj]))
theorem zgR {lt:Nat->Nat->Bool} (o:So.Ord lt) {n:Nat} (hn:1<=n):((So.run lt (kas_sort n)).toList.length=n)/\∀ i,i ∈ (So.run lt (kas_sort n)).toList->i<n:=by
 obtain ⟨b,_⟩:=So.sort o hn
 refine ⟨by rw [Array.length_toList]; exact b.size,fun i hi=>?_⟩
 obtain ⟨k,hk,e⟩:=List.getElem_of_mem hi
 have hk':k<(So.run lt (kas_sort n)).size:=by simpa using hk
 have:=b.low k (by rw [b.size] at hk'; exact hk')
 rw [So.g_eq] at this; simp only [Array.getElem_toList] at e; rw [Array.getElem?_eq_getElem hk',e] at this; exact this
theorem ziQ {f:Addr} {sp:Sp} {l:Addr} {xs:List V} {Q:VK} {E':Value->Shared->Prop}
  (hrun:∀ (pins':List (Addr × Obj)) (H':Hp) (s':Shared) (x:V) (u:Value) (Q':VK),Inv X pins' σ H' s'->zao x u->sp [x] H' Q' E0->wpAny (model X.prog X.w) X.A.in1.in1 (call (.ref f) [u]) (EP X pins' σ Q') (fun _ _=>False) s')
  (I:Inv X pins σ H s) (hl:SqL X.K H l xs) (h64:xs.length<64)
  (h:zrH sp (fun ks H'=>∃ lt,So.Ord lt/\zlv X ks H' lt/\∀ p,H' p=none->Q (.ref p) (upd H' p (.lst (zeL lt xs)))) xs [] H) :
  wpAny (model X.prog X.w) X.A (call (.builtin "sorted") [.ref l] [(Str.ofString "key",.ref f)]) (EP X pins σ Q) E' s:=by
 obtain ⟨vs,rv,pl,hz⟩:=I.list hl; have hlen:=rv.length
 have h64':vs.length<64:=by omega
 refine call_function_entry_kw kind_sorted plain_sorted entry_sorted (ksk_s1 _ _) ?_
 unfold Builtin.«sorted»
 refine wpAny_bind (m:=checkCount "sorted" 1 1 _) (wpAny_pure ?_)
 refine wpAny_bind (collect_list (zn6 pl) ?_ (by rw [sizeLine_eq]; omega))
 refine wpAny_bind (wpAny_newList ?_ (by rw [sizeLine_eq]; omega))
 have hsz:((s.heap.push (seqObj "list" #[] 0)).update s.heap.objs.size (Obj.mapSeq (· ++ vs.toArray))).objs.size=s.heap.objs.size+1:=by
  rw [Heap.size_update,size_push']
 have hoL:(((s.heap.push (seqObj "list" #[] 0)).update s.heap.objs.size (Obj.mapSeq (· ++ vs.toArray))).push (seqObj "list" vs.toArray 0)).get? (s.heap.objs.size+1)=some (seqObj "list" vs.toArray 0):=by
  rw [<- hsz]; exact Heap.get?_push_size _ rfl
 have hsz2:(((s.heap.push (seqObj "list" #[] 0)).update s.heap.objs.size (Obj.mapSeq (· ++ vs.toArray))).push (seqObj "list" vs.toArray 0)).objs.size=s.heap.objs.size+2:=by rw [size_push',hsz]
 have keep:∀ b o,s.heap.get? b=some o->(((s.heap.push (seqObj "list" #[] 0)).update s.heap.objs.size (Obj.mapSeq (· ++ vs.toArray))).push (seqObj "list" vs.toArray 0)).get? b=some o:=fun b o q=>by
  have hlt:b<s.heap.objs.size:=Heap.lt_size q
  rw [Heap.get?_push_ne _ _ _ (by rw [hsz]; exact Nat.ne_of_lt (Nat.lt_succ_of_lt hlt)),Heap.get?_update_ne _ _ _ _ (Nat.ne_of_lt hlt),Heap.get?_push_ne _ _ _ (Nat.ne_of_lt hlt)]
  exact q
 show wpAny _ _ _ _ _ { s with heap:=((s.heap.push (seqObj "list" #[] 0)).update s.heap.objs.size (Obj.mapSeq (· ++ vs.toArray))).push (seqObj "list" vs.toArray 0) }
 rw [hsz]; refine wpAny_bind (wpAny_holding (wpAny_call_entry_kw slot_list_sort ⟨_,hoL,rfl⟩ entry_list_sort ?body (ksk_l1 _ _)))
 case body =>
  show wpAny (model X.prog X.w) X.A.in1.in1 (Builtin.«list.sort» ⟨[.ref (s.heap.objs.size+1)],[(Str.ofString "key",.ref f)]⟩) _ _ _
  rw [ksk_t1]
  refine So.srt_tree (s:={ s with heap:=((s.heap.push (seqObj "list" #[] 0)).update s.heap.objs.size (Obj.mapSeq (· ++ vs.toArray))).push (seqObj "list" vs.toArray 0) }) hoL h64' fun e1 h' keep' size' hk0 ha0=>?_
  dsimp only at keep' size' hk0
  rw [hsz2] at size' hk0
  have hDk:s.heap.objs.size+2+1≠s.heap.objs.size+1:=by omega
  have hD0:s.heap.objs.size<=s.heap.objs.size+1:=by omega
  have hK0:s.heap.objs.size<=s.heap.objs.size+2+1:=by omega
  have fD:=I.fpOk (H':=H) hD0 (I.hok.fresh hD0); have fK:=I.fpOk (H':=H) hK0 (I.hok.fresh hK0); rw [hsz2]; generalize hkS:s.heap.objs.size+2+1=kS at hk0 hDk fK; generalize hDD:s.heap.objs.size+1=D at ha0 hDk fD
  have I0:Inv X pins σ H { s with heap:=h' }:=I.kept (t':=s.toks) fun b u q=>keep' b u (fun z=>absurd (Heap.lt_size q) (by rw [z]; exact Nat.not_lt.mpr (Nat.le_succ _))) (keep b u q)
  have pin2:∀ {H':Hp} {s':Shared} {ks:List Value} {e:Nat},Inv X pins σ H' s'->s'.heap.get? kS=some (seqObj "list" ks.toArray e)->s'.heap.get? D=some (seqObj "list" #[] e1)->H' kS=none->H' D=none->Inv X ((kS,seqObj "list" ks.toArray e) :: (D,seqObj "list" #[] e1) :: pins) σ H' s':=fun I' g1 g2 n1 n2 =>
   I'.pins_of fun p hp=>by
    rcases List.mem_cons.mp hp with rfl | hp
    ·exact ⟨g1,n1,fK.2.1,fK.2.2.1,fun v z=>by cases z⟩
    ·rcases List.mem_cons.mp hp with rfl | hp
     ·exact ⟨g2,n2,fD.2.1,fD.2.2.1,fun v z=>by cases z⟩
     ·exact I'.pin p (List.mem_append_right _ hp)
  have unpin:∀ {H':Hp} {s':Shared} {ks:List Value} {e:Nat},Inv X ((kS,seqObj "list" ks.toArray e) :: (D,seqObj "list" #[] e1) :: pins) σ H' s'->Inv X pins σ H' s'/\(s'.heap.get? kS=some (seqObj "list" ks.toArray e)/\H' kS=none)/\(s'.heap.get? D=some (seqObj "list" #[] e1)/\H' D=none):=fun I'=>by
   have p1:=I'.pin (kS,_) (List.mem_append_right _ (.head _)); have p2:=I'.pin (D,_) (List.mem_append_right _ (.tail _ (.head _)))
   exact ⟨I'.pins_of fun p hp=>I'.pin p (List.mem_append_right _ (.tail _ (.tail _ hp))),⟨p1.1,p1.2.1⟩,⟨p2.1,p2.2.1⟩⟩
  have fin3:∀ {H':Hp} {s':Shared} {ks:List Value} {e:Nat} {ys:List V} {out:List Value},Inv X ((kS,seqObj "list" ks.toArray e) :: (D,seqObj "list" #[] e1) :: pins) σ H' s'->zae ys out->ys.length<64->(∀ p,H' p=none->Q (.ref p) (upd H' p (.lst ys)))->So.Fin3 D kS ks e e1 out (EP X pins σ Q (.ref D)) s':=fun {H' s' ks e ys out} I' r hy hq=>by
   obtain ⟨I2,⟨g1,n1⟩,⟨g2,n2⟩⟩:=unpin I'
   refine ⟨g1,g2,fun h2 c c2 kp sz q1 q2=>⟨.ref D,upd H' D (.lst ys),?_,rfl,hq D n2⟩⟩
   refine I2.turnedOwn (t':=s'.toks) (ch:=[kS,D]) (fun b hb=>?_) (by simp) (fun b u hb e=>kp b u (fun z=>hb (by simp [z])) (fun z=>hb (by simp [z])) e) ⟨by rw [sizeLine_eq]; omega,out,c2,r,q2⟩
   simp at hb
   rcases hb with rfl | rfl
   ·exact ⟨n1,fK.2⟩
   ·exact ⟨n2,fD.2⟩
  refine So.srt_rest (J:=fun ks e s'=>∃ (kv:List V) (H':Hp),zae kv ks/\Inv X ((kS,seqObj "list" ks.toArray e) :: (D,seqObj "list" #[] e1) :: pins) σ H' s'/\zrH sp (fun ks H'=>∃ lt,So.Ord lt/\zlv X ks H' lt/\∀ p,H' p=none->Q (.ref p) (upd H' p (.lst (zeL lt xs)))) (xs.drop ks.length) kv H') h64' ?_ ?_ ?_ ?_
  ·rintro ks e s' ⟨kv,H',_,I',_⟩
   exact (unpin I').2.1.1
  ·rintro ks e s' x hx ⟨kv,H',rk,I',hk⟩
   have hlt:ks.length<xs.length:=by rw [hlen]; exact (List.getElem?_eq_some_iff.mp hx).1
   obtain ⟨x',hx',rx⟩:=rv.get (List.getElem?_eq_getElem hlt); rw [hx] at hx'; cases hx'; rw [List.drop_eq_getElem_cons hlt] at hk
   refine wpAny_mono (hrun _ _ _ _ _ _ I' rx hk) (fun kk s3 he=>?_) fun _ _ z=>z
   obtain ⟨v,H3,I3,r3,hk3⟩:=he
   obtain ⟨I4,⟨g1,n1⟩,⟨g2,n2⟩⟩:=unpin I3
   refine ⟨g1,fun c hc=>⟨kv ++ [v],H3,rk.append (.cons r3 .nil),?_,?_⟩⟩
   ·have sb:=Heap.SameBut.update s3.heap kS (Obj.mapSeq (·.push kk))
    have I5:Inv X pins σ H3 { s3 with heap:=s3.heap.update kS (Obj.mapSeq (·.push kk)) }:=I4.turned (t':=s3.toks) (it:=kS) (fun b o hb e=>(sb.2 b hb).trans e) n1 fK.2.1 fK.2.2.2.1 fK.2.2.2.2.1 fK.2.2.2.2.2
    exact pin2 I5 hc ((sb.2 D (fun z=>hDk z.symm)).trans g2) n1 n2
   ·rw [List.length_append,List.length_singleton]
    exact hk3
  ·rintro ks e s' hkl ⟨kv,H',rk,I',hk⟩
   have hkl2:kv.length=xs.length:=by rw [rk.length,hkl,hlen]
   rw [show xs.drop ks.length=[] from List.drop_eq_nil_of_le (by omega)] at hk
   obtain ⟨lt,od,cmp,hq⟩:=hk
   by_cases hn:vs.length<2
   ·refine So.srt_end1 hDk hkl hn ((fin3 (ys:=zeL lt xs) I' ?_ ?_ hq).mono fun s4 hq=>⟨_,rfl,wpAny_pure ⟨_,rfl,hq⟩⟩)
    ·unfold zeL
     rw [if_pos (by omega)]
     exact rv
    ·unfold zeL
     rw [if_pos (by omega)]
     exact h64
   ·have hN:1<=vs.length:=by omega
    have hsm:=zgR od hN
    refine So.srt_end (e:=e) hDk hkl (by omega) h64' (wpAny_mono (cmp X.A.in1.in1 _ σ s' ks I' rk (by omega)) (fun κ s3 hc=>?_) fun _ _ z=>z)
    obtain ⟨I3,hc⟩:=hc
    refine So.wp_of (lt:=lt) (N:=vs.length) (J:=fun s=>Inv X ((kS,seqObj "list" ks.toArray e) :: (D,seqObj "list" #[] e1) :: pins) σ H' s) (fun i j C s4 hi hj I4 hC=>hc i j C s4 (by omega) (by omega) I4 hC) (kas_sort vs.length) s3 (So.ok_sort od hN) I3 fun s4 I4=>?_
    refine (fin3 (ys:=zeL lt xs) I4 ?_ ?_ hq).mono fun s4 hq=>⟨_,rfl,wpAny_pure ⟨_,rfl,hq⟩⟩
    ·unfold zeL
     rw [if_neg (by omega),hlen]
     exact zjQ rv _ fun i hi=>by rw [hlen]; exact hsm.2 i hi
    ·unfold zeL
     rw [if_neg (by omega),List.length_map,hlen,hsm.1]
     exact h64'
  ·exact ⟨[],H,.nil,pin2 I0 hk0 ha0 fK.1 fD.1,h⟩
theorem ziR {k:Nat} {f:Addr} {fd:FuncData} {ps:List Str} {sp:Sp} {l:Addr} {xs:List V} {Q:VK} {E':Value->Shared->Prop} (F:FnOk X.prog X.w X.K X.mg X.base CX0 k f fd ps sp) (hr:Room (k+2) X.A) (hb:zbi X.K fd ps []) (I:Inv X pins σ H s) (hl:SqL X.K H l xs) (h64:xs.length<64)
  (h:zrH sp (fun ks H'=>∃ lt,So.Ord lt/\zlv X ks H' lt/\∀ p,H' p=none->Q (.ref p) (upd H' p (.lst (zeL lt xs)))) xs [] H) :
  wpAny (model X.prog X.w) X.A (call (.builtin "sorted") [.ref l] [(Str.ofString "key",.ref f)]) (EP X pins σ Q) E' s :=
 ziQ (fun _ _ _ _ _ _ I' rx hk=>zp7 F hr.in1.in1 I'.env0.in1.in1 hb I' (.cons rx .nil) hk) I hl h64 h
end
end L2
namespace L2
open PySem PySem.Spec PyProof.Rows PySem.W
section
variable {X:Cx}
def ltI (is:List Int):Nat->Nat->Bool:=fun i j=>decide (is.getD i 0<is.getD j 0)
theorem zu0 (is:List Int):So.Ord (ltI is):=⟨fun a b h=>by
  unfold ltI at h ⊢
  simp at h ⊢
  omega,fun a b c h1 h2=>by
  unfold ltI at h1 h2 ⊢
  simp at h1 h2 ⊢
  omega⟩
theorem zkq:∀ {is:List Int} {us:List Value},zae (is.map V.int) us->IntsAre us is
 | [],_,.nil=>.nil
 | i :: is,_,.cons r t=>by
  obtain ⟨tk,rfl⟩:=r; exact .cons i tk (zkq t)
theorem zvw (is:List Int) {H:Hp}:zlv X (is.map V.int) H (ltI is):=by
 intro A' pins σ s kss I r h2; rw [List.length_map] at h2; have hi:=zkq r
 have hl:kss.length=is.length:=by have:=r.length; simpa using this.symm
 rw [ksk_kind (keys:=kss.toArray) (kz:=is) (by simpa using hi) (by rw [List.size_toArray]; omega)]
 refine wpAny_pure ⟨I,fun i j C s'' h1 h2 I2 hC=>?_⟩
 rw [List.length_map] at h1 h2; unfold kas_ask
 have g:∀ i,i<is.length->∃ t,kss.getD i Value.none=.int (is.getD i 0) t:=fun i h=>by
  have:=ziA r i (by rw [List.length_map]; exact h)
  rw [show (is.map V.int).getD i .non=V.int (is.getD i 0) by simp [List.getD,List.getElem?_map,List.getElem?_eq_getElem h]] at this
  exact this
 obtain ⟨t1,e1⟩:=g i h1; obtain ⟨t2,e2⟩:=g j h2; rw [e1,e2]; exact kat_lt_int (hC _ I2)
def ltP (ps:List (Int × List Nat)):Nat->Nat->Bool:=fun i j=>decide ((ps.getD i (0,[])).1<(ps.getD j (0,[])).1\/((ps.getD i (0,[])).1=(ps.getD j (0,[])).1/\(ps.getD i (0,[])).2<(ps.getD j (0,[])).2))
theorem zh6 (ps:List (Int × List Nat)):So.Ord (ltP ps):=⟨fun a b h=>by
  unfold ltP at h ⊢
  simp only [decide_eq_true_eq,decide_eq_false_iff_not] at h ⊢; generalize ps.getD a (0,[])=x at h ⊢; generalize ps.getD b (0,[])=y at h ⊢
  rintro (h' | ⟨h',h''⟩)
  ·rcases h with h | ⟨h,_⟩ <;> omega
  ·rcases h with h | ⟨_,h⟩
   ·omega
   ·exact List.lt_irrefl _ (List.lt_trans h h''),fun a b c h1 h2=>by
  unfold ltP at h1 h2 ⊢
  simp only [decide_eq_false_iff_not,not_or,not_and] at h1 h2 ⊢; generalize ps.getD a (0,[])=x at h1 h2 ⊢; generalize ps.getD b (0,[])=y at h1 h2 ⊢; generalize ps.getD c (0,[])=z at h1 h2 ⊢
  refine ⟨by omega,fun e=>?_⟩
  have e1:y.1=x.1:=by omega
  have e2:z.1=y.1:=by omega
  have q1:=h1.2 e1; have q2:=h2.2 e2; intro q; rw [List.not_lt] at q1 q2; exact absurd q (List.not_lt.mpr (List.le_trans q1 q2))⟩
def zrI (H:Hp):List Addr->List (Int × List Nat)->Prop:=Paired fun a p=>H a=some (.tup [.int p.1,.str (st p.2)])
theorem zjC {s:Shared} {pins:List (Addr × Obj)} {σ:St} {H:Hp} (I:Inv X pins σ H s) {a:Addr} {p:Int × List Nat} (h:H a=some (.tup [.int p.1,.str (st p.2)])) :
  ∃ o n t1 t2,s.heap.get? a=some o/\o.cls=.type "tuple"/\o.data=.seq (List.toArray [Value.int p.1 t1,Value.str (st p.2) t2]) n:=by
 obtain ⟨its,r,⟨o,e,c,n,d⟩,_⟩:=I.tuple (SqT.of h)
 obtain ⟨u,w',rfl,r1,r2⟩:=znx r; obtain ⟨t1,rfl⟩:=r1; obtain ⟨t2,rfl⟩:=r2; exact ⟨o,n,t1,t2,e,c,d⟩
theorem ztc {s:Shared} {pins:List (Addr × Obj)} {σ:St} {H:Hp} (I:Inv X pins σ H s):∀ {as:List Addr} {ps:List (Int × List Nat)},zrI H as ps->∃ fs:List Value,fs.length=as.length/\KatTups s.heap (as.map Value.ref) fs/\∀ v,v ∈ fs->∃ i t,v=Value.int i t
 | [],[],_=>⟨[],rfl,trivial,fun _ z=>by simp at z⟩
 | a :: as,p :: ps,.cons h t=>by
  obtain ⟨fs,hl,kt,hf⟩:=ztc I t; obtain ⟨o,n,t1,t2,e,c,d⟩:=zjC I h
  refine ⟨.int p.1 t1 :: fs,by simp [hl],KatTups.cons e c d rfl kt,fun v hv=>?_⟩
  rcases List.mem_cons.mp hv with rfl | hv
  ·exact ⟨_,_,rfl⟩
  ·exact hf v hv
theorem zj2:∀ {as:List Addr} {us:List Value},zae (as.map V.ref) us->us=as.map Value.ref
 | [],_,.nil=>rfl
 | a :: as,_,.cons r t=>by rw [zj2 t]; cases r; rfl
theorem zhm {H:Hp}:∀ {as:List Addr} {ps:List (Int × List Nat)} (i:Nat),zrI H as ps->i<as.length->H (as.getD i 0)=some (.tup [.int (ps.getD i (0,[])).1,.str (st (ps.getD i (0,[])).2)])
 | _ :: _,_ :: _,0,.cons h _,_=>h
 | _ :: _,_ :: _,i+1,.cons _ t,hi=>by
  have:=zhm i t (by simpa using hi)
  simpa using this
theorem zvv {H:Hp} {as:List Addr} {ps:List (Int × List Nat)} (k:zrI H as ps):zlv X (as.map V.ref) H (ltP ps):=by
 intro A' pins σ s kss I r h2; rw [List.length_map] at h2; have e:=zj2 r; subst e; obtain ⟨fs,hl,kt,hf⟩:=ztc I k
 refine kat_kind (T:=.type "int") kt (by omega) (fun v hv=>?_) rfl ⟨I,fun i j C s'' h1 h2 I2 hC=>?_⟩
 ·obtain ⟨i,t,rfl⟩:=hf v hv
  exact Looks.of_pure rfl
 ·rw [List.length_map] at h1 h2
  unfold kas_ask
  have g:∀ i,i<as.length->(as.map Value.ref).getD i Value.none=.ref (as.getD i 0):=fun i h=>by simp [List.getD,List.getElem?_map,List.getElem?_eq_getElem h]
  rw [g i h1,g j h2]; obtain ⟨o,n,t1,t2,e1,c1,d1⟩:=zjC I2 (zhm i k h1); obtain ⟨o',n',t1',t2',e1',c1',d1'⟩:=zjC I2 (zhm j k h2); unfold ltP at hC; generalize ps.getD i (0,[])=p at *; generalize ps.getD j (0,[])=q at *; refine kat_lt e1 d1 e1' d1' ?_; refine kat_cons (wpAny_eqBool_int ?_)
  refine kat_go (fun he=>kat_yes (kat_cons (wpAny_eqBool_str (kat_go (fun he2=>kat_yes (kat_nil ?_)) fun he2=>kat_no ?_)))) fun he=>kat_no ?_
  ·have e1:p.1=q.1:=by simpa using he
   have e2:st p.2=st q.2:=by simpa using he2
   have e3:p.2=q.2:=by rw [<- zV p.2,e2,zV]
   have hz:=hC _ I2
   rw [show decide (p.1<q.1\/p.1=q.1/\p.2<q.2)=false by rw [e1,e3]; simp] at hz
   exact hz
  ·have e1:p.1=q.1:=by simpa using he
   have hz:=hC _ I2; refine kat_one _ _ (lt_str ?_)
   show C (decide ((st p.2).cps.toList<(st q.2).cps.toList)) s''
   simp only [zV]
   rw [show decide (p.1<q.1\/p.1=q.1/\p.2<q.2)=decide (p.2<q.2) by rw [e1]; simp] at hz
   exact hz
  ·have e1:¬ p.1=q.1:=by simpa using he
   have hz:=hC _ I2; refine oneLt_int ?_
   rw [show decide (p.1<q.1\/p.1=q.1/\p.2<q.2)=decide (p.1<q.1) by simp [e1]] at hz
   exact hz
end
end L2
namespace PL
open PySem L2
def zvM (ks:List D) (lt:Nat->Nat->Bool):Prop:=(∃ is:List Int,ks=is.map .int/\lt=ltI is)\/∃ ps:List (Int × List Nat),ks=ps.map (fun p=>.tup [.int p.1,.str p.2])/\lt=ltP ps
def zkU (lt:Nat->Nat->Bool) (ds:List D):List D:=if ds.length<2 then ds else (So.run lt (W.kas_sort ds.length)).toList.map fun i=>ds.getD i .non
theorem zvM.ord {ks:List D} {lt:Nat->Nat->Bool} (h:zvM ks lt):So.Ord lt:=by
 rcases h with ⟨is,_,rfl⟩ | ⟨ps,_,rfl⟩
 ·exact zu0 is
 ·exact zh6 ps
theorem ziH {K:W.Frag} {H:Hp}:∀ {vs:List V} {is:List Int},zaV K H vs (is.map .int)->vs=is.map V.int
 | [],[],_=>rfl
 | v :: vs,i :: is,.cons r t=>by rw [r.intI,ziH t]; rfl
 | [],_ :: _,h=>nomatch h
 | _ :: _,[],h=>nomatch h
theorem ziG {K:W.Frag} {H:Hp}:∀ {vs:List V} {ps:List (Int × List Nat)},zaV K H vs (ps.map fun p=>.tup [.int p.1,.str p.2])->∃ as:List Addr,vs=as.map V.ref/\zrI H as ps
 | [],[],_=>⟨[],rfl,.nil⟩
 | v :: vs,p :: ps,.cons r t=>by
  obtain ⟨as,rfl,k⟩:=ziG t; obtain ⟨a,us,rfl,ha,dl⟩:=r.tupJ; obtain ⟨v1,v2,rfl,d1,d2⟩:=zlp dl; rw [d1.intI,d2.strI] at ha; exact ⟨a :: as,rfl,.cons ha k⟩
 | [],_ :: _,h=>nomatch h
 | _ :: _,[],h=>nomatch h
theorem zis {H H':Hp} (e:zU H H'):∀ {as:List Addr} {ps:List (Int × List Nat)},zrI H as ps->zrI H' as ps
 | _,_,.nil=>.nil
 | _,_,.cons h t=>.cons (e _ _ h) (zis e t)
theorem zo1 {K:W.Frag} {H:Hp} {vs:List V} {ds:List D} (h:zaV K H vs ds) (i:Nat) (hi:i<vs.length):Den K H (vs.getD i .non) (ds.getD i .non):=by
 have hl:=zg h
 have:=paired_get i h (List.getElem?_eq_getElem hi) (List.getElem?_eq_getElem (by omega:i<ds.length))
 simpa [List.getD,List.getElem?_eq_getElem hi,List.getElem?_eq_getElem (by omega:i<ds.length)] using this
theorem zmS {K:W.Frag} {H:Hp} {vs:List V} {ds:List D} (h:zaV K H vs ds):∀ (l:List Nat),(∀ i,i ∈ l->i<vs.length)->zaV K H (l.map fun i=>vs.getD i .non) (l.map fun i=>ds.getD i .non)
 | [],_=>.nil
 | i :: l,q=>.cons (zo1 h i (q i (by simp))) (zmS h l fun j hj=>q j (by simp [hj]))
theorem znH {K:W.Frag} {H:Hp} {lt:Nat->Nat->Bool} (o:So.Ord lt) {vs:List V} {ds:List D} (h:zaV K H vs ds):zaV K H (zeL lt vs) (zkU lt ds):=by
 have hl:=zg h; unfold zeL zkU; rw [hl]; split
 ·exact h
 ·rename_i hn
  exact zmS h _ fun i hi=>by rw [hl]; exact (zgR o (by omega)).2 i hi
section
variable {X:Cx}
def zbP (sp:Sp') (t:TA'):TO':=fun Γ Q=>t Γ fun as Γ1=>∃ ds ks lt,as=[.lst ds]/\ds.length<64/\ks.length=ds.length/\(∀ (i:Nat) x k,ds[i]?=some x->ks[i]?=some k->sp [x] fun r=>r=.val k)/\zvM ks lt/\Q (.lst (zkU lt ds)) Γ1
end
end PL
namespace L2
open PySem PySem.Spec PyProof.Rows
abbrev zfJ (qual:Str) (params:Arguments) (body:Expr) (scope:Scope) (pm:Value) (c:Addr) (ctv:Value):Obj:=W.kla_obj "<lambda>" qual params body scope [] pm c ctv
abbrev zjB (cl:List (Str × Addr)) (qual:Str) (params:Arguments) (body:Expr) (scope:Scope) (pm:Value) (c:Addr) (ctv:Value):Obj:=W.kla_obj "<lambda>" qual params body scope cl pm c ctv
abbrev zmz (qual:Str) (params:Arguments) (body:Expr) (scope:Scope) (pm:Value) (c:Addr) (ctv:Value):FuncData:=W.kla_fn "<lambda>" qual params body scope [] pm (.ref c) ctv
def zlW (f c:Addr) (fo oc:Obj) (sp:Sp):Sp:=fun vs H Q E=>H f=some (zb3 (.inr fo))/\H c=some (zb3 (.inr oc))/\sp vs H Q E
section
variable {P:Program} {w:World} {K:W.Frag} {mg:Str->Option Value} {base:Heap}
theorem ztb {CX:CXT} {k:Nat} {f c:Addr} {qual:Str} {params:Arguments} {body:Expr} {scope:Scope} {pm ctv:Value} {oc:Obj} {vs0:Array Value} {t0:Tok} {N ps:List Str} {sp:Sp}
  (S:FnScope N ps scope) (hd:oc.data=.fields vs0) (hv:vs0[1]?=some (.str qual t0)) (len:∀ vs H Q E,sp vs H Q E->vs.length=ps.length)
  (hbody:∀ (A:Around) (outer:List Env) (s:Shared) (H:Hp) (vs:List V) (Q:VK) (E:XK),Room k (A.deeper (envOfC qual scope s.heap.objs.size f (.ref c)))->sp vs H Q E ->
   ∃ t,PE (zhF CX P w K mg base N qual scope f (.ref c) A outer s H E) body t/\t (start N vs) H Q) :
  FnOk P w K mg base CX (k+1) f (zmz qual params body scope pm c ctv) ps (zlW f c (zfJ qual params body scope pm c ctv) oc sp):=by
 refine ⟨fun vs H Q E h=>len _ _ _ _ h.2.2,fun A outer s H args us vs Q E hr e0 hb r hsp=>?_⟩
 obtain ⟨hf,hc,hsp⟩:=hsp; have hl:=len _ _ _ _ hsp
 have of:s.heap.get? f=some (zfJ qual params body scope pm c ctv):=(e0.hok f _ hf).1
 have oc':s.heap.get? c=some oc:=(e0.hok c _ hc).1
 have lim:s.heap.NoLimit:=e0.mod.nolimit.keeps fun b o e=>(e0.bs b o e).1
 have hkind:∀ y ∈ ps.zip us,scope.names.lookup y.1=some .local\/(scope.names.lookup y.1=some .cell/\((cellsFrom (s.heap.objs.size+1) scope.names []).lookup y.1).isSome=true):=fun ⟨n,v⟩ hy=>by
  rcases S.par n (List.of_mem_zip hy).1 with q | q
  ·exact .inl q
  ·exact .inr ⟨q,W.cellsFrom_some _ _ _ (.inl q)⟩
 refine W.kla_callFunE hr.depth of rfl S.co S.gen rfl ⟨c,oc,vs0,t0,rfl,oc',hd,hv⟩ (hb _ _ _ _ ?_)
 refine wpAny_newFunctionEnv_cells S.kind hkind fun env he s1 x=>?_
 subst he; refine ⟨lim.keeps x.toInCall.keep,W.kla_codeExpr ?_⟩; obtain ⟨t,ht,hq⟩:=hbody A outer s H vs Q E (hr.deeper _) hsp
 have I:Inv (zhF CX P w K mg base N qual scope f (.ref c) A outer s H E) [] (start N vs) H s1:=ziy S hr.hd e0 hl r x
 refine wpAny_mono (ht [] s1 (start N vs) H _ I hq) (fun u s' hs=>?_) fun e s' hs=>hs
 obtain ⟨v,H',J,rv,q⟩:=hs; exact ⟨v,H',J.os,J.bare,J.base,J.hok,rv,q⟩
end
theorem zls {pos:Pos} {c cv:Value} {a b:Int} (l:List Value) (h:TriplesOk l) (e:codeAmong pos (l ++ [rawInt a,rawInt b,c])=some cv):codeAmong pos l=some cv\/cv=c:=by
 fun_induction TriplesOk l with
 | case1 =>
  simp only [List.nil_append,codeAmong,rawInt] at e; split at e
  ·exact .inr (Option.some.inj e).symm
  ·cases e
 | case2 a' t b' u x zdp ih =>
  simp only [List.cons_append,codeAmong] at e ⊢; split at e
  ·rename_i hc
   rw [if_pos hc]; exact .inl e
  ·rename_i hc
   rw [if_neg hc]; exact ih h e
 | case3 l h1 h2=>exact h.elim
theorem zhy {P:Program} {w:World} {H:Hp} {h:Heap} {a:Addr} {o:Obj} (e:h.get? a=some o):zaP P w H h a (zb3 (.inr o)):=⟨e,trivial,⟨o,e⟩,fun _ _ _ _=>trivial⟩
def NewLam (H H2:Hp) (f c:Addr) (fo oc:Obj):Prop:=∃ H1,(H1=H\/(H c=none/\H1=upd H c (zb3 (.inr oc))))/\H1 c=some (zb3 (.inr oc))/\H1 f=none/\H2=upd H1 f (zb3 (.inr fo))
section
variable {X:Cx} {pins:List (Addr × Obj)} {σ:St} {H:Hp} {s:Shared}
theorem zmy {cl:List (Str × Addr)} {params:Arguments} {body:Expr} {scope:Scope} {lpos:Pos} {c Pt:Addr} {Q:VK} {E':Value->Shared->Prop} (I:Inv X pins σ H s) (hc:X.env.code=.ref c) (hC:W.codeHdIn X.K c Pt=true)
  (hT:X.base.objs[Pt]?=some (zeI (X.env.qual ++ "<lambda>"))) (hdef:defaultsOf params X.env=([],[])) (hcl:closureFor scope X.env=pure cl)
  (q:∀ (f c':Addr) (oc:Obj) (vs:Array Value) (t:Tok) (pm ctv:Value) (H2:Hp),oc.data=.fields vs->vs[1]?=some (.str (X.env.qual ++ "<lambda>") t)->NewLam H H2 f c' (zjB cl (X.env.qual ++ "<lambda>") params body scope pm c' ctv) oc->Q (.ref f) H2) :
  wpAny (model X.prog X.w) X.A (eval (.Lambda params body scope lpos) X.env) (EP X pins σ Q) E' s:=by
 obtain ⟨ps,hP,hq⟩:=I.env0.tab Pt _ hT; obtain ⟨ts,ht1,ht2,ht3⟩:=I.hok Pt _ hP
 have hg:s.heap.Ns mainGlobals X.mg:=I.mod.glob.keeps I.bk
 have C:=W.codeHd_of_K I.kIn hC; obtain ⟨bm,ob,b1,b2,b3,b4,b5,b6⟩:=I.mod.bm; have hbm:=I.bk _ _ b3
 have hgP:mainGlobals≠Pt:=fun z=>by
  obtain ⟨o,es,ep,e,_⟩:=I.mod.glob; have y:=(I.bs _ _ e).2; rw [z,hP] at y; cases y
 have hbP:bm≠Pt:=fun z=>by
  have y:=(I.bs _ _ b3).2; rw [z,hP] at y; cases y
 have hbG:bm≠mainGlobals:=fun z=>by
  obtain ⟨o,es,ep,e,hd,_⟩:=I.mod.glob; rw [<- z,b3] at e; cases e; rw [b6] at hd; cases hd
 refine W.kla_eval hdef ?_
 cases hf:codeAmong lpos ts.toList with
 | none =>
  refine W.kla_makeFunction (mg:=X.mg) hcl I.ok.glob hg hc C ht1 ht2 hf hgP ⟨bm,ob,b1,b2,hbG,hbP,hbm,b4,b5,b6⟩ fun c' ctv h' tk hx hge hlt hrec htb=>?_
  obtain ⟨c2,oc,vs,t,e2,hoc,hd,hv⟩:=hrec; cases e2
  have fr:H c'=none:=I.hok.fresh hge
  have nP:∀ b,H b=none->b≠Pt:=fun b n z=>by rw [z,hP] at n; cases n
  have sm:∀ b u,H b=some u->upd H c' (zb3 (.inr oc)) b=some u:=fun b u e=>by rw [zq (zI e fr)]; exact e
  have cP:c'≠Pt:=fun z=>by rw [z,hP] at fr; cases fr
  have un:Un X.fs [] H (upd H c' (zb3 (.inr oc))) s.heap h':=by
   refine ⟨fun b o e n _ _=>hx b o (nP b n) e,fun b o e n _ _=>⟨o.slots,hx b o (nP b n) e⟩,fun b o e n _=>?_,fun b o e _=>?_,fun b xs e=>sm _ _ e,fun b o u e=>sm _ _ e,fun b ps e=>⟨#[],by rw [sm _ _ e]; simp⟩⟩
   ·rw [zq (Nat.ne_of_lt (Nat.lt_of_lt_of_le (Heap.lt_size e) hge))]
    exact n
   ·by_cases z:b=Pt
    ·rw [z]; exact ⟨_,htb⟩
    ·exact ⟨o,hx b o z e⟩
  have hok:HOk X.prog X.w (upd H c' (zb3 (.inr oc))) h':=fun b u e=>by
   by_cases z:b=c'
   ·subst z
    rw [zj] at e; cases e; exact zhy hoc
   ·rw [zq z] at e
    by_cases y:b=Pt
    ·subst y
     rw [hP] at e; cases e
     refine ⟨_,htb,?_,fun pos cv ee=>?_⟩
     ·rw [Array.toList_append]
      exact TriplesOk_snoc _ _ _ _ ht2
     ·rw [Array.toList_append] at ee
      rcases zls _ ht2 ee with y | y
      ·obtain ⟨c3,oc3,vs3,t3,q3,t4,z1,z2,z3⟩:=ht3 pos cv y
       exact ⟨c3,oc3,vs3,t3,q3,t4,z1,sm _ _ z2,z3⟩
      ·exact ⟨c',oc,vs,t,_,_,y,zj,hd,hv,hq⟩
    ·refine (I.hok b u e).stay (fun d v hd r=>hx d v ?_ r) (fun d r=>sm _ _ r) fun d xs r=>sm _ _ r
     rcases hd with rfl | hd
     ·exact y
     ·intro zz
      rw [zz,hP] at hd; cases hd
  have I1:=I.un (t':=tk) un hok
  refine ⟨.ref h'.objs.size,_,I1.laid (a:=h'.objs.size) (o:=zb3 (.inr (zjB cl (X.env.qual ++ "<lambda>") params body scope ((X.mg "__name__").getD .none) c' ctv))) (t':=tk) (fun b u e=>Heap.get?_push_of_some _ e) (Nat.le_refl _) (zhy (Heap.get?_push_size _ rfl)),rfl,?_⟩
  exact q _ c' oc vs t _ ctv _ hd hv ⟨_,.inr ⟨fr,rfl⟩,zj,hok.fresh (Nat.le_refl _),rfl⟩
 | some cv =>
  obtain ⟨c',oc,vs,t,q',t0,rfl,hc',hd,hv,hq'⟩:=ht3 lpos cv hf; rw [hq] at hq'; cases hq'
  refine W.kla_makeFunctionHit (mg:=X.mg) hcl I.ok.glob hg hc C ht1 ht2 hf ⟨bm,ob,b1,b2,hbG,hbP,hbm,b4,b5,b6⟩ fun ctv h' tk hk hsz=>?_
  have I1:=I.kept (t':=tk) hk
  refine ⟨.ref h'.objs.size,_,I1.laid (a:=h'.objs.size) (o:=zb3 (.inr (zjB cl (X.env.qual ++ "<lambda>") params body scope ((X.mg "__name__").getD .none) c' ctv))) (t':=tk) (fun b u e=>Heap.get?_push_of_some _ e) (Nat.le_refl _) (zhy (Heap.get?_push_size _ rfl)),rfl,?_⟩
  exact q _ c' oc vs t _ ctv _ hd hv ⟨_,.inl rfl,hc',I1.hok.fresh (Nat.le_refl _),rfl⟩
theorem zoA {params:Arguments} {body:Expr} {scope:Scope} {lpos:Pos} {c Pt:Addr} {Q:VK} {E':Value->Shared->Prop} (I:Inv X pins σ H s) (hc:X.env.code=.ref c) (hC:W.codeHdIn X.K c Pt=true)
  (hT:X.base.objs[Pt]?=some (zeI (X.env.qual ++ "<lambda>"))) (hdef:defaultsOf params X.env=([],[])) (hcl:closureFor scope X.env=pure [])
  (q:∀ (f c':Addr) (oc:Obj) (vs:Array Value) (t:Tok) (pm ctv:Value) (H2:Hp),oc.data=.fields vs->vs[1]?=some (.str (X.env.qual ++ "<lambda>") t)->NewLam H H2 f c' (zfJ (X.env.qual ++ "<lambda>") params body scope pm c' ctv) oc->Q (.ref f) H2) :
  wpAny (model X.prog X.w) X.A (eval (.Lambda params body scope lpos) X.env) (EP X pins σ Q) E' s :=
 zmy I hc hC hT hdef hcl q
end
end L2
namespace L2
open PySem PySem.Spec PyProof.Rows
section
variable {X:Cx}
def zwl (qual:Str) (params:Arguments) (body:Expr) (scope:Scope):TE:=fun _ H Q=>∀ (f c:Addr) (oc:Obj) (vs:Array Value) (t:Tok) (pm ctv:Value) (H2:Hp),oc.data=.fields vs->vs[1]?=some (.str qual t)->NewLam H H2 f c (zfJ qual params body scope pm c ctv) oc->Q (.ref f) H2
structure LamAt (X:Cx) (qual:Str):Prop where
 ex:∃ c Pt,X.env.code=.ref c/\W.codeHdIn X.K c Pt=true/\X.base.objs[Pt]?=some (zeI qual)
 qu:X.env.qual ++ "<lambda>"=qual
theorem zsM {qual:Str} {params:Arguments} {body:Expr} {scope:Scope} {lpos:Pos} (L:LamAt X qual) (hdef:defaultsOf params X.env=([],[]):=by rfl) (hcl:closureFor scope X.env=pure []:=by rfl):PE X (.Lambda params body scope lpos) (zwl qual params body scope):=by
 obtain ⟨⟨c,Pt,hc,hC,hT⟩,rfl⟩:=L
 intro pins s σ H Q I h; exact zoA I hc hC hT hdef hcl h
theorem NewLam.same {H H2:Hp} {f c:Addr} {fo oc:Obj} (n:NewLam H H2 f c fo oc):zU H H2:=by
 obtain ⟨H1,h1,_,h3,rfl⟩:=n; intro b u e
 rcases h1 with rfl | ⟨h1,rfl⟩
 ·rw [zq (zI e h3)]; exact e
 ·have e1:upd H c (zb3 (.inr oc)) b=some u:=by rw [zq (zI e h1)]; exact e
  rw [zq (zI e1 h3)]; exact e1
theorem NewLam.has {H H2:Hp} {f c:Addr} {fo oc:Obj} (n:NewLam H H2 f c fo oc):H2 f=some (zb3 (.inr fo))/\H2 c=some (zb3 (.inr oc)):=by
 obtain ⟨H1,h1,h2,h3,rfl⟩:=n
 exact ⟨zj,by rw [zq (zI h2 h3)]; exact h2⟩
def zrV (K:W.Frag) (X:Cx) (sp:Sp) (t:TA):TE:=fun σ H Q=>t σ H fun vs H1=>∃ l xs,vs=[.ref l]/\SqL K H1 l xs/\xs.length<64/\∀ f c fo oc H2,NewLam H1 H2 f c fo oc ->
 zrH (zlW f c fo oc sp) (fun ks H'=>∃ lt,So.Ord lt/\zlv X ks H' lt/\∀ p,H' p=none->Q (.ref p) (upd H' p (.lst (zeL lt xs)))) xs [] H2
theorem znE {K:W.Frag} {H H':Hp} {a:Addr} {vs:List V} (e:zU H H') (h:SqL K H a vs):SqL K H' a vs:=by
 rcases h with h | h
 ·rcases h with h | ⟨o,h⟩
  ·exact .inl (.inl (e _ _ h))
  ·exact .inl (.inr ⟨o,e _ _ h⟩)
 ·exact .inr h
theorem zoc {k:Nat} {qual:Str} {params:Arguments} {body:Expr} {scope:Scope} {ps:List Str} {sp:Sp} {e:Expr} {t:TA} {p kpos lpos pos:Pos} (L:LamAt X qual)
  (hF:∀ (f c:Addr) (oc:Obj) (vs:Array Value) (t:Tok) (pm ctv:Value),oc.data=.fields vs->vs[1]?=some (.str qual t)->FnOk X.prog X.w X.K X.mg X.base CX0 k f (zmz qual params body scope pm c ctv) ps (zlW f c (zfJ qual params body scope pm c ctv) oc sp))
  (hb:∀ (pm:Value) (c:Addr) (ctv:Value) (us:List Value),us.length=ps.length->bindArgs (zmz qual params body scope pm c ctv) ⟨us,[]⟩=pure (ps.zip us))
  (hr:Room (k+2) X.A) (hm:X.mg "sorted"=none) (ha:PA X [e] t) (hgs:Gl X "sorted":=by rfl)
  (hdef:defaultsOf params X.env=([],[]):=by rfl) (hcl:closureFor scope X.env=pure []:=by rfl)
  (he:backTo pos (starEach [e] X.env)=(false,eval e X.env) :: backTo pos (starEach [] X.env):=by rfl)
  (hplain:(backTo pos (starEach [e] X.env)).any (·.1)=false:=by rfl) :
  PE X (.Call (.Name "sorted" p) [e] [⟨some "key",.Lambda params body scope lpos,kpos⟩] pos) (zrV X.K X sp t):=by
 intro pins s σ H Q I h; refine wpAny_Call_Name_kw (zfI I hgs hm boot_sorted ?_)
 refine callWith_kw (thn (ha pos pins s σ H _ I h) fun us s1 ⟨vs,H1,I1,r,q⟩=>?_) he hplain rfl rfl
 obtain ⟨l,xs,rfl,hl,h64,hk⟩:=q; obtain ⟨u,rfl,ru⟩:=zc8 r; cases ru
 refine thn (zmf (nm:=some "key") (kpos:=kpos) (zsM (lpos:=lpos) L hdef hcl) zpl pos pins s1 σ H1 (fun zs H2=>∃ (f c:Addr) (oc:Obj) (vs:Array Value) (t:Tok) (pm ctv:Value),zs=[.ref f]/\oc.data=.fields vs/\vs[1]?=some (.str qual t)/\NewLam H1 H2 f c (zfJ qual params body scope pm c ctv) oc) I1 ?_) fun ws s2 ⟨zs,H2,I2,rz,f,c,oc,vs,t0,pm,ctv,e1,hd,hv,nl⟩=>?_
 ·intro f c oc vs t0 pm ctv H2 hd hv nl
  exact ⟨f,c,oc,vs,t0,pm,ctv,rfl,hd,hv,nl⟩
 ·subst e1
  obtain ⟨w',rfl,rw'⟩:=zc8 rz; cases rw'; exact ziR (hF f c oc vs t0 pm ctv hd hv) hr (.all (hb pm c ctv)) I2 (znE nl.same hl) h64 (hk _ _ _ _ _ nl)
end
end L2
namespace PL
open PySem L2
section
variable {P:Program} {w:World} {K:W.Frag} {mg:Str->Option Value} {base:Heap}
theorem zq4 {k:Nat} {f c:Addr} {qual:Str} {params:Arguments} {body:Expr} {scope:Scope} {pm ctv:Value} {oc:Obj} {vs0:Array Value} {t0:Tok} {N ps:List Str} {sp:Sp'}
  (S:FnScope N ps scope) (hd:oc.data=.fields vs0) (hv:vs0[1]?=some (.str qual t0)) (len:∀ ds Q,sp ds Q->ds.length=ps.length)
  (hbody:∀ (A:Around) (outer:List Env) (s:Shared) (H:Hp) (E:XK),Room k (A.deeper (PyProof.Rows.envOfC qual scope s.heap.objs.size f (.ref c)))->∀ ds Q,sp ds Q ->
   ∃ t,PE' (zhF CX0 P w K mg base N qual scope f (.ref c) A outer s H E).nox body t/\t (zcr N ds) fun d _=>Q (.val d)) :
  FnOk P w K mg base CX0 (k+1) f (zmz qual params body scope pm c ctv) ps (zlW f c (zfJ qual params body scope pm c ctv) oc (zlU K sp)):=by
 refine ztb S hd hv (fun vs H Q E h=>?_) fun A outer s H vs Q E hr h=>?_
 ·obtain ⟨Hi,ds,Q',_,dl,h,_⟩:=h
  rw [zg dl]; exact len ds Q' h
 ·obtain ⟨Hi,ds,Q',sb,dl,h,fin⟩:=h
  obtain ⟨t,h1,h2⟩:=hbody A outer s H E hr ds Q' h
  have hpl:ps.length<=N.length:=by have:=congrArg List.length S.pre; rw [List.length_take] at this; omega
  refine ⟨_,h1.h.nox,⟨H,Hi,[]⟩,Hi,zcr N ds,_,zgB (len ds Q' h) hpl sb dl,h2,?_⟩
  rintro v H' ⟨Hi',d,Γ',s1,g1,dv,q⟩
  exact fin Hi' H' v (.val d) ⟨s1,fun b o e=>g1.keep b o e (by simp),g1.fz,fun b o e=>g1.fro b o e⟩ dv q
end
theorem ziv {K:W.Frag} {sp:Sp'} {Fin:List V->Hp->Prop} {Hi1 H1:Hp} {f c:Addr} {fo oc:Obj} (hf:H1 f=some (zb3 (.inr fo))) (hc:H1 c=some (zb3 (.inr oc))):∀ (r:List V) (rd kd:List D) (acc:List V) (accD:List D) (Hi H:Hp),Ext Hi1 H1 Hi H->zaV K Hi r rd->kd.length=rd.length->(∀ (i:Nat) x k,rd[i]?=some x->kd[i]?=some k->sp [x] fun r=>r=.val k)->zaV K Hi acc accD ->
  (∀ acc Hi H,Ext Hi1 H1 Hi H->zaV K Hi acc (accD ++ kd)->Fin acc H)->zrH (zlW f c fo oc (zlU K sp)) Fin r acc H
 | [],[],kd,acc,accD,Hi,H,ex,_,hl,_,da,fin=>by
  have:kd=[]:=List.length_eq_zero_iff.mp (by simpa using hl)
  subst this
  exact fin acc Hi H ex (by rw [List.append_nil]; exact da)
 | v :: r,d :: rd,k :: kd,acc,accD,Hi,H,ex,.cons d1 t,hl,hsp,da,fin=>by
  refine ⟨ex.h _ _ hf,ex.h _ _ hc,Hi,[d],fun r=>r=.val k,ex.fz,.cons d1 .nil,hsp 0 d k rfl rfl,fun Hi' H' v' r' e2 ro hq=>?_⟩
  subst hq
  refine ziv hf hc r rd kd (acc ++ [v']) (accD ++ [k]) Hi' H' (ex.trans e2) (zaV.mono t e2.hi) (by simpa using hl) (fun i x k h1 h2=>hsp (i+1) x k (by simpa using h1) (by simpa using h2)) (zah (da.mono e2.hi) (.cons ro .nil)) fun acc Hi H e3 da=>?_
  exact fin acc Hi H e3 (by simpa using da)
 | [],_ :: _,_,_,_,_,_,_,h,_,_,_,_=>nomatch h
 | _ :: _,[],_,_,_,_,_,_,h,_,_,_,_=>nomatch h
 | _ :: _,_ :: _,[],_,_,_,_,_,_,hl,_,_,_=>by simp at hl
theorem NewLam.ext {Hi H H2:Hp} {f c:Addr} {fo oc:Obj} (n:NewLam H H2 f c fo oc) (fz:Fz Hi H):Ext Hi H Hi H2:=by
 obtain ⟨H1,h1,h2,h3,rfl⟩:=n
 have e1:Ext Hi H Hi H1:=by
  rcases h1 with rfl | ⟨h1,rfl⟩
  ·exact Ext.refl fz
  ·exact Ext.newO fz h1 _ fun _ z=>nomatch z
 exact e1.trans (Ext.newO e1.fz h3 _ fun _ z=>nomatch z)
section
variable {X:Cx}
theorem zn3 {k:Nat} {qual:Str} {params:Arguments} {body:Expr} {scope:Scope} {N ps:List Str} {sp:Sp'} {e:Expr} {t:TA'} {p kpos lpos pos:Pos} (L:LamAt X qual) (S:FnScope N ps scope) (len:∀ ds Q,sp ds Q->ds.length=ps.length)
  (hbody:∀ (f c:Addr) (A:Around) (outer:List Env) (s:Shared) (H:Hp) (E:XK),Room k (A.deeper (PyProof.Rows.envOfC qual scope s.heap.objs.size f (.ref c)))->∀ ds Q,sp ds Q ->
   ∃ t,PE' (zhF CX0 X.prog X.w X.K X.mg X.base N qual scope f (.ref c) A outer s H E).nox body t/\t (zcr N ds) fun d _=>Q (.val d))
  (hb:∀ (pm:Value) (c:Addr) (ctv:Value) (us:List Value),us.length=ps.length->bindArgs (zmz qual params body scope pm c ctv) ⟨us,[]⟩=pure (ps.zip us))
  (hr:Room (k+3) X.A) (hm:X.mg "sorted"=none) (ha:PA' X [e] t) (hgs:Gl X "sorted":=by rfl)
  (hdef:defaultsOf params X.env=([],[]):=by rfl) (hcl:closureFor scope X.env=pure []:=by rfl)
  (he:backTo pos (starEach [e] X.env)=(false,eval e X.env) :: backTo pos (starEach [] X.env):=by rfl)
  (hplain:(backTo pos (starEach [e] X.env)).any (·.1)=false:=by rfl) :
  PO' X (.Call (.Name "sorted" p) [e] [⟨some "key",.Lambda params body scope lpos,kpos⟩] pos) (zbP sp t):=by
 refine ⟨PE.weak (zoc (k:=k+1) (sp:=zlU X.K sp) L (fun f c oc vs t pm ctv hd hv=>zq4 S hd hv len (hbody f c)) hb hr hm ha.pa hgs hdef hcl he hplain) ?_⟩
 rintro σ H Q ⟨W,Hi,Γ,Q',g,h,fin⟩
 refine ⟨W,Hi,Γ,_,g,h,?_⟩
 rintro vs H1 Hi1 Γ1 as s1 g1 dl ⟨ds,ks,lt,rfl,h64,hkl,hsp,hkd,q⟩
 obtain ⟨v,rfl,den⟩:=zeb dl; obtain ⟨l,xs,rfl,hl,dx⟩:=den.lstI
 refine ⟨l,xs,rfl,zE g1.sub hl,by rw [zg dx]; exact h64,fun f c fo oc H2 nl=>?_⟩
 have ex0:=PL.NewLam.ext nl g1.fz
 refine ziv nl.has.1 nl.has.2 xs ds ks [] [] Hi1 H2 (Ext.refl ex0.fz) dx hkl hsp .nil fun acc Hi2 H3 ex da=>?_
 rw [List.nil_append] at da
 refine ⟨lt,hkd.ord,?_,fun p hp=>?_⟩
 ·rcases hkd with ⟨is,rfl,rfl⟩ | ⟨ps,rfl,rfl⟩
  ·rw [ziH da]
   exact zvw is
  ·obtain ⟨as,rfl,kt⟩:=ziG da
   exact zvv (zis ex.fz.sub kt)
 ·have g2:=(g1.ext ex0).ext ex
  exact fin p _ Hi2 Γ1 (.lst (zkU lt ds)) (s1.trans ex.hi) (g2.ext (Ext.newO g2.fz hp _ (fun _ z=>by cases z))) (New.mk' g2 hp ⟨_,zj,znH hkd.ord (dx.mono ex.hi)⟩) q
end
end PL
namespace L2
open PySem PySem.Spec PyProof.Rows
def zvJ (T:List (Addr × Str)) (a:Addr) (H:Hp):Prop:=∀ b u,H b=some u->(b=a/\∃ o xs,u=.frz o (.lst xs))\/∃ q,T.lookup b=some q/\u=.tbl #[.str q 0]
theorem zmx {P:Program} {w:World} {K:W.Frag} {mg mb:Str->Option Value} {CX:CXT} {k:Nat} {fa a:Addr} {fd:FuncData} {x:Str} {sp:Sp} {s₁:Shared} {vs:List Value} {ns:List Int} (T:List (Addr × Str))
  (KX:K.In s₁.heap) (hns:s₁.heap.Ns mainGlobals mg) (hb:s₁.heap.Ns builtinsNs mb) (hbb:∀ x:Str,x≠"__name__"->mb x=bootBuiltins x) (hlim:s₁.heap.NoLimit)
  (hbm:∃ bm ob,mg "__builtins__"=some (.ref bm)/\bm≠builtinsNs/\s₁.heap.get? bm=some ob/\ob.cls=.type "module"/\ob.dict=some builtinsNs/\ob.data=.plain) (hg:s₁.gens=#[])
  (ha:s₁.heap.get? a=some { cls:=.type "list",data:=.seq vs.toArray }) (hi:IntsAre vs ns) (hl:ns.length<=sizeLine) (hr:Room k callerA)
  (hT:∀ b q,T.lookup b=some q->s₁.heap.get? b=some (W.tabObj #[])/\(∃ c,W.codeHdIn K c b=true)/\K.lookup b=none)
  (F:∀ base:Heap,K.In base->base.Ns mainGlobals mg->(∀ b q,T.lookup b=some q->base.objs[b]?=some (zeI q))->FnOk P w K mg base CX k fa fd [x] sp) (hbind:∀ (s:Shared) (u:Value),BindsTo s fd ⟨[u],[]⟩ [(x,u)])
  (hsp:∀ H:Hp,SqL K H a (ns.map V.int)->sp [.ref a] H (fun v _=>v=.bl true) fun _ _ _=>False)
  (hCX:∀ H e s',CX [] H s₁ (fun _ _ _=>False) e s'->False) :
  codeAny (model P w) callerA (.call (.ref fa) ⟨[.ref a],[]⟩) (fun r s'=>r=.ok (.ret (.bool true))/\OldK s₁.heap s'.heap/\s'.os=s₁.os/\AllBare s'.gens) s₁:=by
 have rv:=zhI hi; have lenV:=hi.length
 have naT:T.lookup a=none:=by
  cases q:T.lookup a with
  | none=>rfl
  | some z =>
   have e:=(hT a z q).1; rw [ha] at e; cases e
 have core:∀ H:Hp,zvJ T a H->(∀ b q,T.lookup b=some q->H b=some (.tbl #[.str q 0]))->SqL K H a (ns.map V.int)->HOk P w H s₁.heap->(H a≠none->K.lookup a=none) ->
   codeAny (model P w) callerA (.call (.ref fa) ⟨[.ref a],[]⟩) (fun r s'=>r=.ok (.ret (.bool true))/\OldK s₁.heap s'.heap/\s'.os=s₁.os/\AllBare s'.gens) s₁:=by
  intro H hO hO2 hS hok hK
  have base_of:∀ {b:Addr} {o:Obj},s₁.heap.get? b=some o->H b=none->(nrm s₁.heap H).get? b=some o:=fun e n=>zqZ e n
  have isL:∀ {b:Addr} {u:HO} {o:Obj},H b=some u->s₁.heap.get? b=some o->(∃ its n,o.data=.seq its n)\/o.data=.fields #[]:=fun {b u o} q e=>by
   rcases hO b u q with ⟨rfl,_⟩ | ⟨z,y,_⟩
   ·rw [ha] at e; cases e
    exact .inl ⟨_,_,rfl⟩
   ·rw [(hT b z y).1] at e; cases e
    exact .inr rfl
  have noA:∀ {b:Addr} {o:Obj},s₁.heap.get? b=some o->(∀ its n,o.data≠.seq its n)->o.data≠.fields #[]->H b=none:=fun {b o} e d1 d2=>by
   cases q:H b with
   | none=>rfl
   | some u =>
    rcases isL q e with ⟨its,n,z⟩ | z
    ·exact absurd z (d1 _ _)
    ·exact absurd z d2
  have nsK:∀ {b:Addr} {m:Str->Option Value},s₁.heap.Ns b m->(nrm s₁.heap H).Ns b m:=fun {b m} ⟨o,es,ep,e,d,r⟩=>⟨o,es,ep,base_of e (noA e (fun _ _ z=>by rw [d] at z; cases z) (fun z=>by rw [d] at z; cases z)),d,r⟩
  have hKb:K.In (nrm s₁.heap H):=fun b o e=>base_of (KX b o e) (by
   cases q:H b with
   | none=>rfl
   | some u =>
    rcases hO b u q with ⟨rfl,_⟩ | ⟨z,y,_⟩
    ·rw [hK (by rw [q]; simp)] at e; cases e
    ·rw [(hT b z y).2.2] at e; cases e)
  have hM:Mod K mg (nrm s₁.heap H):=⟨hKb,nsK hns,⟨mb,nsK hb,hbb⟩,(let ⟨mc,h1,h2⟩:=hlim; ⟨mc,nsK h1,h2⟩),(let ⟨bm,ob,b1,b2,b3,b4,b5,b6⟩:=hbm; ⟨bm,ob,b1,b2,base_of b3 (noA b3 (fun _ _ z=>by rw [b6] at z; cases z) (fun z=>by rw [b6] at z; cases z)),b4,b5,b6⟩)⟩
  have hmk:∀ b q,T.lookup b=some q->(nrm s₁.heap H).objs[b]?=some (zeI q):=fun b q e=>by
   rw [zkh,(zdH (hT b q e).1).1,hO2 b q e]; rfl
  have e0:Env0 P w K mg (nrm s₁.heap H) callerA [] s₁ H:=⟨rfl,hM,fun b o e=>zsZ e,Nat.le_of_eq (zot _ _),trivial,fun b hb=>absurd (show b ∈ ([]:List Addr) from hb) (by simp),hok,.of_eq hg,zos _ _⟩
  refine codeAny_mono ((F _ hKb (nsK hns) hmk).run callerA [] s₁ H ⟨[.ref a],[]⟩ [.ref a] [.ref a] _ _ hr e0 (hbind s₁ (.ref a)) (.cons rfl .nil) (hsp H hS)) fun r s' h=>?_
  cases r with
  | error e=>exact (hCX H e s' h).elim
  | ok fl =>
   cases fl with
   | next=>exact False.elim h
   | brk=>exact False.elim h
   | cont=>exact False.elim h
   | ret u =>
    obtain ⟨v,H',os,bare,un,hok',r',q⟩:=h
    have q':v=.bl true:=q
    subst q'
    obtain rfl:u=Value.bool true:=r'
    have old:∀ b o,s₁.heap.get? b=some o->asItWas s₁.heap s'.heap b o/\∃ o',s'.heap.get? b=some o':=fun b o e=>by
     cases q:H b with
     | none =>
      have z:=un.keep b o e q (by intro z; exact absurd (show b ∈ ([]:List Addr) from z) (by simp)) (by simp)
      exact ⟨.inl z,o,z⟩
     | some u =>
      rcases hO b u q with ⟨_,ob,xs,rfl⟩ | ⟨z,y,rfl⟩
      ·have z2:=un.frzs b ob _ q
       obtain ⟨e1,_⟩:=hok b _ q; obtain ⟨e2,_⟩:=hok' b _ z2
       rw [e] at e1; cases e1
       exact ⟨.inl e2,o,e2⟩
      ·obtain ⟨h1,⟨c,h2⟩,_⟩:=hT b z y
       rw [e] at h1; cases h1; obtain ⟨more,z2⟩:=un.tbls b _ q; obtain ⟨ts,e2,_⟩:=hok' b _ z2; refine ⟨.inr (.inl ⟨((W.codeHd_of_K KX h2).tab e).isCodeTable,rfl,#[],ts,rfl,?_⟩),_,e2⟩; rw [e2]; simp
    exact ⟨rfl,⟨fun b o e=>(old b o e).1,fun b o e=>(old b o e).2⟩,os,bare⟩
 have tb_ok:∀ (H:Hp) (b:Addr) (q:Str),T.lookup b=some q->zaP P w H s₁.heap b (.tbl #[.str q 0]):=fun H b q e=>⟨#[],(hT b q e).1,trivial,fun pos cv z=>by cases z⟩
 cases hk:K.lookup a with
 | some o =>
  have e:=KX a o hk; rw [ha] at e; cases e
  refine core (fun b=>(T.lookup b).map fun q=>.tbl #[.str q 0]) (fun b u z=>?_) (fun b q z=>by show (T.lookup b).map _=_; rw [z]; rfl) (.inr ⟨_,vs.toArray,_,hk,rfl,rfl,rfl,by rw [List.size_toArray,lenV]; exact hl,by simpa using rv⟩) (fun b u z=>?_) fun z=>absurd (by show (T.lookup a).map _=none; rw [naT]; rfl) z
  ·have z':(T.lookup b).map (fun q=>HO.tbl #[.str q 0])=some u:=z
   cases y:T.lookup b with
   | none=>rw [y] at z'; cases z'
   | some q=>rw [y] at z'; cases z'; exact .inr ⟨q,rfl,rfl⟩
  ·have z':(T.lookup b).map (fun q=>HO.tbl #[.str q 0])=some u:=z
   cases y:T.lookup b with
   | none=>rw [y] at z'; cases z'
   | some q=>rw [y] at z'; cases z'; exact tb_ok _ b q y
 | none =>
  refine core (fun b=>if b=a then some (.frz { cls:=.type "list",data:=.seq vs.toArray } (.lst (ns.map V.int))) else (T.lookup b).map fun q=>.tbl #[.str q 0]) (fun b u z=>?_) (fun b q z=>?_) (.inl (.inr ⟨{ cls:=.type "list",data:=.seq vs.toArray },if_pos rfl⟩)) (fun b u z=>?_) fun _=>hk
  ·by_cases hb:b=a
   ·have z':=(if_pos hb).symm.trans z
    cases z'; exact .inl ⟨hb,_,_,rfl⟩
   ·have z':=(if_neg hb).symm.trans z
    cases y:T.lookup b with
    | none=>rw [y] at z'; cases z'
    | some q=>rw [y] at z'; cases z'; exact .inr ⟨q,rfl,rfl⟩
  ·have hb:b≠a:=fun y=>by rw [y,naT] at z; cases z
   show (if b=a then _ else _)=_
   rw [if_neg hb,z]; rfl
  ·by_cases hb:b=a
   ·have z':=(if_pos hb).symm.trans z
    cases z'; subst hb
    exact ⟨ha,by rw [List.length_map]; exact hl,vs,_,rv,ha⟩
   ·have z':=(if_neg hb).symm.trans z
    cases y:T.lookup b with
    | none=>rw [y] at z'; cases z'
    | some q=>rw [y] at z'; cases z'; exact tb_ok _ b q y
end L2
namespace PL
open PySem L2
structure LamOf (K:W.Frag) (mg:Str->Option Value) (base:Heap) (x qual:Str):Prop where
 ex:∃ c Pt,(∀ f fd oc od sl,mg x=some (.ref f)->K.lookup f=some ⟨oc,od,.func fd,sl⟩->fd.code=.ref c)/\W.codeHdIn K c Pt=true/\base.objs[Pt]?=some (zeI qual)
 qu:x ++ ".<locals>." ++ "<lambda>"=qual
section
variable {P:Program} {w:World} {K:W.Frag} {mg:Str->Option Value} {base:Heap} {k:Nat} {x qual:Str} {ps:List Str} {sp:Sp'}
theorem Df.okL {st:Stmt} {N:List Str} (d:Df K mg x st ps) (lo:LamOf K mg base x qual) (S:FnScope N ps (zf st)) (len:∀ ds Q,sp ds Q->ds.length=ps.length)
  (hbody:∀ (f:Addr) (cdv:Value) (A:Around) (outer:List Env) (s:Shared) (H:Hp) (E:XK),LamAt (zhF CX0 P w K mg base N x (zf st) f cdv A outer s H E).nox qual->Room k (A.deeper (PyProof.Rows.envOfC x (zf st) s.heap.objs.size f cdv))->∀ ds Q,sp ds Q ->
   ∃ t,PSs' (zhF CX0 P w K mg base N x (zf st) f cdv A outer s H E).nox (zG st) t/\t { nx:=fun _=>Q (.val .non),rt:=fun r _=>Q r } (zcr N ds)):Fn P w K mg base (k+1) x ps sp:=by
 obtain ⟨f,fd,F,b,m⟩:=d.ex; obtain ⟨oc,od,kV,doc,pm,an,cdv,ct,osl,e,lk,hcd⟩:=id F.ex
 obtain ⟨⟨c,Pt,hc,hC,hT⟩,qu⟩:=lo
 have hcd':=hc f fd oc od osl m lk; subst e; refine ⟨f,_,?_,b,F.kp,m,oc,od,osl,lk⟩
 refine ztp lk hcd S (fun vs H Q E h=>?_) fun A outer s H vs Q E hr h=>?_
 ·obtain ⟨Hi,ds,Q',_,dl,h,_⟩:=h
  rw [zg dl]; exact len ds Q' h
 ·obtain ⟨Hi,ds,Q',sb,dl,h,fin⟩:=h
  obtain ⟨t,h1,h2⟩:=hbody f cdv A outer s H E ⟨⟨c,Pt,hcd',hC,hT⟩,qu⟩ hr ds Q' h
  have hpl:ps.length<=N.length:=by have:=congrArg List.length S.pre; rw [List.length_take] at this; omega
  refine ⟨_,h1.h.nox,⟨H,Hi,[]⟩,Hi,zcr N ds,_,zgB (len ds Q' h) hpl sb dl,h2,?_⟩
  refine ⟨fun σ' H' Hi' Γ' s1 g1 q=>?_,fun _ _ _ _ _ _ q=>q.elim,fun _ _ _ _ _ _ q=>q.elim,fun v σ' H' Hi' Γ' r s1 g1 ro q=>?_⟩
  ·exact fin Hi' H' .non (.val .non) ⟨s1,fun b o e=>g1.keep b o e (by simp),g1.fz,fun b o e=>g1.fro b o e⟩ .non q
  ·exact fin Hi' H' v r ⟨s1,fun b o e=>g1.keep b o e (by simp),g1.fz,fun b o e=>g1.fro b o e⟩ ro q
end
theorem zlV (K:W.Frag) (H:Hp) (a:Addr) (ns:List Int) (hl:ns.length<=63) (hS:SqL K H a (ns.map V.int)):zlU K zkT [.ref a] H (fun v _=>v=.bl true) (fun _ _ _=>False):=by
 refine ⟨H,[.lst (ns.map .int)],fun r=>r=.val (.bl true),⟨zU.refl _,fun b xs q=>q⟩,.cons (Den.mkL hS (zkB ns)) .nil,⟨ns,rfl,hl,rfl⟩,?_⟩
 rintro Hi' H' v r ex ro rfl
 exact Den.blI ro
theorem walk_lawT {l:W.OpenLaw} {k:Nat} {q:Program} {loose:List Str} {XP:(Str->Option Value)->Heap->Prop} {YP:World->Heap->Prop} {d:DefRec} {K:Params->W.Frag} {x:Str} (T:List (Addr × Str)) (hn:l.most=some 63) (hdf:d.params.defaults=[]) (hr:Room k callerA)
  (hY:∀ (w:World) (h:Heap),YP w h->(K w.params).In h)
  (hYT:∀ (w:World) (h:Heap),YP w h->∀ b q,T.lookup b=some q->h.get? b=some (W.tabObj #[]))
  (F:∀ (w:World) (mg:Str->Option Value) (fa:Addr) (h:Heap),(K w.params).In h->h.Ns mainGlobals mg->mg d.name=some (.ref fa) ->
   (∀ b q,T.lookup b=some q->(∃ c,W.codeHdIn (K w.params) c b=true)/\(K w.params).lookup b=none) /\
   ∃ fd:FuncData,(∀ (s:Shared) (u:Value),BindsTo s fd ⟨[u],[]⟩ [(x,u)])/\∀ base:Heap,(K w.params).In base->base.Ns mainGlobals mg->(∀ b q,T.lookup b=some q->base.objs[b]?=some (zeI q))->FnOk l.prog w (K w.params) mg base CX0 k fa fd [x] (zlU (K w.params) zkT)) :
  W.WalkO q loose XP YP l.row.toRowW d [] (fun f vs=>PySem.call f vs):=by
 refine Att.attach_call hn hdf fun w s₀ s₁ mg mb fa o pm cd doc a vs ns G Y ho hd hcd hmg hobj hints hlen hg=>?_
 have KX:=hY w _ Y; obtain ⟨hT,fd,hb,hF⟩:=F w mg fa _ KX G.T.g hmg
 exact zmx T KX G.T.g G.T.b G.T.builtins G.T.nolimit G.T.bmain hg hobj hints (Nat.le_trans hlen (by decide)) hr (fun b q e=>⟨hYT w _ Y b q e,hT b q e⟩) hF hb (fun H hS=>zlV _ H a ns hlen hS) fun _ _ _ z=>z
end PL
namespace PL
open PySem L2
def zpX (R:D->D->Prop):Sp':=fun ds Q=>∃ d k,ds=[d]/\R d k/\Q (.val k)
theorem zlT (R:D->D->Prop) {x:Str}:∀ ds Q,zpX R ds Q->ds.length=[x].length:=fun _ _ ⟨_,_,e,_⟩=>by rw [e]; rfl
theorem znG {R:D->D->Prop} {x k:D} (h:R x k):zpX R [x] fun r=>r=.val k:=⟨x,k,rfl,h,rfl⟩
end PL
namespace PL
open PySem L2
section
variable {X:Cx} {pos:Pos}
def zfd (i:Nat) (te:TE'):TS':=fun N Γ=>∃ a,Γ[i]?=some (.val (.int a))/\te Γ fun d Γ1=>∃ b,d=.int b/\N.nx (Γ1.set i (.val (.int (a+b))))
theorem zql (i:Nat) {x:Str} {e:Expr} {te:TE'} {pos':Pos} (hN:X.N.Nodup) (he:PE' X e te) (hi:X.N[i]?=some x:=by rfl) (hx:Loc X.env.scope x:=by first | exact Or.inl rfl | exact Or.inr rfl)
  (hf:X.fn x=true\/X.env.scope.names.lookup x=some .local:=by first | exact .inl rfl | exact .inr rfl | assumption):PS' X (.AugAssign (.Name x pos') .Add e pos) (zfd i te):=by
 refine ⟨PS.weak (zsy (i:=i) (ti:=rI0 fun i j=>.int (i+j)) hN hi hx he.h (fun pins s σ H x y v u Q I rx ry q=>zwI zrj I rx ry q) hf) ?_⟩
 rintro N2 σ H ⟨W,Hi,Γ,N,g,⟨a,ha,h⟩,l⟩
 obtain ⟨v,e1,d1⟩:=g.val i _ ha; rw [d1.intI] at e1; refine ⟨.int a,e1,W,Hi,Γ,_,g,h,?_⟩
 rintro v H1 ⟨Hi1,d,Γ1,s1,g1,den,b,rfl,q⟩
 rw [den.intI]; exact ⟨a,b,rfl,rfl,l.nx _ H1 Hi1 _ s1 (g1.set (List.getElem?_eq_some_iff.mp hi).1 (.int _)) q⟩
instance {i:Nat} {te:TE'} [ME te]:MS (zfd i te):=⟨fun N N' Γ h ⟨a,ha,q⟩=>⟨a,ha,ME.mono (t:=te) Γ _ _ (fun d Γ1 ⟨b,e,z⟩=>⟨b,e,h.nx _ z⟩) q⟩⟩
end
end PL
namespace MS
open PySem L2 PL
theorem zmv:∀ (N:Nat) (l:List Nat),l.Nodup->(∀ x,x ∈ l->x<N)->l.length<=N
 | 0,l,_,h=>by
  cases l with
  | nil=>simp
  | cons a r=>exact absurd (h a (by simp)) (by omega)
 | N+1,l,hd,h=>by
  by_cases e:N ∈ l
  ·have:=zmv N (l.erase N) (hd.erase N) fun x hx=>by
    have h1:=h x (List.mem_of_mem_erase hx)
    have h2:x≠N:=fun z=>by rw [z] at hx; exact (hd.not_mem_erase) hx
    omega
   rw [List.length_erase_of_mem e] at this; omega
  ·have:=zmv N l hd fun x hx=>by
    have h1:=h x hx
    have h2:x≠N:=fun z=>e (z ▸ hx)
    omega
   omega
theorem ztw:∀ (N:Nat) (l:List Nat),l.Nodup->(∀ x,x ∈ l->x<N)->l.length=N->∀ i,i<N->i ∈ l
 | 0,_,_,_,_,i,hi=>absurd hi (by omega)
 | N+1,l,hd,h,hl,i,hi=>by
  by_cases e:N ∈ l
  ·by_cases z:i=N
   ·rw [z]; exact e
   ·refine List.mem_of_mem_erase (ztw N (l.erase N) (hd.erase N) (fun x hx=>?_) (by rw [List.length_erase_of_mem e]; omega) i (by omega))
    have h1:=h x (List.mem_of_mem_erase hx)
    have h2:x≠N:=fun z=>by rw [z] at hx; exact (hd.not_mem_erase) hx
    omega
  ·have:=zmv N l hd fun x hx=>by
    have h1:=h x hx
    have h2:x≠N:=fun z=>e (z ▸ hx)
    omega
   omega
theorem irr {lt:Nat->Nat->Bool} (o:So.Ord lt) {a:Nat} (h:So.L lt a a):False:=by
 rcases h with h | ⟨_,h⟩
 ·have:=o.asym a a h
  rw [h] at this; cases this
 ·omega
theorem zcS {lt:Nat->Nat->Bool} (o:So.Ord lt) {N:Nat} (hN:1<=N):(So.run lt (W.kas_sort N)).toList.Nodup/\(So.run lt (W.kas_sort N)).toList.length=N/\(∀ i,i ∈ (So.run lt (W.kas_sort N)).toList↔i<N):=by
 obtain ⟨b,s⟩:=So.sort o hN
 have hl:(So.run lt (W.kas_sort N)).toList.length=N:=by rw [Array.length_toList]; exact b.size
 have lo:=(zgR o hN).2
 have gg:∀ i (hi:i<(So.run lt (W.kas_sort N)).toList.length),So.g (So.run lt (W.kas_sort N)) i=(So.run lt (W.kas_sort N)).toList[i]:=fun i hi=>by
  rw [So.g_eq]
  have hi':i<(So.run lt (W.kas_sort N)).size:=by simpa using hi
  rw [Array.getElem?_eq_getElem hi']; simp
 have nd:(So.run lt (W.kas_sort N)).toList.Nodup:=by
  rw [List.nodup_iff_pairwise_ne,List.pairwise_iff_getElem]; intro i j hi hj hij e
  have z:=s i j hij (by omega)
  rw [gg i hi,gg j hj,e] at z; exact irr o z
 exact ⟨nd,hl,fun i=>⟨lo i,ztw N _ nd lo hl i⟩⟩
section
variable {α:Type} {lt:Nat->Nat->Bool}
def srt (lt:Nat->Nat->Bool) (d:α) (ps:List α):List α:=if ps.length<2 then ps else (So.run lt (W.kas_sort ps.length)).toList.map fun i=>ps.getD i d
theorem zlR (o:So.Ord lt) (d:α) (ps:List α) (q:α):q ∈ srt lt d ps↔q ∈ ps:=by
 unfold srt; split
 ·rfl
 ·rename_i h
  obtain ⟨_,_,m⟩:=zcS o (N:=ps.length) (by omega)
  rw [List.mem_map]; constructor
  ·rintro ⟨i,hi,rfl⟩
   have hi':=(m i).mp hi; simp only [List.getD,List.getElem?_eq_getElem hi',Option.getD_some]; exact List.getElem_mem hi'
  ·intro hq
   obtain ⟨i,hi,e⟩:=List.getElem_of_mem hq
   exact ⟨i,(m i).mpr hi,by simp only [List.getD,List.getElem?_eq_getElem hi,Option.getD_some]; exact e⟩
theorem zlS (o:So.Ord lt) (d:α) (ps:List α):(srt lt d ps).length=ps.length:=by
 unfold srt; split
 ·rfl
 ·rename_i h
  obtain ⟨_,hl,_⟩:=zcS o (N:=ps.length) (by omega)
  rw [List.length_map,hl]
theorem zlQ (o:So.Ord lt) (d:α) {ps:List α} (hd:ps.Nodup):(srt lt d ps).Nodup:=by
 unfold srt; split
 ·exact hd
 ·rename_i h
  obtain ⟨nd,_,m⟩:=zcS o (N:=ps.length) (by omega)
  rw [List.nodup_iff_pairwise_ne,List.pairwise_map]; refine List.Pairwise.imp_of_mem ?_ (List.nodup_iff_pairwise_ne.mp nd); intro i j hi hj hij e; have hi':=(m i).mp hi; have hj':=(m j).mp hj; simp only [List.getD,List.getElem?_eq_getElem hi',List.getElem?_eq_getElem hj',Option.getD_some] at e; exact hij ((List.getElem_inj hd).mp e)
theorem zpV (f:α->D) (d:α) (ps:List α) (o:So.Ord lt):zkU lt (ps.map f)=(srt lt d ps).map f:=by
 unfold zkU srt; rw [List.length_map]; split
 ·rfl
 ·rename_i h
  obtain ⟨_,_,m⟩:=zcS o (N:=ps.length) (by omega)
  rw [List.map_map]
  refine List.map_congr_left fun i hi=>?_
  have hi':=(m i).mp hi; simp [List.getD,List.getElem?_eq_getElem hi']
end
end MS
namespace M04
open PySem L2 Lb PL MT MS
abbrev Nd:=List (Pl × Pl)
def keys (ns:Nd):List Pl:=ns.map (·.1)
structure NOk (ns:Nd):Prop where
 nil:[] ∈ keys ns
 nd:(keys ns).Nodup
 len:∀ q,q ∈ keys ns->q.length<=8
 up:∀ q,q ∈ keys ns->q.dropLast ∈ keys ns
 lab:∀ q,q ∈ keys ns->∀ l,l ∈ q->zy l=true
 many:ns.length<=60
def zaO (q:Pl):List Nat:=q.getLast?.getD []
def zbv (l:List Nat):Int × List Nat:=((PySem.intText? (st (cut l))).getD 0,zdw l)
def zua (q:Pl):Int × List Nat:=zbv (zaO q)
def zb1 (ns:Nd) (p:Pl):List Pl:=(keys ns).filter fun q=>decide (q.length=p.length+1) && decide (q.dropLast=p)
def zbt (ns:Nd) (p:Pl):List Pl:=srt (ltP ((zb1 ns p).map zua)) [] (zb1 ns p)
def zhG (ns:Nd) (p:Pl):Pl:=(ns.lookup p).getD []
theorem zex (p:Pl) (l:List Nat):zaO (p ++ [l])=l:=by simp [zaO]
theorem zpY {p q:Pl} (h1:q.length=p.length+1) (h2:q.dropLast=p):q=p ++ [zaO q]:=by
 have hne:q≠[]:=fun z=>by rw [z] at h1; simp at h1
 rw [<- h2]; unfold zaO; rw [List.getLast?_eq_some_getLast hne]; exact (List.dropLast_concat_getLast hne).symm
theorem zfE {ns:Nd} {p q:Pl}:q ∈ zb1 ns p↔q ∈ keys ns/\q=p ++ [zaO q]:=by
 unfold zb1; rw [List.mem_filter]; simp only [Bool.and_eq_true,decide_eq_true_eq]; constructor
 ·rintro ⟨h,h1,h2⟩
  exact ⟨h,zpY h1 h2⟩
 ·rintro ⟨h,e⟩
  refine ⟨h,?_,?_⟩
  ·rw [e]; simp
  ·rw [e]; simp
theorem zbc {ns:Nd} {p q:Pl}:q ∈ zbt ns p↔q ∈ keys ns/\q=p ++ [zaO q]:=by
 unfold zbt; rw [zlR (zh6 _),zfE]
theorem zli {ns:Nd} (o:NOk ns) (p:Pl):(zbt ns p).Nodup:=zlQ (zh6 _) _ (o.nd.sublist List.filter_sublist)
def zbd:Nat->Nd->Pl->Tr
 | 0,ns,p=>.node (zaO p) (zhG ns p) []
 | n+1,ns,p=>.node (zaO p) (zhG ns p) ((zbt ns p).map (zbd n ns))
theorem zgM (n:Nat) (ns:Nd) (p:Pl):(zbd n ns p).lab=zaO p:=by cases n <;> rfl
def zdM:Nat->Nd->Pl->List Pl
 | 0,_,p=>[p]
 | n+1,ns,p=>p :: (zbt ns p).flatMap (zdM n ns)
mutual
def zn2:Tr->Pl->List Pl
 | .node _ _ ks,p=>p :: zg5 ks p
def zg5:List Tr->Pl->List Pl
 | [],_=>[]
 | k :: ks,p=>zn2 k (p ++ [k.lab]) ++ zg5 ks p
end
theorem zkb (p:Pl):∀ ks:List Tr,zg5 ks p=ks.flatMap fun k=>zn2 k (p ++ [k.lab])
 | []=>by simp [zg5]
 | k :: ks=>by simp [zg5,zkb p ks]
theorem zqm (t:Tr) (p:Pl):zn2 t p=p :: t.kds.flatMap fun k=>zn2 k (p ++ [k.lab]):=by
 cases t with
 | node l ws ks=>simp [zn2,zkb,Tr.kds]
theorem zgl {α β:Type} {l:List α} {f g:α->List β} (h:∀ a,a ∈ l->f a=g a):l.flatMap f=l.flatMap g:=by
 induction l with
 | nil=>rfl
 | cons a l ih =>
  rw [List.flatMap_cons,List.flatMap_cons,h a (by simp),ih fun b hb=>h b (by simp [hb])]
theorem zka (ns:Nd):∀ (n:Nat) (p:Pl),zn2 (zbd n ns p) p=zdM n ns p
 | 0,p=>by simp [zbd,zn2,zg5,zdM]
 | n+1,p=>by
  rw [zqm]
  show p :: ((zbt ns p).map (zbd n ns)).flatMap _=p :: _
  rw [List.flatMap_map]
  congr 1
  refine zgl fun q hq=>?_
  have e:=(zbc.mp hq).2; rw [zgM,<- e]; exact zka ns n q
theorem zit {ns:Nd} (o:NOk ns) {p:Pl} (h:8<=p.length):zbt ns p=[]:=by
 rw [List.eq_nil_iff_forall_not_mem]; intro q hq; obtain ⟨h1,h2⟩:=zbc.mp hq
 have:=o.len q h1
 rw [h2] at this
 simp at this
 omega
theorem zim {α:Type} [DecidableEq α]:∀ (l ks:List α),l.Nodup->(∀ x,x ∈ l->x ∈ ks)->l.length<=ks.length
 | [],_,_,_=>by simp
 | a :: l,ks,hd,h=>by
  have ha:=h a (by simp)
  have hd':=List.nodup_cons.mp hd
  have:=zim l (ks.erase a) hd'.2 fun x hx=>(List.mem_erase_of_ne (show x≠a from fun z=>hd'.1 (by rw [<- z]; exact hx))).mpr (h x (by simp [hx]))
  rw [List.length_erase_of_mem ha] at this
  have:0<ks.length:=List.length_pos_of_mem ha
  simp only [List.length_cons]; omega
theorem zgz {α β:Type} {f:α->List β}:∀ {l:List α},l.Nodup->(∀ a,a ∈ l->(f a).Nodup)->(∀ a b x,a ∈ l->b ∈ l->x ∈ f a->x ∈ f b->a=b)->(l.flatMap f).Nodup
 | [],_,_,_=>by simp
 | a :: l,hd,h1,h2=>by
  have hd':=List.nodup_cons.mp hd; rw [List.flatMap_cons,List.nodup_append]
  refine ⟨h1 a (by simp),zgz hd'.2 (fun b hb=>h1 b (by simp [hb])) (fun b c x hb hc=>h2 b c x (by simp [hb]) (by simp [hc])),fun x hx y hy e=>?_⟩
  subst e; obtain ⟨b,hb,hy⟩:=List.mem_flatMap.mp hy
  have:=h2 a b x (by simp) (by simp [hb]) hx hy
  exact hd'.1 (this ▸ hb)
theorem zd5 {ns:Nd}:∀ (n:Nat) (p q:Pl),p ∈ keys ns->q ∈ zdM n ns p->q ∈ keys ns/\p <+: q
 | 0,p,q,hp,h=>by
  have:q=p:=by simpa [zdM] using h
  rw [this]; exact ⟨hp,List.prefix_refl _⟩
 | n+1,p,q,hp,h=>by
  rcases List.mem_cons.mp h with rfl | h
  ·exact ⟨hp,List.prefix_refl _⟩
  ·obtain ⟨c,hc,h⟩:=List.mem_flatMap.mp h
   obtain ⟨h1,h2⟩:=zbc.mp hc; obtain ⟨h3,h4⟩:=zd5 n c q h1 h
   have h5:p <+: c:=by rw [h2]; exact List.prefix_append _ _
   exact ⟨h3,h5.trans h4⟩
theorem zn1 {c d q:Pl} (h1:c <+: q) (h2:d <+: q) (h:c.length=d.length):c=d:=by
 rw [List.prefix_iff_eq_take.mp h1,List.prefix_iff_eq_take.mp h2,h]
theorem zfK {ns:Nd} {p q:Pl} (h:q ∈ zbt ns p):q.length=p.length+1:=by
 have:=(zbc.mp h).2
 rw [this]; simp
theorem zgm {ns:Nd} (o:NOk ns):∀ (n:Nat) (p:Pl),(zdM n ns p).Nodup
 | 0,p=>by simp [zdM]
 | n+1,p=>by
  show (p :: _).Nodup
  rw [List.nodup_cons]
  refine ⟨fun h=>?_,zgz (zli o p) (fun c _=>zgm o n c) fun c d q hc hd h1 h2=>?_⟩
  ·obtain ⟨c,hc,h⟩:=List.mem_flatMap.mp h
   have h4:=(zd5 n c p (zbc.mp hc).1 h).2.length_le
   have:=zfK hc
   omega
  ·exact zn1 (zd5 n c q (zbc.mp hc).1 h1).2 (zd5 n d q (zbc.mp hd).1 h2).2 (by rw [zfK hc,zfK hd])
theorem znv {ns:Nd} (o:NOk ns) (n:Nat) {p:Pl} (hp:p ∈ keys ns):(zdM n ns p).length<=60:=by
 have:=zim (zdM n ns p) (keys ns) (zgm o n p) fun q hq=>(zd5 n p q hp hq).1
 have h:=o.many; unfold keys at this; rw [List.length_map] at this; omega
end M04
namespace PySem
section
variable {prog:Program} {w:World} {A:Around} {E:Value->Shared->Prop} {s:Shared} {dd:Addr} {ob:Obj} {ens:Array DictEntry} {tick:Nat}
open PyProof.Rows in
end
end PySem
namespace L2
open PySem PySem.Spec PyProof.Rows PySem.W
section
variable {X:Cx} {pins:List (Addr × Obj)} {σ:St} {H:Hp} {s:Shared} {a:Addr}
end
section
variable {X:Cx} {o e f:Expr} {apos cpos:Pos} {td ty tx:TE}
end
end L2
namespace L2
open PySem PySem.Spec PyProof.Rows PySem.W
section
variable {X:Cx} {pins:List (Addr × Obj)} {σ:St} {H:Hp} {s:Shared} {h':Heap}
end
end L2
namespace PL
open PySem L2
section
variable {X:Cx}
end
end PL
namespace PL
open PySem L2
section
variable {X:Cx}
end
end PL
namespace M70
open PySem L2 Lb PL MT MS M04
open PySem.NumText (digitsVal)
theorem zjI (l:List Nat) (c:Nat):digitsVal (l ++ [c])=digitsVal l * 10+(c-48):=by simp [digitsVal,List.foldl_append]
theorem zkx:∀ (n:Nat) {l:List Nat},l.length<=n->(∀ c ∈ l,Dig c)->l≠[]->l[0]?≠some 48->1<=digitsVal l
 | 0,l,hl,_,hn,_=>absurd (List.length_eq_zero_iff.mp (by omega)) hn
 | n+1,l,hl,hd,hn,h0=>by
  rcases List.eq_nil_or_concat l with e | ⟨l',c,e⟩
  ·exact absurd e hn
  ·rw [List.concat_eq_append] at e
   subst e; rw [zjI]
   by_cases z:l'=[]
   ·subst z
    have:=hd c (by simp)
    have:c≠48:=fun e=>h0 (by simp [e])
    unfold Dig at *
    simp [digitsVal]; omega
   ·have:=zkx n (l:=l') (by simp at hl; omega) (fun c hc=>hd c (by simp [hc])) z (by
     rw [List.getElem?_append_left (by cases l' with | nil=>exact absurd rfl z | cons _ _=>simp)] at h0
     exact h0)
    omega
theorem ztu:∀ (n:Nat) {l m:List Nat},l.length<=n->(∀ c ∈ l,Dig c)->(∀ c ∈ m,Dig c)->l[0]?≠some 48->m[0]?≠some 48->digitsVal l=digitsVal m->l=m:=by
 intro n
 induction n with
 | zero =>
  intro l m hl h1 h2 h3 h4 e
  have:l=[]:=List.length_eq_zero_iff.mp (by omega)
  subst this
  by_cases z:m=[]
  ·rw [z]
  ·have:=zkx _ (Nat.le_refl _) h2 z h4
   rw [<- e] at this; simp [digitsVal] at this
 | succ n ih =>
  intro l m hl h1 h2 h3 h4 e
  rcases List.eq_nil_or_concat l with z | ⟨l',c,z⟩
  ·subst z
   by_cases z:m=[]
   ·rw [z]
   ·have:=zkx _ (Nat.le_refl _) h2 z h4
    rw [<- e] at this; simp [digitsVal] at this
  ·rcases List.eq_nil_or_concat m with y | ⟨m',d,y⟩
   ·subst y
    have:=zkx _ (Nat.le_refl _) h1 (by rw [z]; simp) h3
    rw [e] at this; simp [digitsVal] at this
   ·rw [List.concat_eq_append] at z y
    subst z y
    rw [zjI,zjI] at e
    have hc:=h1 c (by simp)
    have hd:=h2 d (by simp)
    unfold Dig at hc hd
    have e1:digitsVal l'=digitsVal m':=by omega
    have e2:c=d:=by omega
    have hd:∀ (a:List Nat) (x:Nat),(a ++ [x])[0]?≠some 48->a[0]?≠some 48:=fun a x h=>by
     cases a with
     | nil=>simp
     | cons y r=>simpa using h
    rw [ih (by simp at hl; omega) (fun x hx=>h1 x (by simp [hx])) (fun x hx=>h2 x (by simp [hx])) (hd _ _ h3) (hd _ _ h4) e1,e2]
theorem ziK {l:List Nat} (h:zy l=true):(∀ c ∈ cut l,Dig c)/\(cut l)[0]?≠some 48/\PySem.intText? (st (cut l))=some ((digitsVal (cut l):Nat):Int):=by
 unfold zy at h; simp only [Bool.and_eq_true,decide_eq_true_eq,List.all_eq_true] at h
 obtain ⟨⟨⟨⟨a1,a2⟩,b⟩,c⟩,d⟩:=h
 have hd:∀ x ∈ cut l,Dig x:=fun x hx=>(ze0 x).mp (by simpa [dig] using c x hx)
 refine ⟨hd,b,?_⟩
 have q:=PySem.intText_digits (x:=st (cut l)) (by rw [zV]; exact hd) (by rw [zV]; exact fun z=>by rw [z] at a1; simp at a1) (by rw [zbF]; omega)
 rw [zV] at q; exact q
theorem zko {l m:List Nat} (hl:zy l=true) (hm:zy m=true) (e:zbv l=zbv m):l=m:=by
 obtain ⟨a1,a2,a3⟩:=ziK hl; obtain ⟨b1,b2,b3⟩:=ziK hm; unfold zbv at e; rw [a3,b3] at e
 injection e with e1 e2
 have e3:digitsVal (cut l)=digitsVal (cut m):=by
  simp only [Option.getD_some] at e1; omega
 rw [<- zfX l,<- zfX m,e2,ztu _ (Nat.le_refl _) a1 b1 a2 b2 e3]
def klt (p q:Int × List Nat):Prop:=p.1<q.1\/(p.1=q.1/\p.2<q.2)
theorem zjD (p:Int × List Nat):¬ klt p p:=by
 rintro (h | ⟨_,h⟩)
 ·omega
 ·exact List.lt_irrefl _ h
theorem zoB {p q:Int × List Nat} (h:klt p q):¬ klt q p:=by
 rintro (h' | ⟨h1,h2⟩)
 ·rcases h with h | ⟨h,_⟩ <;> omega
 ·rcases h with h | ⟨_,h⟩
  ·omega
  ·exact List.lt_irrefl _ (List.lt_trans h h2)
theorem zmA (p q:Int × List Nat):klt p q\/klt q p\/p=q:=by
 unfold klt
 rcases Int.lt_trichotomy p.1 q.1 with h | h | h
 ·exact .inl (.inl h)
 ·by_cases h1:p.2<q.2
  ·exact .inl (.inr ⟨h,h1⟩)
  ·by_cases h2:q.2<p.2
   ·exact .inr (.inl (.inr ⟨h.symm,h2⟩))
   ·refine .inr (.inr (Prod.ext h ?_))
    exact List.le_antisymm (List.not_lt.mp h2) (List.not_lt.mp h1)
 ·exact .inr (.inl (.inl h))
def Ris (L:List (List Nat)):Prop:=L.Pairwise fun a b=>klt (zbv a) (zbv b)
theorem Ris.nodup {L:List (List Nat)} (h:Ris L):L.Nodup:=by
 rw [List.nodup_iff_pairwise_ne]; refine List.Pairwise.imp ?_ h; intro a b hk e; rw [e] at hk; exact zjD _ hk
theorem zjb:∀ {L M:List (List Nat)},Ris L->Ris M->(∀ x,x ∈ L↔x ∈ M)->L=M
 | [],[],_,_,_=>rfl
 | [],b :: M,_,_,h=>absurd ((h b).mpr List.mem_cons_self) (by simp)
 | a :: L,[],_,_,h=>absurd ((h a).mp List.mem_cons_self) (by simp)
 | a :: L,b :: M,h1,h2,h=>by
  unfold Ris at h1 h2; rw [List.pairwise_cons] at h1 h2
  have e:a=b:=by
   rcases List.mem_cons.mp ((h a).mp List.mem_cons_self) with z | z
   ·exact z
   ·rcases List.mem_cons.mp ((h b).mpr List.mem_cons_self) with y | y
    ·exact y.symm
    ·exact absurd (h2.1 a z) (zoB (h1.1 b y))
  subst e
  have:L=M:=zjb h1.2 h2.2 fun x=>by
   constructor
   ·intro hx
    rcases List.mem_cons.mp ((h x).mp (List.mem_cons_of_mem _ hx)) with z | z
    ·exact absurd (h1.1 x hx) (by rw [z]; exact zjD _)
    ·exact z
   ·intro hx
    rcases List.mem_cons.mp ((h x).mpr (List.mem_cons_of_mem _ hx)) with z | z
    ·exact absurd (h2.1 x hx) (by rw [z]; exact zjD _)
    ·exact z
  rw [this]
theorem zhN {ls:List (List Nat)} (nd:ls.Nodup) (hp:∀ l ∈ ls,zy l=true):Ris (srt (ltP (ls.map zbv)) [] ls):=by
 unfold srt; split
 ·rename_i h
  match ls,h with
  | [],_=>exact .nil
  | [a],_=>exact List.pairwise_singleton _ _
 ·rename_i h
  have o:=zh6 (ls.map zbv)
  obtain ⟨nd2,hl,m⟩:=zcS o (N:=ls.length) (by omega)
  obtain ⟨b,s⟩:=So.sort o (N:=ls.length) (by omega)
  have hsz:(So.run (ltP (ls.map zbv)) (W.kas_sort ls.length)).size=ls.length:=b.size
  unfold Ris; rw [List.pairwise_map,List.pairwise_iff_getElem]; intro i j hi hj hij
  have z:=s i j hij (by omega)
  have gg:∀ i (hi:i<(So.run (ltP (ls.map zbv)) (W.kas_sort ls.length)).toList.length),So.g (So.run (ltP (ls.map zbv)) (W.kas_sort ls.length)) i=(So.run (ltP (ls.map zbv)) (W.kas_sort ls.length)).toList[i]:=fun i hi=>by
   rw [So.g_eq]
   have hi':i<(So.run (ltP (ls.map zbv)) (W.kas_sort ls.length)).size:=by simpa using hi
   rw [Array.getElem?_eq_getElem hi']; simp
  rw [gg i hi,gg j hj] at z; have ha:=(m _).mp (List.getElem_mem hi); have hb:=(m _).mp (List.getElem_mem hj)
  have hne:(So.run (ltP (ls.map zbv)) (W.kas_sort ls.length)).toList[i]≠(So.run (ltP (ls.map zbv)) (W.kas_sort ls.length)).toList[j]:=fun e=>by
   have:=(List.getElem_inj nd2).mp e
   omega
  generalize (So.run (ltP (ls.map zbv)) (W.kas_sort ls.length)).toList[i]=a at *; generalize (So.run (ltP (ls.map zbv)) (W.kas_sort ls.length)).toList[j]=c at *; simp only [List.getD,List.getElem?_eq_getElem ha,List.getElem?_eq_getElem hb,Option.getD_some]
  have k1:∀ x (hx:x<ls.length),(ls.map zbv).getD x (0,[])=zbv ls[x]:=fun x hx=>by simp [List.getD,List.getElem?_map,List.getElem?_eq_getElem hx]
  have lt_iff:∀ x y (hx:x<ls.length) (hy:y<ls.length),ltP (ls.map zbv) x y=true↔klt (zbv ls[x]) (zbv ls[y]):=fun x y hx hy=>by
   unfold ltP klt; rw [k1 x hx,k1 y hy]; simp only [decide_eq_true_eq]
  rcases z with z | ⟨z,_⟩
  ·exact (lt_iff a c ha hb).mp z
  ·rcases zmA (zbv ls[a]) (zbv ls[c]) with y | y | y
   ·exact y
   ·rw [(lt_iff c a hb ha).mpr y] at z
    cases z
   ·exact absurd ((List.getElem_inj nd).mp (zko (hp _ (List.getElem_mem ha)) (hp _ (List.getElem_mem hb)) y)) hne
def znI (ls:List (List Nat)):List (List Nat):=srt (ltP (ls.map zbv)) [] ls
theorem zhO (ls:List (List Nat)) (l:List Nat):l ∈ znI ls↔l ∈ ls:=zlR (zh6 _) _ _ _
end M70
namespace M71
open PySem L2 Lb PL MT MS M04 M70
theorem zkp (l:List Nat) (ws:Pl) (ks:List Tr):(Tr.node l ws ks).kds=ks:=rfl
def zaD (ks:List Tr):List (List Nat):=ks.map Tr.lab
theorem zbO {l:List Nat} {ks:List Tr} {k:Tr} (h:zi l ks=some k):k ∈ ks/\k.lab=l:=by
 unfold zi at h
 exact ⟨List.mem_of_find?_eq_some h,by simpa using List.find?_some h⟩
theorem zdJ {l:List Nat} {ks:List Tr}:zi l ks=none↔l ∉ zaD ks:=by
 unfold zi zaD; rw [List.find?_eq_none,List.mem_map]; constructor
 ·rintro h ⟨k,hk,e⟩
  exact h k hk (by simpa using e)
 ·intro h k hk e
  exact h ⟨k,hk,by simpa using e⟩
theorem zhl {l:List Nat} {ks:List Tr} (h:l ∈ zaD ks):∃ k,zi l ks=some k:=by
 cases e:zi l ks with
 | none=>exact absurd h (zdJ.mp e)
 | some k=>exact ⟨k,rfl⟩
theorem zcm:∀ {ks:List Tr} {k:Tr},(zaD ks).Nodup->k ∈ ks->zi k.lab ks=some k
 | k' :: ks,k,hn,h=>by
  unfold zaD at hn; rw [List.map_cons,List.nodup_cons] at hn
  rcases List.mem_cons.mp h with rfl | h
  ·simp [zi]
  ·have ne:¬ k'.lab=k.lab:=fun e=>hn.1 (by rw [e]; exact List.mem_map_of_mem h)
   have:=zcm (ks:=ks) hn.2 h
   unfold zi at this ⊢
   rw [List.find?_cons]; simp [ne,this]
def zvG (acc:List Tr) (k:Tr):List Tr:=if k.lab ∈ zaD acc then acc else acc ++ [k]
def ddp (ks:List Tr):List Tr:=ks.foldl zvG []
structure Ddp (ks acc:List Tr):Prop where
 nd:(zaD acc).Nodup
 mem:∀ k ∈ acc,k ∈ ks
 cov:∀ k ∈ ks,k.lab ∈ zaD acc
 len:acc.length<=ks.length
theorem zhk (a b:List Tr):zaD (a ++ b)=zaD a ++ zaD b:=List.map_append
theorem Ddp.add {ks acc:List Tr} (h:Ddp ks acc) (k:Tr):Ddp (ks ++ [k]) (zvG acc k):=by
 unfold zvG; split
 ·rename_i e
  refine ⟨h.nd,fun x hx=>List.mem_append_left _ (h.mem x hx),fun x hx=>?_,by have:=h.len; simp; omega⟩
  rcases List.mem_append.mp hx with z | z
  ·exact h.cov x z
  ·rw [List.mem_singleton.mp z]; exact e
 ·rename_i e
  refine ⟨?_,fun x hx=>?_,fun x hx=>?_,by have:=h.len; simp; omega⟩
  ·rw [zhk,List.nodup_append]
   refine ⟨h.nd,by simp [zaD],fun a ha b hb z=>?_⟩
   have:b=k.lab:=by simpa [zaD] using hb
   exact e (by rw [<- this,<- z]; exact ha)
  ·rcases List.mem_append.mp hx with z | z
   ·exact List.mem_append_left _ (h.mem x z)
   ·exact List.mem_append_right _ z
  ·rw [zhk]
   rcases List.mem_append.mp hx with z | z
   ·exact List.mem_append_left _ (h.cov x z)
   ·rw [List.mem_singleton.mp z]; simp [zaD]
theorem zkD (ks:List Tr):∀ i,i<=ks.length->Ddp (ks.take i) (ddp (ks.take i))
 | 0,_=>⟨by simp [ddp,zaD],fun k h=>by simp [ddp] at h,fun k h=>by simp at h,by simp [ddp]⟩
 | i+1,h=>by
  have e:ks.take (i+1)=ks.take i ++ [ks[i]'(by omega)]:=(List.take_append_getElem (by omega)).symm
  rw [e]
  have:=(zkD ks i (by omega)).add (ks[i]'(by omega))
  unfold ddp at this ⊢
  rw [List.foldl_append]; exact this
theorem zgD (ks:List Tr):Ddp ks (ddp ks):=by
 have:=zkD ks ks.length (Nat.le_refl _)
 rwa [List.take_length] at this
def zlw (L:List (List Nat)) (acc:List Tr):List Tr:=L.filterMap fun l=>zi l acc
theorem zh3:∀ {L:List (List Nat)} {acc:List Tr},(∀ l ∈ L,l ∈ zaD acc)->zaD (zlw L acc)=L
 | [],_,_=>rfl
 | l :: L,acc,h=>by
  obtain ⟨k,hk⟩:=zhl (h l List.mem_cons_self)
  have ih:=zh3 (L:=L) (acc:=acc) fun l hl=>h l (List.mem_cons_of_mem _ hl)
  unfold zlw at ih ⊢
  rw [List.filterMap_cons_some (f:=fun l=>zi l acc) hk]
  unfold zaD at ih ⊢
  rw [List.map_cons,ih,(zbO hk).2]
theorem zeZ {L:List (List Nat)} {acc:List Tr} {k:Tr} (h:k ∈ zlw L acc):k ∈ acc:=by
 obtain ⟨l,_,e⟩:=List.mem_filterMap.mp h; exact (zbO e).1
inductive Wf (c:Nat):Nat->Tr->Prop where
 | mk {n:Nat} {l:List Nat} {ws:Pl} {ks:List Tr} (hk:∀ k ∈ ks,Wf c n k) (hp:∀ k ∈ ks,zy k.lab=true) (hn:Ris (zaD ks)) (hl:ks.length<=c+1) (hw:ws.length<=3 * c+3):Wf c (n+1) (.node l ws ks)
theorem Wf.pos {c n:Nat} {t:Tr} (h:Wf c n t):∃ m,n=m+1:=by cases h; exact ⟨_,rfl⟩
theorem Wf.kid {c n:Nat} {t:Tr} (h:Wf c (n+1) t):∀ k ∈ t.kds,Wf c n k:=by cases h; assumption
theorem Wf.plab {c n:Nat} {t:Tr} (h:Wf c n t):∀ k ∈ t.kds,zy k.lab=true:=by cases h; assumption
theorem Wf.ris {c n:Nat} {t:Tr} (h:Wf c n t):Ris (zaD t.kds):=by cases h; assumption
theorem Wf.nd {c n:Nat} {t:Tr} (h:Wf c n t):(zaD t.kds).Nodup:=h.ris.nodup
theorem Wf.few {c n:Nat} {t:Tr} (h:Wf c n t):t.kds.length<=c+1:=by cases h; assumption
theorem Wf.wfew {c n:Nat} {t:Tr} (h:Wf c n t):t.wds.length<=3 * c+3:=by cases h; assumption
theorem Wf.mk' {c n:Nat} {t:Tr} (hk:∀ k ∈ t.kds,Wf c n k) (hp:∀ k ∈ t.kds,zy k.lab=true) (hn:Ris (zaD t.kds)) (hl:t.kds.length<=c+1) (hw:t.wds.length<=3 * c+3):Wf c (n+1) t:=by
 cases t with
 | node l ws ks=>exact .mk hk hp hn hl hw
theorem Wf.up {c n:Nat} {t:Tr} (h:Wf c n t):∀ {d m:Nat},c<=d->n<=m->Wf d m t:=by
 induction h with
 | @mk n l ws ks hk hp hn hl hw ih =>
  intro d m h1 h2
  obtain ⟨m',rfl⟩:∃ m',m=m'+1:=⟨m-1,by omega⟩
  exact .mk (fun k hk'=>ih k hk' h1 (by omega)) hp hn (by omega) (by omega)
theorem Wf.kw {c n:Nat} {t k:Tr} {l:List Nat} (h:Wf c (n+1) t) (e:zi l t.kds=some k):Wf c n k:=h.kid k (zbO e).1
theorem Wf.at {c:Nat}:∀ {p:Pl} {n:Nat} {t nd:Tr},Wf c n t->zp t p=some nd->p.length<n/\Wf c (n-p.length) nd
 | [],n,t,nd,h,e=>by
  obtain ⟨m,rfl⟩:=h.pos; simp only [zp,Option.some.injEq] at e; subst e
  exact ⟨by simp,by simpa using h⟩
 | l :: p,n,t,nd,h,e=>by
  obtain ⟨m,rfl⟩:=h.pos; simp only [zp] at e
  cases hk:zi l t.kds with
  | none=>rw [hk] at e; cases e
  | some k =>
   rw [hk] at e; obtain ⟨a,b⟩:=Wf.at (h.kw hk) e; rw [List.length_cons]
   refine ⟨by omega,?_⟩
   rw [show m+1-(p.length+1)=m-p.length by omega]
   exact b
theorem zhJ {α:Type} {f g:α->Nat}:∀ {l:List α},(∀ x ∈ l,f x=g x)->(l.map f).sum=(l.map g).sum
 | [],_=>rfl
 | x :: l,h=>by
  rw [List.map_cons,List.map_cons,List.sum_cons,List.sum_cons,h x List.mem_cons_self,zhJ fun y hy=>h y (List.mem_cons_of_mem _ hy)]
mutual
def cnt:Tr->Nat
 | .node _ _ ks=>1+zpK ks
def zpK:List Tr->Nat
 | []=>0
 | k :: ks=>cnt k+zpK ks
end
theorem zm5:∀ ks:List Tr,zpK ks=(ks.map cnt).sum
 | []=>by simp [zpK]
 | k :: ks=>by simp [zpK,zm5 ks]
theorem zdu (t:Tr):cnt t=1+(t.kds.map cnt).sum:=by
 cases t with
 | node l ws ks=>simp [cnt,zm5,Tr.kds]
mutual
theorem zkc:∀ (t:Tr) (p:Pl),(zn2 t p).length=cnt t
 | .node l ws ks,p=>by simp only [zn2,cnt,List.length_cons,zh2 ks p]; omega
theorem zh2:∀ (ks:List Tr) (p:Pl),(zg5 ks p).length=zpK ks
 | [],p=>by simp [zg5,zpK]
 | k :: ks,p=>by simp only [zg5,zpK,List.length_append,zkc k _,zh2 ks p]
end
theorem zgP {α:Type} (f:α->Nat) (a b:List α):((a ++ b).map f).sum=(a.map f).sum+(b.map f).sum:=by rw [List.map_append,List.sum_append]
theorem zi6 (f:Tr->Nat):∀ {ks' ks:List Tr},(zaD ks').Nodup->(∀ k ∈ ks',k ∈ ks)->(ks'.map f).sum<=(ks.map f).sum
 | [],ks,_,_=>by simp
 | k :: ks',ks,hn,h=>by
  unfold zaD at hn; rw [List.map_cons,List.nodup_cons] at hn; obtain ⟨a,b,e⟩:=List.append_of_mem (h k List.mem_cons_self)
  have ih:=zi6 f (ks':=ks') (ks:=a ++ b) hn.2 fun x hx=>by
   have hm:=h x (List.mem_cons_of_mem _ hx); rw [e] at hm
   rcases List.mem_append.mp hm with z | z
   ·exact List.mem_append_left _ z
   ·rcases List.mem_cons.mp z with z | z
    ·exact absurd (List.mem_map_of_mem hx) (by rw [z]; exact hn.1)
    ·exact List.mem_append_right _ z
  rw [e,zgP,List.map_cons,List.sum_cons,List.map_cons,List.sum_cons]; rw [zgP] at ih; omega
theorem zi7 {α:Type}:∀ l:List α,(l.map fun _=>1).sum=l.length
 | []=>rfl
 | a :: l=>by rw [List.map_cons,List.sum_cons,zi7 l,List.length_cons]; omega
theorem zjX {α:Type} (f:α->Nat) {a b:List α} (h:a.Sublist b):(a.map f).sum<=(b.map f).sum:=by
 induction h with
 | slnil=>simp
 | cons x h ih=>rw [List.map_cons,List.sum_cons]; omega
 | cons_cons x h ih=>rw [List.map_cons,List.sum_cons,List.map_cons,List.sum_cons]; omega
structure KidsOk (ks ks':List Tr):Prop where
 ris:Ris (zaD ks')
 mem:∀ k ∈ ks',k ∈ ks
 len:ks'.length<=ks.length
 cnt:(ks'.map cnt).sum<=(ks.map cnt).sum
theorem KidsOk.of {ks ks':List Tr} (h1:Ris (zaD ks')) (h2:∀ k ∈ ks',k ∈ ks):KidsOk ks ks' :=
 ⟨h1,h2,by have:=zi6 (fun _=>1) h1.nodup h2; rwa [zi7,zi7] at this,zi6 _ h1.nodup h2⟩
theorem KidsOk.nd {ks ks':List Tr} (h:KidsOk ks ks'):(zaD ks').Nodup:=h.ris.nodup
theorem zra {ks:List Tr} {L:List (List Nat)} (h1:Ris L) (h2:∀ l,l ∈ L->l ∈ zaD (ddp ks)):KidsOk ks (zlw L (ddp ks)):=by
 refine .of ?_ fun k hk=>(zgD ks).mem k (zeZ hk)
 rw [zh3 h2]; exact h1
def zgj (ks:List Tr):List Tr:=zlw (znI (zaD (ddp ks))) (ddp ks)
theorem ze1 {ks:List Tr} (hp:∀ k ∈ ks,zy k.lab=true):KidsOk ks (zgj ks):=by
 refine zra (zhN (zgD ks).nd fun l hl=>?_) fun l hl=>(zhO _ _).mp hl
 obtain ⟨k,hk,rfl⟩:=List.mem_map.mp hl; exact hp k ((zgD ks).mem k hk)
theorem ziu {ks:List Tr} (hn:(zaD ks).Nodup) {x:Tr}:x ∈ zgj ks↔x ∈ ks:=by
 constructor
 ·intro h
  exact (zgD ks).mem x (zeZ h)
 ·intro h
  have hl:=(zgD ks).cov x h; obtain ⟨k,hk⟩:=zhl hl; obtain ⟨k1,k2⟩:=zbO hk; have e1:=zcm hn ((zgD ks).mem k k1); have e2:=zcm hn h; rw [k2,e2] at e1; rw [<- Option.some.inj e1] at hk; exact List.mem_filterMap.mpr ⟨x.lab,(zhO _ _).mpr hl,hk⟩
def made:Tr->Pl->Pl->List Tr->Tr
 | t,[],ws,ks=>.node t.lab ws ks
 | t,l :: p,ws,ks=>.node t.lab t.wds (t.kds.map fun k=>if k.lab=l then made k p ws ks else k)
theorem zd8 (t:Tr) (p ws:Pl) (ks:List Tr):(made t p ws ks).lab=t.lab:=by cases p <;> simp [made,Tr.lab]
theorem zmt {l:List Nat} {p ws:Pl} {ks:List Tr} (r:List Tr):zaD (r.map fun k=>if k.lab=l then made k p ws ks else k)=zaD r:=by
 unfold zaD; rw [List.map_map]
 refine List.map_congr_left fun k _=>?_
 simp only [Function.comp]; split
 ·exact zd8 _ _ _ _
 ·rfl
theorem zev {c:Nat} {ws:Pl} {ks:List Tr}:∀ {p:Pl} {n:Nat} {t nd:Tr},Wf c n t->zp t p=some nd->Wf c (n-p.length) (.node nd.lab ws ks)->Wf c n (made t p ws ks)
 | [],n,t,nd,h,e,h'=>by
  simp only [zp,Option.some.injEq] at e; subst e
  simpa [made] using h'
 | l :: p,n,t,nd,h,e,h'=>by
  obtain ⟨m,rfl⟩:=h.pos; simp only [zp] at e
  cases hk:zi l t.kds with
  | none=>rw [hk] at e; cases e
  | some k =>
   rw [hk] at e
   rw [List.length_cons,show m+1-(p.length+1)=m-p.length by omega] at h'
   have hm:=zev (h.kw hk) e h'; simp only [made]
   have each:∀ k' ∈ (t.kds.map fun k=>if k.lab=l then made k p ws ks else k),Wf c m k'/\zy k'.lab=true:=by
    intro k' hk'; obtain ⟨k0,h0,rfl⟩:=List.mem_map.mp hk'
    by_cases e0:k0.lab=l
    ·have:k0=k:=by
      have:=zcm h.nd h0
      rw [e0,hk] at this; exact (Option.some.inj this).symm
     rw [if_pos e0]
     exact ⟨by rw [this]; exact hm,by rw [zd8]; exact h.plab k0 h0⟩
    ·rw [if_neg e0]
     exact ⟨h.kid k0 h0,h.plab k0 h0⟩
   exact .mk (fun k' h=>(each k' h).1) (fun k' h=>(each k' h).2) (by rw [zmt]; exact h.ris) (by rw [List.length_map]; exact h.few) h.wfew
theorem zlP {l:List Nat} {f g:Tr->Nat}:∀ {ks:List Tr} {k:Tr},(zaD ks).Nodup->zi l ks=some k->(ks.map fun k'=>if k'.lab=l then f k' else g k').sum+g k=(ks.map g).sum+f k
 | k' :: ks,k,hn,h=>by
  unfold zaD at hn; rw [List.map_cons,List.nodup_cons] at hn; unfold zi at h; rw [List.find?_cons] at h; simp only [List.map_cons,List.sum_cons]
  by_cases e:k'.lab=l
  ·simp only [e,decide_true,Option.some.injEq] at h
   subst h
   have:(ks.map fun k'=>if k'.lab=l then f k' else g k').sum=(ks.map g).sum:=zhJ fun x hx=>by
    have:¬ x.lab=l:=fun z=>hn.1 (by rw [e,<- z]; exact List.mem_map_of_mem hx)
    simp [this]
   simp only [e,if_true,this]; omega
  ·simp only [e,decide_false] at h
   have:=zlP (f:=f) (g:=g) (ks:=ks) hn.2 (show zi l ks=some k from h)
   simp only [e,if_false]; omega
theorem zc5 {c:Nat} {ws:Pl} {ks:List Tr}:∀ {p:Pl} {n:Nat} {t nd:Tr},Wf c n t->zp t p=some nd->cnt (made t p ws ks)+(nd.kds.map cnt).sum=cnt t+(ks.map cnt).sum
 | [],n,t,nd,h,e=>by
  simp only [zp,Option.some.injEq] at e; subst e; rw [zdu t,zdu (made _ _ _ _)]; simp only [made,Tr.kds]; omega
 | l :: p,n,t,nd,h,e=>by
  obtain ⟨m,rfl⟩:=h.pos; simp only [zp] at e
  cases hk:zi l t.kds with
  | none=>rw [hk] at e; cases e
  | some k =>
   rw [hk] at e; have ih:=zc5 (ws:=ws) (ks:=ks) (h.kw hk) e
   have s1:=zlP (f:=fun k=>cnt (made k p ws ks)) (g:=cnt) h.nd hk
   rw [zdu t,zdu (made _ _ _ _)]; simp only [made,zkp]
   rw [List.map_map,show (cnt ∘ fun k=>if k.lab=l then made k p ws ks else k)=fun k=>if k.lab=l then cnt (made k p ws ks) else cnt k from funext fun k=>by simp only [Function.comp]; split <;> rfl]
   omega
theorem zg6:∀ (L:List (List Nat)) (acc:List Tr),(zaD (zlw L acc)).Sublist L
 | [],acc=>.slnil
 | l :: L,acc=>by
  unfold zlw; rw [List.filterMap_cons]
  cases e:zi l acc with
  | none=>exact .cons _ (zg6 L acc)
  | some k =>
   unfold zaD; rw [List.map_cons,(zbO e).2]; exact .cons_cons _ (zg6 L acc)
theorem zkd {L:List (List Nat)} {ks:List Tr} (h1:Ris L) (h2:Ris (zaD ks)) (h3:∀ l ∈ zaD ks,l ∈ L):zlw L ks=ks:=by
 have e:zaD (zlw L ks)=zaD ks:=by
  refine zjb (List.Pairwise.sublist (zg6 L ks) h1) h2 fun l=>?_
  constructor
  ·intro h
   obtain ⟨k,hk,rfl⟩:=List.mem_map.mp h; exact List.mem_map_of_mem (zeZ hk)
  ·intro h
   obtain ⟨k,hk⟩:=zhl h
   have h':k ∈ zlw L ks:=List.mem_filterMap.mpr ⟨l,h3 l h,hk⟩
   rw [<- (zbO hk).2]; exact List.mem_map_of_mem h'
 have hn:=h2.nodup
 have hm:∀ k ∈ zlw L ks,k ∈ ks:=fun k hk=>zeZ hk
 have:∀ a b:List Tr,zaD a=zaD b->(∀ k ∈ a,k ∈ ks)->(∀ k ∈ b,k ∈ ks)->a=b:=by
  intro a
  induction a with
  | nil=>intro b h _ _; cases b with
   | nil=>rfl
   | cons _ _=>simp [zaD] at h
  | cons x a ih =>
   intro b h ha hb
   cases b with
   | nil=>simp [zaD] at h
   | cons y b =>
    unfold zaD at h; rw [List.map_cons,List.map_cons] at h
    injection h with h1 h2
    have e1:=zcm hn (ha x List.mem_cons_self); have e2:=zcm hn (hb y List.mem_cons_self); rw [h1,e2] at e1
    rw [Option.some.inj e1,ih b h2 (fun k hk=>ha k (List.mem_cons_of_mem _ hk)) fun k hk=>hb k (List.mem_cons_of_mem _ hk)]
 exact this _ _ e hm fun k hk=>hk
theorem zmw {c:Nat} {l:List Nat} {ws:Pl} (h:ws.length<=3 * c+3):Wf c 1 (.node l ws []):=.mk (fun k hk=>nomatch hk) (fun k hk=>nomatch hk) .nil (by simp) h
theorem zq0 {c n:Nat} {l:List Nat} {ws:Pl} {ks ks':List Tr} (h:KidsOk ks ks') (hk:∀ k ∈ ks,Wf c n k) (hp:∀ k ∈ ks,zy k.lab=true) (hl:ks.length<=c+1) (hw:ws.length<=3 * c+3):Wf c (n+1) (.node l ws ks') :=
 .mk (fun k hk'=>hk k (h.mem k hk')) (fun k hk'=>hp k (h.mem k hk')) h.ris (by have:=h.len; omega) hw
theorem zkj {l:List Nat} {ws:Pl} (ks:List Tr):cnt (.node l ws ks)=1+(ks.map cnt).sum:=by rw [zdu]; rfl
theorem zqf {c:Nat} {t nd k:Tr} {p:Pl} {ks':List Tr} {ws:Pl} (h:Wf c 9 t) (hn:zp t p=some nd) (ok:KidsOk (nd.kds ++ [k]) ks'):cnt (made t p ws ks')<=cnt t+cnt k:=by
 have:=zc5 (ws:=ws) (ks:=ks') h hn
 have:=ok.cnt
 rw [zgP] at this; simp only [List.map_cons,List.map_nil,List.sum_cons,List.sum_nil] at this; omega
theorem zqM {c:Nat} {t nd:Tr} {p ws:Pl} {ks':List Tr} (h:Wf c 9 t) (hn:zp t p=some nd) (sb:ks'.Sublist nd.kds):cnt (made t p ws ks')<=cnt t:=by
 have:=zc5 (ws:=ws) (ks:=ks') h hn
 have:=zjX cnt sb
 omega
end M71
namespace L2
open PySem PySem.Spec PyProof.Rows
section
variable {X:Cx}
def rNT (K:W.Frag) (b:Bool):R2:=fun x y H Q=>((x=.non/\∃ a vs,y=.ref a/\SqT K H a vs)\/((∃ a vs,x=.ref a/\SqT K H a vs)/\y=.non))/\Q (.bl b) H
theorem zqP (hu:X.A.units<cLine):OpR X (compareOp .NotEq) (rNT X.K true):=by
 intro pins s σ H x y v u Q I rx ry h; obtain ⟨h,q⟩:=h
 rcases h with ⟨rfl,a,vs,rfl,hq⟩ | ⟨⟨a,vs,rfl,hq⟩,rfl⟩
 ·cases rx
  cases ry; obtain ⟨its,r,pl,hz⟩:=I.tuple hq; exact SeqAt.RcNeAt.none_tuple pl hu X.prog X.w X.xe _ ⟨.bl true,H,I,rfl,q⟩
 ·cases rx
  cases ry; obtain ⟨its,r,pl,hz⟩:=I.tuple hq; exact SeqAt.RcNeAt.tuple_none pl hu X.prog X.w X.xe _ ⟨.bl true,H,I,rfl,q⟩
end
end L2
namespace PL
open PySem L2
section
variable {X:Cx}
def zvU (b:Bool):R2':=fun x y Q=>((x=.non/\∃ ds,y=.tup ds)\/((∃ ds,x=.tup ds)/\y=.non))/\Q (.bl b)
theorem zq1 {K:W.Frag} (b:Bool):zjM K (rNT K b) (zvU b):=by
 rintro Hi H x y dx dy Q Q2 s d1 d2 ⟨h,q⟩ fin
 rcases h with ⟨rfl,ds,rfl⟩ | ⟨⟨ds,rfl⟩,rfl⟩
 ·obtain ⟨a,vs,rfl,h1,_⟩:=d2.tupI
  exact ⟨.inl ⟨d1.nonI,a,vs,rfl,zC s.sub h1⟩,fin Hi H _ _ (Ext.refl s) (.bl b) q⟩
 ·obtain ⟨a,vs,rfl,h1,_⟩:=d1.tupI
  exact ⟨.inr ⟨⟨a,vs,rfl,zC s.sub h1⟩,d2.nonI⟩,fin Hi H _ _ (Ext.refl s) (.bl b) q⟩
def zuL:R2':=fun x y Q=>zph x y Q\/zvU true x y Q
theorem zqX (hu:X.A.units+100<cLine):Op2 X (compareOp .NotEq) zuL:=(zop hu).or ⟨_,zqP (by omega),zq1 true⟩
end
end PL
namespace M71
open PySem L2 Lb PL MT MS M04 M70
end M71
namespace PL
open PySem L2
end PL
namespace PL
open PySem L2
section
variable {K:W.Frag} {n:Nat} {W:Wd} {Hi H:Hp} {Γ:Sts} {σ:St} {i:Nat} {o:OD} {b:Addr}
theorem ztl:Hol K fun z=>z:=fun b Hi v o h dv=>by
 cases dv.adrI
 exact h
end
section
variable {X:Cx}
end
end PL
namespace PL
open PySem L2
theorem zkG:bootBuiltins "abs"=some (.builtin "abs"):=by decide +kernel
section
variable {X:Cx}
def zvZ:RC':=fun ds Q=>∃ i,ds=[.int i]/\Q (.int (if i<0 then -i else i))
theorem ztF:Cal X (.builtin "abs") zvZ:=⟨_,zo7,by
 rintro Hi H vs ds Q Q2 s dl ⟨i,rfl,q⟩ fin
 obtain ⟨v,rfl,den⟩:=zeb dl
 exact ⟨i,by rw [den.intI],fin Hi H _ _ (Ext.refl s) (.int _) q⟩⟩
@[simp] theorem znW {i:Int} {Q:D->Prop}:zvZ [.int i] Q↔Q (.int (if i<0 then -i else i)):=by
 constructor
 ·rintro ⟨j,e,q⟩
  cases e; exact q
 ·exact fun q=>⟨i,rfl,q⟩
end
end PL
namespace M81
open PySem L2 Lb PL MT MS M04 M70 M71
theorem zrx (t:Tr):1<=cnt t:=by rw [zdu]; omega
end M81
namespace M73
open PySem L2 Lb PL MT MS M04 M70 M71 M81
theorem kw_made {l x:List Nat} {p ws:Pl} {ks:List Tr}:∀ {r:List Tr},zi x (r.map fun k=>if k.lab=l then made k p ws ks else k)=(zi x r).map fun k=>if k.lab=l then made k p ws ks else k
 | []=>rfl
 | k :: r=>by
  unfold zi; rw [List.map_cons,List.find?_cons,List.find?_cons]
  have e:(if k.lab=l then made k p ws ks else k).lab=k.lab:=by
   split
   ·exact zd8 _ _ _ _
   ·rfl
  rw [e]
  cases decide (k.lab=x) with
  | true=>rfl
  | false=>exact kw_made
end M73
namespace M72
open PySem L2 Lb PL MT MS M04 M70 M71 M81 M73
def zaT (p:Pl):List Nat:=p.getLast?.getD []
section
variable {L:List (List Nat)} {lb:List Nat} {ws:Pl}
end
end M72
namespace M74
open PySem L2 Lb PL MT MS M04 M70 M71 M81 M73 M72
theorem zpr {x:List Nat} {a b:List Tr} (ha:(zaD a).Nodup) (hb:(zaD b).Nodup) (h:∀ k:Tr,k.lab=x->(k ∈ a↔k ∈ b)):zi x a=zi x b:=by
 cases e:zi x a with
 | none =>
  symm
  rw [zdJ]; intro z; obtain ⟨k,hk,ek⟩:=List.mem_map.mp z
  have:=(h k ek).mpr hk
  exact zdJ.mp e (ek ▸ List.mem_map_of_mem this)
 | some k =>
  obtain ⟨m,l⟩:=zbO e; rw [<- l]; exact (zcm hb ((h k l).mp m)).symm
section
variable {c d n:Nat} {s t nd:Tr} {p:Pl}
theorem zlX {k:Tr} (h:(zaD nd.kds).Nodup) (hk:zi k.lab nd.kds=none):(zaD (nd.kds ++ [k])).Nodup:=by
 rw [zhk,List.nodup_append]
 refine ⟨h,by simp [zaD],fun a ha b hb e=>?_⟩
 have:b=k.lab:=by simpa [zaD] using hb
 rw [e,this] at ha; exact zdJ.mp hk ha
end
end M74
namespace M83
open PySem L2 Lb PL MT MS M04 M70 M71 M81 M73 M72 M74
section
variable {c n:Nat} {t nd:Tr} {p:Pl}
end
end M83
namespace M82
open PySem L2 Lb PL MT MS M04 M70 M71
end M82
namespace M84
open PySem L2 Lb PL MT MS M04 M70 M71 M81 M82 M83
noncomputable section
open Classical
theorem wf_dp {c:Nat}:∀ {n:Nat} {t:Tr},Wf c n t->Dp n t
 | 0,t,h=>by cases h
 | n+1,.node l ws ks,h=>.mk fun k hk=>wf_dp (h.kid k hk)
end
end M84
namespace M85
open PySem L2 Lb PL MT MS M04 M70 M71 M81 M73 M72 M74 M82 M83 M84
noncomputable section
open Classical
end
end M85
namespace M75
open PySem L2 Lb PL MT MS M04 M70 M71 M81 M73 M72 M74
end M75
namespace M76
open PySem L2 Lb PL MT MS M04 M70 M71 M81 M73 M72 M74 M75
theorem zcP {c:Nat} {ws:Pl} {ks:List Tr}:∀ {p:Pl} {n:Nat} {t nd:Tr},Wf c n t->zp t p=some nd->za6 t p (.node nd.lab ws ks)=made t p ws ks
 | [],n,t,nd,_,hn=>by
  simp only [zp,Option.some.injEq] at hn; subst hn; rfl
 | l :: p,n,t,nd,hw,hn=>by
  simp only [zp] at hn; obtain ⟨m,rfl⟩:=hw.pos
  cases hk:zi l t.kds with
  | none=>rw [hk] at hn; cases hn
  | some k =>
   rw [hk] at hn; have ih:=zcP (ws:=ws) (ks:=ks) (hw.kw hk) hn; have el:=(zbO hk).2; simp only [za6,hk,ih,zrJ,made]
   congr 1
   refine List.map_congr_left fun k' hk'=>?_
   rw [zd8,el]
   by_cases e:k'.lab=l
   ·rw [if_pos e,if_pos e]
    have:=zcm hw.nd hk'
    rw [e,hk] at this; rw [Option.some.inj this]
   ·rw [if_neg e,if_neg e]
theorem zmB {p q r:Int × List Nat} (h:klt p q) (h':klt q r):klt p r:=by
 rcases h with h | ⟨h1,h2⟩
 ·rcases h' with h' | ⟨h1',_⟩
  ·exact .inl (by omega)
  ·exact .inl (by omega)
 ·rcases h' with h' | ⟨h1',h2'⟩
  ·exact .inl (by omega)
  ·exact .inr ⟨by omega,List.lt_trans h2 h2'⟩
theorem zpg:∀ {a b:List Tr},Ris (zaD a)->Ris (zaD b)->(∀ x,x ∈ a↔x ∈ b)->a=b:=fun {a b} ha hb h=>by
 have el:zaD a=zaD b:=zjb ha hb fun x=>by
  unfold zaD; rw [List.mem_map,List.mem_map]
  exact ⟨fun ⟨y,p,q⟩=>⟨y,(h y).mp p,q⟩,fun ⟨y,p,q⟩=>⟨y,(h y).mpr p,q⟩⟩
 have e1:=zkd ha ha fun x hx=>hx
 have e2:=zkd hb hb fun x hx=>hx
 rw [<- e1,<- e2,<- el]; unfold zlw
 congr 1
 funext x
 exact zpr ha.nodup hb.nodup fun k _=>h k
noncomputable def bf (l:List Nat) (x:Tr):Bool:=@decide (klt (zbv x.lab) (zbv l)) (Classical.propDecidable _)
theorem zgG {l:List Nat} {x:Tr}:bf l x=true↔klt (zbv x.lab) (zbv l):=by
 unfold bf; exact @decide_eq_true_iff _ (Classical.propDecidable _)
theorem zgC (l:List Nat):∀ ks:List Tr,Ris (zaD ks)->∃ b,ks=ks.filter (bf l) ++ b/\∀ x ∈ b,¬ klt (zbv x.lab) (zbv l)
 | [],_=>⟨[],rfl,fun x hx=>nomatch hx⟩
 | a :: r,h=>by
  unfold Ris zaD at h; rw [List.map_cons,List.pairwise_cons] at h
  by_cases e:bf l a=true
  ·obtain ⟨b,eb,hb⟩:=zgC l r h.2
   refine ⟨b,?_,hb⟩; rw [List.filter_cons,if_pos e,List.cons_append,<- eb]
  ·have hall:∀ x ∈ a :: r,¬ klt (zbv x.lab) (zbv l):=fun x hx=>by
    rcases List.mem_cons.mp hx with rfl | z
    ·exact fun q=>e (zgG.mpr q)
    ·exact fun q=>e (zgG.mpr (zmB (h.1 x.lab (List.mem_map_of_mem z)) q))
   refine ⟨a :: r,?_,hall⟩
   have:(a :: r).filter (bf l)=[]:=List.filter_eq_nil_iff.mpr fun x hx q=>hall x hx (zgG.mp q)
   rw [this]; rfl
theorem zmF {c n:Nat} {nd k:Tr} (wn:Wf c n nd) (hp:zy k.lab=true) (hk:zi k.lab nd.kds=none) :
  nd.kds.filter (bf k.lab) ++ [k] ++ nd.kds.drop (nd.kds.filter (bf k.lab)).length=zgj (nd.kds ++ [k]):=by
 obtain ⟨b,eb,hb⟩:=zgC k.lab nd.kds wn.ris
 have ed:nd.kds.drop (nd.kds.filter (bf k.lab)).length=b:=by
  conv=>lhs; rw [eb]
  rw [show (nd.kds.filter (bf k.lab) ++ b).filter (bf k.lab)=nd.kds.filter (bf k.lab) by
   rw [<- eb]]
  exact List.drop_left
 rw [ed]; have nd2:=zlX wn.nd hk
 have hpl:∀ x ∈ nd.kds ++ [k],zy x.lab=true:=fun x hx=>by
  rcases List.mem_append.mp hx with z | z
  ·exact wn.plab x z
  ·rw [List.mem_singleton.mp z]; exact hp
 have r:=wn.ris; rw [eb] at r; unfold Ris zaD at r; rw [List.map_append,List.pairwise_append] at r
 refine zpg ?_ (ze1 hpl).ris fun x=>?_
 ·unfold Ris zaD
  rw [List.map_append,List.map_append,List.pairwise_append,List.pairwise_append]
  have hkb:∀ y ∈ b,klt (zbv k.lab) (zbv y.lab):=fun y hy=>by
   have hyk:y ∈ nd.kds:=by rw [eb]; exact List.mem_append_right _ hy
   rcases zmA (zbv k.lab) (zbv y.lab) with z | z | z
   ·exact z
   ·exact absurd z (hb y hy)
   ·have:=zko hp (wn.plab y hyk) z
    exact absurd (this ▸ List.mem_map_of_mem hyk) (zdJ.mp hk)
  have hfk:∀ y ∈ nd.kds.filter (bf k.lab),klt (zbv y.lab) (zbv k.lab):=fun y hy=>zgG.mp (List.mem_filter.mp hy).2
  refine ⟨⟨r.1,List.pairwise_singleton _ _,fun p hp' q hq=>?_⟩,r.2.1,fun p hp' q hq=>?_⟩
  ·obtain ⟨y,hy,rfl⟩:=List.mem_map.mp hp'
   rw [List.map_singleton,List.mem_singleton] at hq; rw [hq]; exact hfk y hy
  ·obtain ⟨y,hy,rfl⟩:=List.mem_map.mp hq
   rcases List.mem_append.mp hp' with z | z
   ·exact r.2.2 p z _ (List.mem_map_of_mem hy)
   ·rw [List.map_singleton,List.mem_singleton] at z
    rw [z]; exact hkb y hy
 ·rw [ziu nd2]
  conv=>rhs; rw [eb]
  simp only [List.mem_append,List.mem_singleton]; constructor
  ·rintro ((z | z) | z)
   ·exact .inl (.inl z)
   ·exact .inr z
   ·exact .inl (.inr z)
  ·rintro ((z | z) | z)
   ·exact .inl (.inl z)
   ·exact .inr z
   ·exact .inl (.inr z)
theorem zm4 (ts:List Tr):((ts.flatMap Tr.kds).map cnt).sum<=(ts.map cnt).sum:=by
 induction ts with
 | nil=>simp
 | cons a r ih =>
  rw [List.flatMap_cons,zgP,List.map_cons,List.sum_cons,zdu a]; omega
theorem zo5 (ts:List Tr):ts.length<=(ts.map cnt).sum:=by
 induction ts with
 | nil=>simp
 | cons a r ih =>
  rw [List.map_cons,List.sum_cons,List.length_cons]
  have:=zrx a
  omega
end M76
namespace M86
open PySem L2 Lb PL MT MS M04 M70 M71 M81 M73 M72 M74 M82 M83 M84 M85
noncomputable section
open Classical
section
variable {L:List (List Nat)} {lb:List Nat} {ws:Pl}
end
end
end M86
namespace M87
open PySem L2 Lb PL MT MS M04 M70 M71 M81 M73 M72 M74 M82 M83 M84 M85 M86
theorem node_app:∀ (p:Pl) (t:Tr) (r:Pl),zp t (p ++ r)=(zp t p).bind fun x=>zp x r
 | [],t,r=>rfl
 | l :: p,t,r=>by
  simp only [List.cons_append,zp]
  cases zi l t.kds with
  | none=>rfl
  | some k=>exact node_app p k r
end M87
namespace PL
open PySem L2
def zkQ (t u:TE'):TE':=fun Γ Q=>t Γ Q\/u Γ Q
section
variable {X:Cx}
theorem pe_or {e:Expr} {t u:TE'} (h1:PE' X e t) (h2:PE' X e u):PE' X e (zkQ t u):=⟨fun pins s σ H Q I q=>by
 obtain ⟨W,Hi,Γ,Q',g,q | q,fin⟩:=q
 ·exact h1.h pins s σ H Q I ⟨W,Hi,Γ,Q',g,q,fin⟩
 ·exact h2.h pins s σ H Q I ⟨W,Hi,Γ,Q',g,q,fin⟩⟩
theorem zq2 (i j:Int) (l m:List Nat):zlx [.int i,.str (st l)] [.int j,.str (st m)]=decide (i<j\/(i=j/\l<m)):=by
 rw [zfG]
 by_cases h:i=j
 ·rw [if_pos (congrArg V.int h),zfG]
  by_cases e:l=m
  ·subst e
   rw [if_pos rfl]
   have hn:¬ (i<j\/(i=j/\l<l)):=by
    rintro (z | ⟨_,z⟩)
    ·omega
    ·exact List.lt_irrefl _ z
   exact (decide_eq_false hn).symm
  ·rw [if_neg (fun q=>e (L2.st_inj (V.str.inj q)))]
   show decide ((st l).cps.toList<(st m).cps.toList)=_
   rw [zV,zV]
   refine decide_eq_decide.mpr ⟨fun z=>.inr ⟨h,z⟩,?_⟩
   rintro (z | ⟨_,z⟩)
   ·omega
   ·exact z
 ·rw [if_neg (fun q=>h (V.int.inj q))]
  show decide (i<j)=_
  refine decide_eq_decide.mpr ⟨.inl,?_⟩
  rintro (z | ⟨z,_⟩)
  ·exact z
  ·exact absurd z h
def zwy:R2':=fun x y Q=>∃ i l j m,x=.tup [.int i,.str l]/\y=.tup [.int j,.str m]/\Q (.bl (decide (i<j\/(i=j/\l<m))))
theorem zu8 (hu:X.A.units<cLine):Op2 X (compareOp .Lt) zwy:=⟨_,zsU hu,by
 rintro Hi H x y dx dy Q Q2 s d1 d2 ⟨i,l,j,m,rfl,rfl,q⟩ fin
 obtain ⟨a,xs,rfl,hx,dl⟩:=d1.tupI; obtain ⟨b,ys,rfl,hy,dm⟩:=d2.tupI; obtain ⟨v,w,rfl,e1,e2⟩:=zlp dl; obtain ⟨v',w',rfl,e1',e2'⟩:=zlp dm; rw [e1.intI,e2.strI] at hx; rw [e1'.intI,e2'.strI] at hy
 refine ⟨a,b,_,_,rfl,rfl,zC s.sub hx,zC s.sub hy,(show _/\_/\True from ⟨rfl,rfl,True.intro⟩),?_⟩
 rw [zq2]; exact fin Hi H _ _ (Ext.refl s) (.bl _) q⟩
end
end PL
namespace PL
open PySem L2
section
variable {X:Cx}
end
abbrev TM':=Sts->(List D->List D->Sts->Prop)->Prop
def zwf (K:W.Frag) (n i j:Nat) (t:TM'):TA:=fun σ H Q2=>∃ W Hi Γ Q,Good K n W Hi Γ σ H/\t Γ Q/\∀ vs H' Hi' Γ' d1 d2 b v1 v2,zU Hi Hi'->Good K n W Hi' Γ' σ H'->vs=v1 ++ .ref b :: v2->v1.length=j->σ[i]?=some (some (.ref b))->zaV K Hi' v1 d1->zaV K Hi' v2 d2->Q d1 d2 Γ'->Q2 vs H'
structure PM' (X:Cx) (i j:Nat) (es:List Expr) (t:TM'):Prop where
 pa:PA X es (zwf X.K X.N.length i j t)
 pl:zbN es=true
class MM (t:TM'):Prop where
 mono:∀ Γ Q Q',(∀ d1 d2 Γ',Q d1 d2 Γ'->Q' d1 d2 Γ')->t Γ Q->t Γ Q'
section
variable {X:Cx}
def zcv (i:Nat) (t:TA'):TM':=fun Γ Q=>(∃ b o,Γ[i]?=some (.bk (fun z=>z) b o))/\t Γ fun ds Γ1=>Q [] ds Γ1
theorem zqr (i:Nat) {y:Str} {q:Pos} {es:List Expr} {t:TA'} (ha:PA' X es t) (hN:X.N[i]?=some y:=by rfl) (hv:Vis X.env.scope y:=by first | exact Or.inl rfl | exact Or.inr (Or.inl rfl) | exact Or.inr (Or.inr rfl)) (hd:(y == ("__debug__":Str))=false:=by decide)
  (hcd:(y == ("__classdict__":Str))=false:=by decide):PM' X i 0 (.Name y q :: es) (zcv i t):=by
 refine ⟨PA.weak (zcO (zdZ (i:=i) (pos:=q) hN hv hd hcd) ha.pa (zK rfl)) ?_,by unfold zbN; rw [ha.pl]; rfl⟩
 rintro σ H Q ⟨W,Hi,Γ,Q',g,⟨⟨b,o,e⟩,h⟩,fin⟩
 obtain ⟨v,hv',dv⟩:=(g.bk i _ _ _ e).val
 cases dv.adrI
 refine ⟨.ref b,hv',W,Hi,Γ,_,g,h,?_⟩; intro vs H1 Hi1 Γ1 ds s1 g1 dl q1; exact fin _ H1 Hi1 Γ1 [] ds b [] vs s1 g1 rfl rfl hv' .nil dl q1
def zcw (te:TE') (t:TM'):TM':=fun Γ Q=>te Γ fun d Γ1=>t Γ1 fun d1 d2 Γ2=>Q (d :: d1) d2 Γ2
theorem zme {i j:Nat} {e:Expr} {es:List Expr} {te:TE'} {t:TM'} (he:PE' X e te) (hr:PM' X i j es t) (hs:zcR e=false:=by rfl):PM' X i (j+1) (e :: es) (zcw te t):=by
 refine ⟨PA.weak (zcO he.h hr.pa (zK hs)) ?_,by unfold zbN; rw [hs,hr.pl]; rfl⟩
 rintro σ H Q ⟨W,Hi,Γ,Q',g,h,fin⟩
 refine ⟨W,Hi,Γ,_,g,h,?_⟩
 rintro x H1 ⟨Hi1,dx,Γ1,s1,g1,den1,h1⟩
 refine ⟨W,Hi1,Γ1,_,g1,h1,?_⟩; intro vs H2 Hi2 Γ2 d1 d2 b v1 v2 s2 g2 ev hj hb dl1 dl2 q
 exact fin (x :: vs) H2 Hi2 Γ2 (dx :: d1) d2 b (x :: v1) v2 (s1.trans s2) g2 (by rw [ev]; rfl) (by rw [List.length_cons,hj]) hb (.cons (den1.mono s2) dl1) dl2 q
instance {i:Nat} {t:TA'} [MA t]:MM (zcv i t):=⟨fun Γ _ _ h ⟨a,q⟩=>⟨a,MA.mono (t:=t) Γ _ _ (fun _ _ z=>h _ _ _ z) q⟩⟩
instance {te:TE'} {t:TM'} [ME te] [MM t]:MM (zcw te t):=⟨fun Γ _ _ h q=>ME.mono (t:=te) Γ _ _ (fun _ _ z=>MM.mono (t:=t) _ _ _ (fun _ _ _ z=>h _ _ _ z) z) q⟩
end
def zbo (N:List Str) (j:Nat) (b:Addr) (o:OD) (ds:List D):Sts:=(ds.take j).map .val ++ .bk (fun z=>z) b o :: ((ds.drop j).map .val ++ List.replicate (N.length-(ds.length+1)) .emp)
theorem zbu {N:List Str} {j:Nat} {b:Addr} {o:OD} {ds:List D} (hj:j<=ds.length) {k:Nat} {s:Slot} (e:(zbo N j b o ds)[k]?=some s):(k=j/\s=.bk (fun z=>z) b o)\/s=.emp\/∃ d,s=.val d/\((k<j/\ds[k]?=some d)\/(j<k/\ds[k-1]?=some d)):=by
 unfold zbo at e
 have hl:((ds.take j).map Slot.val).length=j:=by rw [List.length_map,List.length_take]; omega
 rcases Nat.lt_trichotomy k j with h | h | h
 ·rw [List.getElem?_append_left (by rw [hl]; exact h),List.getElem?_map,List.getElem?_take,if_pos h] at e
  obtain ⟨d,hd,rfl⟩:=Option.map_eq_some_iff.mp e; exact .inr (.inr ⟨d,rfl,.inl ⟨h,hd⟩⟩)
 ·rw [List.getElem?_append_right (by rw [hl]; omega),hl,h,Nat.sub_self] at e
  exact .inl ⟨h,(Option.some.inj e).symm⟩
 ·rw [List.getElem?_append_right (by rw [hl]; omega),hl] at e
  obtain ⟨m,hm⟩:∃ m,k-j=m+1:=⟨k-j-1,by omega⟩
  rw [hm,List.getElem?_cons_succ] at e
  by_cases hlt:m<(ds.drop j).length
  ·rw [List.getElem?_append_left (by rw [List.length_map]; exact hlt),List.getElem?_map] at e
   obtain ⟨d,hd,rfl⟩:=Option.map_eq_some_iff.mp e
   rw [List.getElem?_drop,show j+m=k-1 by omega] at hd
   exact .inr (.inr ⟨d,rfl,.inr ⟨h,hd⟩⟩)
  ·rw [List.getElem?_append_right (by rw [List.length_map]; omega),List.getElem?_replicate] at e
   split at e
   ·exact .inr (.inl (Option.some.inj e).symm)
   ·cases e
theorem zjE {K:W.Frag} {N ps:List Str} {v1 v2:List V} {j:Nat} {b:Addr} {o:OD} {ds:List D} {Hi H:Hp} (hlen:ds.length+1=ps.length) (hpl:ps.length<=N.length) (hj:v1.length=j) (sb:Fz Hi H) (hb:Hi b=none) (at_:zaU K Hi H b o) (dl:zaV K Hi (v1 ++ v2) ds) :
  Good K N.length ⟨H,Hi,[b]⟩ Hi (zbo N j b o ds) (L2.start N (v1 ++ .ref b :: v2)) H:=by
 have hvl:=zg dl; rw [List.length_append] at hvl
 have hjd:j<=ds.length:=by omega
 have st:∀ k:Nat,k<ds.length+1->(L2.start N (v1 ++ .ref b :: v2))[k]?=((v1 ++ .ref b :: v2)[k]?).map some:=fun k hk=>by
  unfold L2.start
  rw [List.getElem?_append_left (by rw [List.length_map,List.length_append,List.length_cons]; omega),List.getElem?_map]
 refine ⟨?_,sb,fun a o e _=>e,fun a o e=>⟨o,e⟩,fun a o e=>rfl,fun k d' e=>?_,fun k o' e=>?_,fun k l o1 o2 a e=>?_,fun k d' b' o' e=>?_⟩
 ·unfold L2.start
  rw [List.length_append,List.length_map,List.length_replicate,List.length_append,List.length_cons]; omega
 ·rcases zbu hjd e with ⟨_,z⟩ | z | ⟨d2,z,h⟩
  ·cases z
  ·cases z
  ·cases z
   rcases h with ⟨hk,hd⟩ | ⟨hk,hd⟩
   ·obtain ⟨w,e1,dw⟩:=zQ dl hd
    rw [List.getElem?_append_left (by omega)] at e1
    refine ⟨w,?_,dw⟩
    rw [st k (by omega),List.getElem?_append_left (by omega),e1]
    rfl
   ·obtain ⟨w,e1,dw⟩:=zQ dl hd
    have hk1:=(List.getElem?_eq_some_iff.mp hd).1
    rw [List.getElem?_append_right (by omega)] at e1
    refine ⟨w,?_,dw⟩
    obtain ⟨m,hm⟩:∃ m,k-v1.length=m+1:=⟨k-v1.length-1,by omega⟩
    rw [st k (by omega),List.getElem?_append_right (by omega),hm,List.getElem?_cons_succ,show m=k-1-v1.length by omega,e1]
    rfl
 ·rcases zbu hjd e with ⟨_,z⟩ | z | ⟨d2,z,_⟩ <;> cases z
 ·rcases zbu hjd e with ⟨_,z⟩ | z | ⟨d2,z,_⟩ <;> cases z
 ·rcases zbu hjd e with ⟨hk,z⟩ | z | ⟨d2,z,_⟩
  ·cases z
   refine ⟨⟨.ref b,?_,.adr b⟩,ztl,hb,fun z=>absurd (List.mem_singleton.mpr rfl) z,at_,fun l d2 o2 q=>?_,fun l o2 q=>?_⟩
   ·rw [st k (by omega),List.getElem?_append_right (by omega),hk,hj,Nat.sub_self]
    rfl
   ·rcases zbu hjd q with ⟨hl,z⟩ | z | ⟨d2,z,_⟩
    ·rw [hl,hk]
    ·cases z
    ·cases z
   ·rcases zbu hjd q with ⟨hl,z⟩ | z | ⟨d2,z,_⟩ <;> cases z
  ·cases z
  ·cases z
section
variable {P:Program} {w:World} {K:W.Frag} {mg:Str->Option Value} {base:Heap}
end
section
variable {X:Cx}
end
end PL
namespace PL
open PySem L2
section
variable {X:Cx} {e a b c:Expr} {pos:Pos}
end
end PL
namespace L2
open PySem PySem.Spec PyProof.Rows
section
variable {X:Cx}
end
end L2
namespace PL
open PySem L2
section
variable {X:Cx}
end
end PL
namespace PL
open PySem L2 PySem.Spec PyProof.Rows
section
variable {X:Cx}
end
end PL
namespace L2
open PySem PySem.Spec PyProof.Rows Zp
theorem znd:bootBuiltins "enumerate"=some (.type "enumerate"):=by rfl
section
variable {X:Cx}
end
end L2
namespace PL
open PySem L2
def zht (k:Nat):List D->List D
 | []=>[]
 | d :: ds=>.tup [.int k,d] :: zht (k+1) ds
theorem ziD (ds:List D):∀ (k i:Nat),(zht k ds)[i]?=(ds[i]?).map fun d=>.tup [.int ((k+i:Nat):Int),d]:=by
 induction ds with
 | nil=>intro k i; rfl
 | cons d ds ih =>
  intro k i
  cases i with
  | zero=>rfl
  | succ i =>
   simp only [zht,List.getElem?_cons_succ]; rw [ih (k+1) i]
   congr 1
   funext d
   rw [show k+1+i=k+(i+1) by omega]
theorem zfU (ds:List D):∀ k,(zht k ds).length=ds.length:=by
 induction ds with
 | nil=>intro k; rfl
 | cons d ds ih=>intro k; simp [zht,ih]
section
variable {X:Cx}
end
end PL
namespace L2
open PySem PySem.Spec PyProof.Rows
section
variable {prog:Program} {w:World} {K:Type} [DecidableEq K] {knd:HeapKind prog w K} {A:Around} {E:Value->Shared->Prop} {s:Shared} {d a:Addr} {k:K} {xs:List (K × Addr × Value)}
end
section
variable {X:Cx} {pins:List (Addr × Obj)} {σ:St} {H:Hp} {s:Shared} {a:Addr} {y d:V} {u r:Value} {o:Option V} {A:Around} {E:Value->Shared->Prop}
end
section
variable {X:Cx} {o e:Expr} {apos cpos:Pos} {td ty:TE}
end
end L2
namespace PL
open PySem L2
section
variable {X:Cx}
theorem zoX {Hi H:Hp} {b:Addr} {u':HO} (s:Fz Hi H) (hb:Hi b=none) {u:HO} (hu:H b=some u) (nt:∀ xs,u≠.tup xs) (nt':∀ xs,u'≠.tup xs):ExtB b Hi H Hi (upd H b u'):=by
 refine ⟨zU.refl _,fun a o ne q=>by rw [zq ne]; exact q,⟨fun a o q=>?_,fun a xs q=>?_⟩,fun _ _ _=>rfl⟩
 ·rw [zq (fun z=>by rw [z,hb] at q; cases q)]
  exact s.sub a o q
 ·by_cases z:a=b
  ·subst z
   rw [zj] at q; exact absurd (Option.some.inj q) (nt' xs)
  ·rw [zq z] at q
   exact s.tups a xs q
def zfa:TO':=fun Γ Q=>Q (.dit []) Γ
theorem zqp {pos:Pos}:PO' X (.Dict [] [] pos) zfa:=by
 refine ⟨PE.weak zqG ?_⟩
 rintro σ H Q ⟨W,Hi,Γ,Q',g,q,fin⟩
 intro p hp
 exact fin p _ Hi Γ (.dit []) (zU.refl _) (g.ext (Ext.newO g.fz hp _ (fun _ z=>by cases z))) (New.mk' g hp ⟨[],0,zj,.nil⟩) q
instance:MO zfa:=⟨fun Γ _ _ h q=>h _ _ q⟩
def zdl (i:Nat) (tk tv:TE'):TS':=fun N Γ=>tv Γ fun v Γ1=>(∃ b0 ds0,Γ1[i]?=some (.bk (fun z=>z) b0 (.dit ds0)))/\tk Γ1 fun k Γ2=>∃ (b:Addr) (ds:List (D × D)) (ks:List Key),Γ2[i]?=some (.bk (fun z=>z) b (.dit ds))/\k=.tup (ks.map keyD)/\ds.length<sizeLine/\N.nx (Γ2.set i (.bk (fun z=>z) b (.dit (zhE ds k v))))
theorem zn0 (hu:X.A.units+1<cLine) (i:Nat) {x:Str} {k value:Expr} {tk tv:TE'} {p pos pos':Pos} (hk:PE' X k tk) (hv:PE' X value tv) (hN:X.N[i]?=some x:=by rfl) (hvi:Vis X.env.scope x:=by first | exact Or.inl rfl | exact Or.inr (Or.inl rfl) | exact Or.inr (Or.inr rfl)) (hd:(x == ("__debug__":Str))=false:=by decide)
  (hcd:(x == ("__classdict__":Str))=false:=by decide) (hs:swapsWith value (some (.Subscript (.Name x p) k pos')) pos.line X.env=pure false:=by rfl) :
  PS' X (.Assign [.Subscript (.Name x p) k pos'] value pos) (zdl i tk tv):=by
 refine ⟨PS.weak (zmc hu (zdZ (i:=i) (pos:=p) hN hvi hd hcd) hk.h hv.h hs) ?_⟩
 rintro N2 σ H ⟨W,Hi,Γ,N,g,q,l⟩
 refine ⟨W,Hi,Γ,_,g,q,?_⟩
 rintro v H1 ⟨Hi1,d,Γ1,s1,g1,den,⟨b0,ds0,e0⟩,q1⟩
 obtain ⟨v0,hv0,den0⟩:=(g1.bk i _ _ _ e0).val
 cases den0.adrI
 refine ⟨.ref b0,hv0,W,Hi1,Γ1,_,g1,q1,?_⟩
 rintro y H2 ⟨Hi2,dk,Γ2,s2,g2,den2,b,ds,ks,e2,rfl,hl,q2⟩
 have B:=g2.bk i _ _ _ e2; obtain ⟨v2,hv2,dv2⟩:=B.val
 cases dv2.adrI
 rw [hv0] at hv2; cases hv2; obtain ⟨kvs,ep,k4,k5⟩:=B.at_; obtain ⟨c,rfl,hb⟩:=ze6 den2
 refine ⟨b0,kvs,ep,ks,c,rfl,k4,rfl,g2.sub _ _ hb,by rw [zg k5]; exact hl,fun ep'=>?_⟩
 exact l.nx σ _ Hi2 _ (s1.trans s2) (g2.extB (xs':=.dit (zhE ds (.tup (ks.map keyD)) d)) e2 (zoX g2.fz B.hi k4 (fun _ z=>by cases z) (fun _ z=>by cases z)) ⟨_,_,zj,zv0 k5 ks (den.mono s2)⟩) q2
open Classical in
end
end PL
namespace Itm
open PySem
section
variable {prog:Program} {w:World} {A:Around} {E:Value->Shared->Prop} {s:Shared} {d:Addr} {o:Obj} {es:Array DictEntry} {ep:Nat}
end
end Itm
namespace L2
open PySem PySem.Spec PyProof.Rows Zp
section
variable {X:Cx}
end
end L2
namespace PL
open PySem L2
end PL
namespace PL
open PySem L2
section
variable {X:Cx}
end
section
variable {P:Program} {w:World} {K:PySem.W.Frag} {mg:Str->Option Value} {base:Heap}
end
end PL
namespace EnK
open PySem
open AutoSeq1 (wpAny_loadPart')
def kwS (v:Value):List (Str × Value):=[("start",v)]
theorem zur (a v:Value):checkTypeCall "enumerate" ⟨[a],kwS v⟩=pure ():=by kernel_rfl
theorem zvg (a v:Value):checkBuiltinCall "enumerate.__new__" ⟨[.type "enumerate",a],kwS v⟩=pure ():=by kernel_rfl
theorem zvF (o a v:Value):argsOk "object.__init__" ⟨[o,a],kwS v⟩:=by
 unfold argsOk
 rw [signature?_of (id:="object.__init__") (n:=['_','_','t','i','n','i','_','_']) (o:=['t','c','e','j','b','o']) (by kernel_rfl) F.owner_object]
 kernel_rfl
theorem zu6 {self a:Value} {kw:List (Str × Value)} (hl:typeLookup (.type "enumerate") "__init__"=pure (some (.builtin "object.__init__"))) (hm:Bind.madeBy (.type "enumerate")=pure (some "enumerate.__new__")) (hne:(some "enumerate.__new__" != some "object.__new__")=true) :
  Meets (Builtin.«object.__init__» ⟨[self,a],kw⟩) (fun _ R s=>s.TypeIs self "enumerate"/\R (.ok (.ret .none)) s):=by
 refine .of_wp fun prog w A R s ⟨hT,hq⟩=>?_
 repeat (any_goals (first | assumption | wp_step))
 exact ⟨_,rfl,hq⟩
theorem zvf (l:Addr) (tk:Tok) (items:Array Value) :
  Meets (Builtin.«enumerate.__new__» ⟨[.type "enumerate",.ref l],kwS (.int 1 tk)⟩) (fun _ R s=>s.heap.IsTuple l items /\
   R (.ok (.ret (.ref (s.heap.objs.size+1))))
    { s with heap:=(s.heap.push { cls:=.type "tuple_iterator",data:=.fields #[.ref l,.int 0 0] }).push { cls:=.type "enumerate",data:=.fields #[.none,.bool false,.ref s.heap.objs.size,rawInt 1,.none,.none] } }) :=
 .of_wp fun prog w A R s h=>by
  obtain ⟨hp,g,d,t0,os⟩:=s; obtain ⟨hL,h⟩:=h; have hsub:=sub_enumerate
  wp_walk
  refine wpAny_stack_any fun st=>wpAny_pure ?_
  have h':∀ v,v=Value.ref (hp.objs.size+1)->R (Except.ok (Flow.ret v)) ⟨((hp.push { cls:=Value.type "tuple_iterator",data:=Data.fields #[Value.ref l,Value.int 0 0] }).push { cls:=Value.type "enumerate",data:=Data.fields #[Value.none,Value.bool false,Value.ref hp.objs.size,rawInt 1,Value.none,Value.none] }),g,d,t0,os⟩:=fun v e=>by rw [e]; exact h
  have hz:(hp.push { cls:=Value.type "tuple_iterator",data:=Data.fields #[Value.ref l,Value.int 0 0] }).objs.size=hp.objs.size+1:=Heap.size_push ..
  split
  ·rename_i c _ _ _ _ _
   cases (c == Value.type "enumerate")
   ·wp_walk using wpAny_pyIter_tuple hL
    exact ⟨_,rfl,h' _ (by rw [hz])⟩
   ·wp_walk using wpAny_pyIter_tuple hL
    exact ⟨_,rfl,h' _ (by rw [hz])⟩
  ·wp_walk using wpAny_pyIter_tuple hL
   exact ⟨_,rfl,h' _ (by rw [hz])⟩
section
variable {prog:Program} {w:World} {A:Around} {E:Value->Shared->Prop} {s:Shared}
theorem zrz {t:Addr} {tk:Tok} {items:Array Value} {Q:Value->Shared->Prop} (hL:s.heap.IsTuple t items)
  (h:∀ h',IsEnum h' (s.heap.objs.size+1) s.heap.objs.size 1 .none->h'.IsTupleIter s.heap.objs.size t 0->(∀ b o,s.heap.get? b=some o->h'.get? b=some o)->Q (.ref (s.heap.objs.size+1)) { s with heap:=h' }) :
  wpAny (model prog w) A (call (.type "enumerate") [.ref t] (kwS (.int 1 tk))) Q E s:=by
 have ft:=F.called_enumerate; obtain ⟨c,tl,hmro⟩:=ft.mro; have e1:=ft.made; have e2:=ft.sub; have e3:=ft.notType; have e4:=ft.canCreate; have hct:=zur (.ref t) (.int 1 tk); refine wpAny_call (codeAny_of_tree ?_)
 show wpAny _ _ (callAny (.type "enumerate") _) _ _ _
 refine wpAny_pure ⟨Code.quiet_builtin _ (by decide +kernel),codeAny_builtin F.entry_type_call ?_⟩
 rw [Around.under_plain (weight_type_call_type _ _ _) (units_type_call_type _ _ _)]
 repeat (any_goals (first | assumption | wp_step))
 have hz:(s.heap.push { cls:=.type "tuple_iterator",data:=.fields #[.ref t,.int 0 0] }).objs.size=s.heap.objs.size+1:=Heap.size_push ..
 have he:IsEnum ((s.heap.push { cls:=.type "tuple_iterator",data:=.fields #[.ref t,.int 0 0] }).push
   { cls:=.type "enumerate",data:=.fields #[.none,.bool false,.ref s.heap.objs.size,rawInt 1,.none,.none] }) (s.heap.objs.size+1) s.heap.objs.size 1 .none:=by
  have:=Heap.get?_push_size (s.heap.push { cls:=.type "tuple_iterator",data:=.fields #[.ref t,.int 0 0] })
   (o:={ cls:=.type "enumerate",data:=.fields #[.none,.bool false,.ref s.heap.objs.size,rawInt 1,.none,.none] }) rfl
  rw [hz] at this; exact this
 let R1:Result->Shared->Prop:=fun r s1=>r=.ok (.ret (.ref (s.heap.objs.size+1)))/\s1={ s with heap:=(s.heap.push { cls:=.type "tuple_iterator",data:=.fields #[.ref t,.int 0 0] }).push { cls:=.type "enumerate",data:=.fields #[.none,.bool false,.ref s.heap.objs.size,rawInt 1,.none,.none] } }
 have g1:=zvf t tk items prog w A.in1 R1 s ⟨hL,rfl,rfl⟩
 refine codeAny_mono (codeAny_call_builtin ft.plain F.entry_enumerate_new (wpAny_of_eq (zvg _ _) g1)) fun r s1 hr=>?_
 obtain ⟨rfl,rfl⟩:=hr
 have hT:Shared.TypeIs { s with heap:=(s.heap.push { cls:=.type "tuple_iterator",data:=.fields #[.ref t,.int 0 0] }).push { cls:=.type "enumerate",data:=.fields #[.none,.bool false,.ref s.heap.objs.size,rawInt 1,.none,.none] } } (.ref (s.heap.objs.size+1)) "enumerate":=⟨_,he,rfl⟩
 let R2:Result->Shared->Prop:=fun r s1=>r=.ok (.ret .none)/\s1={ s with heap:=(s.heap.push { cls:=.type "tuple_iterator",data:=.fields #[.ref t,.int 0 0] }).push { cls:=.type "enumerate",data:=.fields #[.none,.bool false,.ref s.heap.objs.size,rawInt 1,.none,.none] } }
 have hli:=ft.init.lookup; have hbi:=ft.init.bind (.ref (s.heap.objs.size+1))
 repeat (any_goals (first | assumption | wp_step))
 refine codeAny_mono (codeAny_call_builtin ft.init.plain F.entry_object_init (ft.init.check _ _ _ _ _ _ _ _ hT (zvF _ _ _) (zu6 hli ft.made (by decide) prog w A.in1 R2 _ ⟨hT,rfl,rfl⟩))) fun r2 s2 hr2=>?_
 obtain ⟨rfl,rfl⟩:=hr2
 repeat (any_goals (first | assumption | wp_step))
 exact h _ he ⟨_,Heap.get?_push_of_some _ (Heap.get?_push_size _ rfl),rfl,rfl⟩ fun b o x=>Heap.get?_push_of_some _ (Heap.get?_push_of_some _ x)
end
end EnK
namespace L2
open PySem PySem.Spec PyProof.Rows Zp EnK
theorem zrt {M:Model} {A:Around} {E:Value->Shared->Prop} {s:Shared} {env:Env} {pos:Pos} {T:String} {e:Expr} {kws:List Keyword} {Q:Value->Shared->Prop}
  (h:wpAny M A (spliced (backTo pos (starEach [e] env))) (fun vs s1=>wpAny M A (evalAll ((backToKw pos (keywordEach kws env)).map (·.2)))
   (fun kvs s2=>wpAny M A (call (.type T) vs (((backToKw pos (keywordEach kws env)).filterMap (·.1)).zip kvs)) Q E s2) E s1) E s)
  (he:backTo pos (starEach [e] env)=(false,eval e env) :: backTo pos (starEach [] env)) (hp:(backTo pos (starEach [e] env)).any (·.1)=false)
  (ha:(backToKw pos (keywordEach kws env)).all (·.1.isSome)=true) (hk:(backToKw pos (keywordEach kws env)).any (·.1.isNone)=false) :
  wpAny M A (callWith pos (.type T) [] (backTo pos (starEach [e] env)) (backToKw pos (keywordEach kws env))) Q E s:=by
 have z:wpAny M A (evalArgs (.type T) true (backTo pos (starEach [e] env)) (backToKw pos (keywordEach kws env))) (fun a s1=>wpAny M A (call (.type T) ([] ++ a.pos) a.kw) Q E s1) E s:=by
  rw [he] at h ⊢; exact evalArgs_kwB ha h
 unfold callWith
 refine wpAny_bind (wpAny_holding (wpAny_mono z (fun a s1 h1=>wpAny_bind (wpAny_standAt ?_)) fun _ _ x=>x))
 simp only [hp,hk,Bool.or_false]
 exact wpAny_bind (wpAny_pure (wpAny_bind (wpAny_mono h1 (fun r s2 hr=>wpAny_bind (wpAny_holding (wpAny_point (wpAny_pure hr)))) fun _ _ x=>x)))
theorem ziE {prog:Program} {w:World} {A:Around} {it:Addr} {xs:List Value} {fp:List Addr} {nx:Nat->Heap->Prop} (S:Src prog w it xs fp nx) (hh:A.handled=none):Draws prog w A it fp (xs.length+1) (fun i x=>1<=i/\xs[i-1]?=some x) (fun i h=>1<=i/\nx (i-1) h) where
 live:=fun i h ⟨_,z⟩=>by obtain ⟨o,e,_⟩:=S.at_ _ _ z; exact ⟨o,e⟩
 frame:=fun i h h' ⟨a,z⟩ k=>⟨a,S.fr _ _ _ z k⟩
 item:=fun i s Q E hi ⟨a,z⟩ q=>by
  have hx:xs[i-1]?=some (xs[i-1]'(by omega)):=List.getElem?_eq_getElem (by omega)
  exact S.item A s (i-1) _ Q E z hx fun h' n sb=>q _ h' s.toks ⟨a,hx⟩ ⟨by omega,by rw [show i+1-1=i-1+1 by omega]; exact n⟩ sb
 done:=fun s Q E ⟨_,z⟩ q=>S.stop A s _ Q E hh z (List.getElem?_eq_none (by omega)) q
def zvN (K:W.Frag) (a:Addr):It :=
  ⟨fun i H=>∃ xs x,SqT K H a xs/\xs[i]?=some x,
   fun i H v H'=>∃ p x,H p=none/\v=.ref p/\H'=upd H p (.tup [.int (i+1:Nat),x])/\∀ xs,SqT K H a xs->xs[i]?=some x,
   fun i H=>∃ xs,SqT K H a xs/\xs.length=i⟩
theorem znz {P:Program} {w:World} {K:W.Frag} {elts:List Expr} {c:Nat} {pos:Pos} (a e it:Addr) (D:e≠it):Turn P w K (.Tuple elts c pos) (zvN K a) [e,it] e
  (fun i h=>(∃ old,IsEnum h e it ((i+1:Nat):Int) old)/\h.IsTupleIter it a i) where
 mem:=by simp
 obj:=by
  rintro i h ⟨⟨old,we⟩,g⟩ d hd
  simp only [List.mem_cons,List.not_mem_nil,or_false] at hd
  rcases hd with rfl | rfl
  ·exact ⟨_,we,fun v z=>by cases z⟩
  ·obtain ⟨o,e,_,dd⟩:=g
   exact ⟨o,e,fun v z=>by rw [dd] at z; cases z⟩
 keep:=by
  rintro i h h' ⟨⟨old,we⟩,g⟩ k
  exact ⟨⟨old,k e (by simp) _ we⟩,g.at fun o q=>k it (by simp) o q⟩
 item:=by
  intro X hP hw hK hc i pins s σ H E I hf st hg
  subst hP hw hK
  obtain ⟨⟨old,we⟩,g⟩:=st
  obtain ⟨xs,x,sx,hx⟩:=hg; obtain ⟨us,rx,px,_⟩:=I.tuple sx; obtain ⟨ux,hux,rux⟩:=rx.get hx
  have ne:∀ d,d ∈ [e,it]->a≠d:=fun d hd=>zr5 (lb:=false) I sx (hf d hd)
  have Dr:=ziE (A:=X.A.in1) (zhM (prog:=X.prog) (w:=X.w) (it:=it) (l:=a) (xs:=us) (ne it (by simp))) (I.ok.hd hc)
  have hil:i<us.length:=(List.getElem?_eq_some_iff.mp hux).1
  refine wpAny_pyNext_enum_itemD Dr we ⟨by omega,by rw [Nat.add_sub_cancel]; exact ⟨g,px⟩⟩ (by omega) D (by simp [D,(ne e (by simp)).symm]) fun v h' tk hP c1 c2 c3 c4 c5=>⟨_,rfl,?_⟩
  have ev:v=ux:=by have:=hP.2; rw [Nat.add_sub_cancel,hux] at this; exact (Option.some.inj this).symm
  subst ev
  have c2':h'.IsTupleIter it a (i+1):=by have:=c2.2; rw [show i+1+1-1=i+1 by omega] at this; exact this.1
  refine wpAny_letOwnedTupleGo_enum (s:={ s with heap:=h',toks:=tk+1 }) c1 fun h2 e1 e2=>?_
  have ext:=znM e2
  have kk:∀ d o,d ∉ [e,it]->s.heap.get? d=some o->h2.get? d=some o:=fun d o hd q=>by
   simp only [List.mem_cons,List.not_mem_nil,or_false,not_or] at hd; exact ext d o hd.1 (c5 d o hd.1 hd.2 q)
  have fr:H s.heap.objs.size=none:=I.hok.fresh (Nat.le_refl _)
  have pe:s.heap.objs.size≠e:=Nat.ne_of_gt (Heap.lt_size we)
  have tp:=ext _ _ pe c3
  have I2:Inv X pins σ (upd H s.heap.objs.size (.tup [.int (i+1:Nat),x])) { s with heap:=h2,toks:=tk+1 }:=I.turnedNew (t':=tk+1) (ch:=[e,it]) hf kk (Nat.le_refl _)
   ⟨by show 2<=sizeLine; exact Nat.le_of_lt (zbz (by decide)),[.int (i+1:Nat) tk,v],.cons ⟨_,rfl⟩ (.cons rux .nil),⟨_,tp,rfl,_,rfl⟩⟩
  refine ⟨.ref s.heap.objs.size,_,I2,rfl,⟨_,x,fr,rfl,rfl,fun xs' h=>by rw [zr6 (lb:=false) I sx h]; exact hx⟩,⟨⟨v,e1⟩,c2'.at fun o q=>ext _ o (Ne.symm D) q⟩,fun d hd=>?_⟩
  obtain ⟨od,gd,_⟩:∃ o,s.heap.get? d=some o/\True:=by
   simp only [List.mem_cons,List.not_mem_nil,or_false] at hd
   rcases hd with rfl | rfl
   ·exact ⟨_,we,trivial⟩
   ·obtain ⟨o,e,_⟩:=g; exact ⟨o,e,trivial⟩
  rw [zq (Nat.ne_of_lt (Heap.lt_size gd))]; exact (hf d hd).1
 done:=by
  intro X hP hw hK hc i pins s σ H E I hf st hg
  subst hP hw hK
  obtain ⟨⟨old,we⟩,g⟩:=st
  obtain ⟨xs,sx,hend⟩:=hg; obtain ⟨us,rx,px,_⟩:=I.tuple sx
  have ne:∀ d,d ∈ [e,it]->a≠d:=fun d hd=>zr5 (lb:=false) I sx (hf d hd)
  have Dr:=ziE (A:=X.A.in1) (zhM (prog:=X.prog) (w:=X.w) (it:=it) (l:=a) (xs:=us) (ne it (by simp))) (I.ok.hd hc)
  have hl:us.length=i:=by rw [<- rx.length]; exact hend
  refine wpAny_pyNext_enum_endD Dr we ⟨by omega,by rw [Nat.add_sub_cancel,hl]; exact ⟨g,px⟩⟩ fun h' k=>⟨rfl,?_⟩
  refine I.turnedL (t':=s.toks) (ch:=[e,it]) hf fun d o hd q=>?_
  simp only [List.mem_cons,List.not_mem_nil,or_false,not_or] at hd; exact k d o hd.2 q
 self:=fun A i s Q E st q=>by
  obtain ⟨⟨old,we⟩,g⟩:=st
  exact wpAny_pyIter_enum we q
section
variable {X:Cx}
def zwC (K:W.Frag) (ta:TA):TI:=fun σ H R=>ta σ H fun vs H1=>∃ a xs,vs=[.ref a]/\SqT K H1 a xs/\R (zvN K a) H1
theorem zsB {e1:Expr} {elts:List Expr} {c:Nat} {ta:TA} {j} {p q kpos pos tp:Pos} (hg:Gl X "enumerate") (hm:X.mg "enumerate"=none) (ha:PA X [e1] ta)
  (he:backTo pos (starEach [e1] X.env)=(false,eval e1 X.env) :: backTo pos (starEach [] X.env)) (hplain:(backTo pos (starEach [e1] X.env)).any (·.1)=false) :
  PI X (.Tuple elts c tp) (.Call (.Name "enumerate" p) [e1] [⟨some "start",.Constant (.int 1) j q,kpos⟩] pos) (zwC X.K ta):=by
 intro pins s σ H R I h; refine wpAny_Call_Name_kw (zfI I hg hm znd ?_)
 refine zrt (thn (ha pos pins s σ H _ I h) fun us s1 ⟨vs,H1,I1,r1,q1⟩=>?_) he hplain rfl rfl
 obtain ⟨a,xs,e,sx,q⟩:=q1; subst e; obtain ⟨u,rfl,ru⟩:=zc8 r1
 obtain rfl:u=Value.ref a:=ru
 refine thn (zmf (nm:=some "start") (kpos:=kpos) (zmj (i:=1)) zpl pos pins s1 σ H1 (fun zs H2=>zs=[.int 1]/\H2=H1) I1 ⟨rfl,rfl⟩) fun ws s2 ⟨zs,H2,I2,rz,e1,e2⟩=>?_
 subst e1 e2
 obtain ⟨w',rfl,⟨tk,rfl⟩⟩:=zc8 rz
 obtain ⟨us,rx,px,_⟩:=I2.tuple sx
 refine zrz (items:=us.toArray) px fun h' z1 z2 k=>?_
 refine wpAny_pyIter_enum (s:={ s2 with heap:=h' }) z1 ?_
 refine ⟨s2.heap.objs.size+1,[s2.heap.objs.size+1,s2.heap.objs.size],_,_,H2,rfl,I2.kept (t':=s2.toks) k,znz a _ _ (zs7 (by omega)),⟨⟨_,z1⟩,z2⟩,fun d hd=>?_,q⟩
 have hd':s2.heap.objs.size<=d:=by
  simp only [List.mem_cons,List.not_mem_nil,or_false] at hd
  rcases hd with rfl | rfl <;> omega
 exact I2.fpOk hd' (I2.hok.fresh hd')
end
end L2
namespace PL
open PySem L2
theorem zri {K:W.Frag} {Hi:Hp} {a:Addr} {us:List V} {ds:List D} (h1:SqT K Hi a us) (r1:zaV K Hi us ds):ItD K Hi (zvN K a) (zht 1 ds):=by
 intro Hi' H' s1 s2
 have q1:SqT K H' a us:=zC (s1.trans s2.sub) h1
 refine ⟨fun i d e=>?_,us,q1,?_⟩
 ·rw [ziD] at e
  obtain ⟨d1,hz,rfl⟩:=Option.map_eq_some_iff.mp e; obtain ⟨u,hu,ru⟩:=zQ r1 hz; refine ⟨⟨us,u,q1,hu⟩,?_⟩
  rintro x H'' ⟨p,x1,hp,rfl,rfl,k1⟩
  have ex:x1=u:=by have:=k1 us q1; rw [hu] at this; exact (Option.some.inj this).symm
  subst ex; have ex:=Ext.new s2 hp (.tup [.int (i+1:Nat),x1]); refine ⟨_,ex,?_⟩; rw [Nat.add_comm 1 i]; exact Den.mkT zj (.cons (.int _) (.cons (ru.mono (s1.trans ex.hi)) .nil))
 ·rw [zfU,zg r1]
section
variable {X:Cx}
def zgk (t:TA'):TI':=fun Γ Q=>t Γ fun ds Γ1=>∃ xs,ds=[.tup xs]/\Q (zht 1 xs) Γ1
theorem zqu {e1:Expr} {elts:List Expr} {c:Nat} {t:TA'} {j} {p q kpos pos tp:Pos} (hm:X.mg "enumerate"=none) (ha:PA' X [e1] t) (hg:Gl X "enumerate":=by rfl)
  (he:backTo pos (starEach [e1] X.env)=(false,eval e1 X.env) :: backTo pos (starEach [] X.env):=by rfl) (hplain:(backTo pos (starEach [e1] X.env)).any (·.1)=false:=by rfl) :
  PI' X (.Tuple elts c tp) (.Call (.Name "enumerate" p) [e1] [⟨some "start",.Constant (.int 1) j q,kpos⟩] pos) (zgk t):=by
 refine ⟨PI.weak (zsB hg hm ha.pa he hplain) ?_⟩
 rintro σ H R ⟨W,Hi,Γ,Q,g,h,fin⟩
 refine ⟨W,Hi,Γ,_,g,h,?_⟩
 rintro vs H1 Hi1 Γ1 ds s1 g1 dl ⟨xs,rfl,q⟩
 obtain ⟨v,rfl,d1⟩:=zeb dl; obtain ⟨a,us,rfl,h1,r1⟩:=d1.tupI; exact ⟨a,us,rfl,zC g1.sub h1,fin _ H1 Hi1 Γ1 _ s1 g1 (zri h1 r1) q⟩
end
end PL
namespace PL
open PySem L2
abbrev SpA:=Addr->OD->List D->(D->OD->Prop)->Prop
def zpW (K:W.Frag) (j:Nat) (sp:SpA):Sp:=fun vs H Q2 _=>∃ Hi b o v1 v2 ds Q,vs=v1 ++ .ref b :: v2/\v1.length=j/\zaV K Hi (v1 ++ v2) ds/\Fz Hi H/\Hi b=none/\zaU K Hi H b o/\sp b o ds Q /\
 ∀ Hi' H' v' r o',ExtB b Hi H Hi' H'->Den K Hi' v' r->zaU K Hi' H' b o'->Q r o'->Q2 v' H'
structure FnA (P:Program) (w:World) (K:W.Frag) (mg:Str->Option Value) (base:Heap) (k:Nat) (x:Str) (ps:List Str) (j:Nat) (sp:SpA):Prop where
 ex:∃ f fd,FnOk P w K mg base CX0 k f fd ps (zpW K j sp)/\zbi K fd ps []/\W.keepIn K (.ref f)=true/\mg x=some (.ref f)
class MSpA (sp:SpA):Prop where
 mono:∀ b o ds Q Q',(∀ r o',Q r o'->Q' r o')->sp b o ds Q->sp b o ds Q'
section
variable {P:Program} {w:World} {K:W.Frag} {mg:Str->Option Value} {base:Heap}
theorem Fun.okA {x qual:Str} {st:Stmt} {f:Addr} {fd:FuncData} {N ps:List Str} {k j:Nat} {sp:SpA} (F:Fun K x qual st f fd) (S:FnScope N ps (zf st)) (len:∀ b o ds Q,sp b o ds Q->ds.length+1=ps.length)
  (hbody:∀ (cdv:Value) (A:Around) (outer:List Env) (s:Shared) (H:Hp) (E:XK),Room k (A.deeper (PyProof.Rows.envOfC qual (zf st) s.heap.objs.size f cdv))->∀ b o ds Q,sp b o ds Q ->
   ∃ t,PSs' (zhF CX0 P w K mg base N qual (zf st) f cdv A outer s H E).nox (zG st) t/\t { nx:=fun Γ=>∃ o',Γ[j]?=some (.bk (fun z=>z) b o')/\Q .non o',rt:=fun r Γ=>∃ o' d',r=.val d'/\Γ[j]?=some (.bk (fun z=>z) b o')/\Q d' o' } (zbo N j b o ds)):FnOk P w K mg base CX0 (k+1) f fd ps (zpW K j sp):=by
 refine F.ok S (fun vs H Q E h=>?_) (fun cdv A outer s H vs Q E hr h=>?_)
 ·obtain ⟨Hi,b,o,v1,v2,ds,Q',rfl,_,dl,_,_,_,h,_⟩:=h
  have:=len b o ds Q' h
  have hl:=zg dl; rw [List.length_append] at hl; rw [List.length_append,List.length_cons]; omega
 obtain ⟨Hi,b,o,v1,v2,ds,Q',rfl,hj,dl,sb,hb,at_,h,fin⟩:=h; obtain ⟨t,h1,h2⟩:=hbody cdv A outer s H E hr b o ds Q' h; have hlen:=len b o ds Q' h
 have hpl:ps.length<=N.length:=by have:=congrArg List.length S.pre; rw [List.length_take] at this; omega
 refine ⟨_,h1.h,⟨H,Hi,[b]⟩,Hi,zbo N j b o ds,_,zjE hlen hpl hj sb hb at_ dl,h2,?_⟩
 have ex:∀ {σ':St} {H' Hi':Hp} {Γ':Sts},zU Hi Hi'->Good K N.length ⟨H,Hi,[b]⟩ Hi' Γ' σ' H'->ExtB b Hi H Hi' H':=fun s1 g1 =>
  ⟨s1,fun a o ne e=>g1.keep a o e (by simpa using ne),g1.fz,fun a o e=>g1.fro a o e⟩
 refine ⟨fun σ' H' Hi' Γ' s1 g1 q=>?_,fun _ _ _ _ _ _ q=>q.elim,fun _ _ _ _ _ _ q=>q.elim,fun v σ' H' Hi' Γ' r s1 g1 ro q=>?_⟩
 ·obtain ⟨o',e,q⟩:=q
  exact fin Hi' H' .non .non o' (ex s1 g1) .non (g1.bk j _ b o' e).at_ q
 ·obtain ⟨o',d',rfl,e,q⟩:=q
  exact fin Hi' H' v d' o' (ex s1 g1) ro (g1.bk j _ b o' e).at_ q
theorem Df.okA {k j:Nat} {x:Str} {ps:List Str} {sp:SpA} {st:Stmt} {N:List Str} (d:Df K mg x st ps) (S:FnScope N ps (zf st)) (len:∀ b o ds Q,sp b o ds Q->ds.length+1=ps.length)
  (hbody:∀ (f:Addr) (cdv:Value) (A:Around) (outer:List Env) (s:Shared) (H:Hp) (E:XK),Room k (A.deeper (PyProof.Rows.envOfC x (zf st) s.heap.objs.size f cdv))->∀ b o ds Q,sp b o ds Q ->
   ∃ t,PSs' (zhF CX0 P w K mg base N x (zf st) f cdv A outer s H E).nox (zG st) t/\t { nx:=fun Γ=>∃ o',Γ[j]?=some (.bk (fun z=>z) b o')/\Q .non o',rt:=fun r Γ=>∃ o' d',r=.val d'/\Γ[j]?=some (.bk (fun z=>z) b o')/\Q d' o' } (zbo N j b o ds)):FnA P w K mg base (k+1) x ps j sp:=by
 obtain ⟨f,fd,F,b,m⟩:=d.ex; exact ⟨f,fd,PL.Fun.okA F S len (hbody f),b,F.kp,m⟩
end
section
variable {X:Cx}
def zcB (i:Nat) (sp:SpA) (t:TM'):TE':=fun Γ Q=>t Γ fun d1 d2 Γ1=>∃ b o,Γ1[i]?=some (.bk (fun z=>z) b o)/\sp b o (d1 ++ d2) fun r o'=>Q r (Γ1.set i (.bk (fun z=>z) b o'))
theorem zoi {i j k:Nat} {x:Str} {ps:List Str} {sp:SpA} {es:List Expr} {t:TM'} {p pos:Pos} {e:Expr} (h:FnA X.prog X.w X.K X.mg X.base k x ps j sp) (hr:Room k X.A) (ha:PM' X i j (e :: es) t) (hg:Gl X x:=by rfl) (hdb:(x == ("__debug__":Str))=false:=by decide) :
  PE' X (.Call (.Name x p) (e :: es) [] pos) (zcB i sp t):=by
 obtain ⟨f,fd,F,bd,hk,hm⟩:=h.ex; obtain ⟨p1,p2⟩:=zM ha.pl; refine ⟨PE.weak (zjm (E:=E0) (dvs:=[]) F hr hg hm hk bd .nil zml ha.pa hdb (zK p1) (zay p2)) ?_⟩
 rintro σ H Q ⟨W,Hi,Γ,Q',g,h,fin⟩
 refine ⟨W,Hi,Γ,_,g,h,?_⟩
 rintro vs H1 Hi1 Γ1 d1 d2 b' v1 v2 s1 g1 ev hj hb dl1 dl2 ⟨b,o,e1,q1⟩
 have B:=g1.bk i _ b o e1; obtain ⟨v,hv1,dv⟩:=B.val
 cases dv.adrI
 rw [hb] at hv1; cases hv1; rw [List.append_nil]; refine ⟨Hi1,b',o,v1,v2,d1 ++ d2,_,ev,hj,zah dl1 dl2,g1.fz,B.hi,B.at_,q1,?_⟩; intro Hi2 H2 v' r o' ex den at_ q2; exact fin v' H2 ⟨Hi2,r,_,s1.trans ex.hi,g1.extB e1 ex at_,den,q2⟩
instance {i:Nat} {sp:SpA} {t:TM'} [MSpA sp] [MM t]:ME (zcB i sp t):=⟨fun Γ _ _ h q=>MM.mono (t:=t) Γ _ _ (fun _ _ _ ⟨b,o,e,z⟩=>⟨b,o,e,MSpA.mono (sp:=sp) _ _ _ _ _ (fun _ _ w=>h _ _ w) z⟩) q⟩
def zf1 (i:Nat):TE':=fun Γ Q=>∃ b o,Γ[i]?=some (.bk (fun z=>z) b o)/\Q (.adr b) Γ
theorem zqy (i:Nat) {y:Str} {q:Pos} (hN:X.N[i]?=some y:=by rfl) (hv:Vis X.env.scope y:=by first | exact Or.inl rfl | exact Or.inr (Or.inl rfl) | exact Or.inr (Or.inr rfl)) (hd:(y == ("__debug__":Str))=false:=by decide)
  (hcd:(y == ("__classdict__":Str))=false:=by decide):PE' X (.Name y q) (zf1 i):=by
 refine ⟨PE.weak (zdZ (i:=i) (pos:=q) hN hv hd hcd) ?_⟩
 rintro σ H Q ⟨W,Hi,Γ,Q',g,⟨b,o,e,h⟩,fin⟩
 obtain ⟨v,hv',dv⟩:=(g.bk i _ _ _ e).val; exact ⟨v,hv',fin v H ⟨Hi,_,Γ,zU.refl _,g,dv,h⟩⟩
theorem Good.extN {K:W.Frag} {n:Nat} {W:Wd} {Hi Hi' H H':Hp} {Γ:Sts} {σ:St} {b:Addr} {o o':OD} (g:Good K n W Hi Γ σ H) (nw:New K n W Hi Γ σ H b o) (e:ExtB b Hi H Hi' H') (at_:zaU K Hi' H' b o'):Good K n W Hi' Γ σ H'/\New K n W Hi' Γ σ H' b o':=by
 obtain ⟨u0,hu0⟩:=nw.own.there
 refine ⟨⟨g.len,e.fz,fun a o h n=>?_,fun a o h=>?_,fun a o h=>?_,fun i d h=>?_,fun i o h=>?_,g.apart,fun i d c xs h=>?_⟩,⟨(e.fro b u0 hu0).trans nw.hi,nw.h0,nw.ne,at_⟩⟩
 ·exact e.h a o (fun z=>by rw [z,nw.h0] at h; cases h) (g.keep a o h n)
 ·obtain ⟨w,q⟩:=g.there a o h
  exact ⟨w,e.h a w (fun z=>by rw [z,nw.h0] at h; cases h) q⟩
 ·obtain ⟨w,q⟩:=g.there a o h
  exact (e.fro a w q).trans (g.fro a o h)
 ·obtain ⟨v,h1,h2⟩:=g.val i d h
  exact ⟨v,h1,h2.mono e.hi⟩
 ·obtain ⟨a,h1,h2,h3,h4⟩:=g.own i o h
  obtain ⟨u,hu⟩:=h4.there
  exact ⟨a,h1,(e.fro a u hu).trans h2,h3,h4.mono e.hi fun u q=>e.h a u (fun z=>nw.ne.own i o h (by rw [<- z]; exact h1)) q⟩
 ·obtain ⟨⟨v,h0,h1⟩,h2,h3,h4,h5,h6,h7⟩:=g.bk i d c xs h
  obtain ⟨u,hu⟩:=h5.there
  exact ⟨⟨v,h0,h1.mono e.hi⟩,h2,(e.fro c u hu).trans h3,h4,h5.mono e.hi fun u q=>e.h c u (fun z=>nw.ne.bk i d xs (by rw [<- z]; exact h)) q,h6,h7⟩
def zcA (sp:SpA) (t1 t2:TE') (to:TO'):TO':=fun Γ Q=>t1 Γ fun d1 Γ1=>t2 Γ1 fun d2 Γ2=>to Γ2 fun o Γ3=>∀ b,sp b o [d1,d2] fun r o'=>r=.adr b/\Q o' Γ3
theorem zn5 {k:Nat} {x:Str} {ps:List Str} {sp:SpA} {e1 e2 e3:Expr} {t1 t2:TE'} {to:TO'} {p pos:Pos} (h:FnA X.prog X.w X.K X.mg X.base k x ps 2 sp) (hr:Room k X.A) (h1:PE' X e1 t1) (h2:PE' X e2 t2) (h3:PO' X e3 to)
  (hs1:zcR e1=false:=by rfl) (hs2:zcR e2=false:=by rfl) (hs3:zcR e3=false:=by rfl) (hg:Gl X x:=by rfl) (hdb:(x == ("__debug__":Str))=false:=by decide) :
  PO' X (.Call (.Name x p) [e1,e2,e3] [] pos) (zcA sp t1 t2 to):=by
 obtain ⟨f,fd,F,bd,hk,hm⟩:=h.ex
 refine ⟨PE.weak (zjm (E:=E0) (dvs:=[]) F hr hg hm hk bd .nil zml (zcO h1.h (zcO h2.h (zcO h3.h zke (zK hs3)) (zK hs2)) (zK hs1)) hdb (zK hs1) (by rw [zK hs2,zK hs3]; rfl)) ?_⟩
 rintro σ H Q ⟨W,Hi,Γ,Q',g,h,fin⟩
 refine ⟨W,Hi,Γ,_,g,h,?_⟩
 rintro v1 H1 ⟨Hi1,d1,Γ1,s1,g1,den1,q1⟩
 refine ⟨W,Hi1,Γ1,_,g1,q1,?_⟩
 rintro v2 H2 ⟨Hi2,d2,Γ2,s2,g2,den2,q2⟩
 refine ⟨W,Hi2,Γ2,_,g2,q2,?_⟩; intro b H3 Hi3 Γ3 o s3 g3 nw q3
 show zpW X.K 2 sp ([v1,v2,.ref b] ++ []) H3 Q E0
 rw [List.append_nil]; refine ⟨Hi3,b,o,[v1,v2],[],[d1,d2],_,rfl,rfl,.cons (den1.mono (s2.trans s3)) (.cons (den2.mono s3) .nil),g3.fz,nw.hi,nw.own,q3 b,?_⟩
 rintro Hi4 H4 v' r o' ex den at_ ⟨rfl,q4⟩
 cases den.adrI
 obtain ⟨g4,nw4⟩:=g3.extN nw ex at_; exact fin b H4 Hi4 Γ3 o' (s1.trans (s2.trans (s3.trans ex.hi))) g4 nw4 q4
instance {sp:SpA} {t1 t2:TE'} {to:TO'} [MSpA sp] [ME t1] [ME t2] [MO to]:MO (zcA sp t1 t2 to):=⟨fun Γ _ _ h q=>ME.mono (t:=t1) Γ _ _ (fun _ _ z=>ME.mono (t:=t2) _ _ _ (fun _ _ z=>MO.mono (t:=to) _ _ _ (fun _ _ z b=>MSpA.mono (sp:=sp) _ _ _ _ _ (fun _ _ ⟨e,y⟩=>⟨e,h _ _ y⟩) (z b)) z) z) q⟩
def znl:R2':=fun x y Q=>∃ (i:Int) (ds:List D),x=.int i/\y=.lst ds/\(∀ d ∈ ds,d=.non\/∃ l,d=.str l)/\Q (.bl false)
theorem zvb:Op2 X (compareOp .In) znl:=⟨_,zia,by
 rintro Hi H x y dx dy Q Q2 s d1 d2 ⟨i,ds,rfl,rfl,hd,q⟩ fin
 cases d1.intI
 obtain ⟨a,vs,rfl,h1,h2⟩:=d2.lstI
 have hv:∀ v ∈ vs,v=.non\/∃ z,v=.str z:=fun v hv=>by
  obtain ⟨j,hj⟩:=List.getElem?_of_mem hv; have hl:=(List.getElem?_eq_some_iff.mp hj).1; rw [zg h2] at hl
  have hdj:ds[j]?=some ds[j]:=List.getElem?_eq_getElem hl
  have den:=paired_get j h2 hj hdj
  rcases hd _ (List.getElem_mem hl) with e | ⟨l,e⟩
  ·rw [e] at den; exact .inl den.nonI
  ·rw [e] at den; exact .inr ⟨_,den.strI⟩
 refine ⟨a,vs,rfl,.inl (zE s.sub h1),rfl,List.all_eq_true.mpr fun v z=>?_,?_⟩
 ·rcases hv v z with rfl | ⟨z,rfl⟩ <;> rfl
 ·have e:inV (.int i) vs=false:=by
   unfold inV; rw [List.any_eq_false]; intro v z
   rcases hv v z with rfl | ⟨z,rfl⟩ <;> simp [eqV]
  rw [e]; exact fin Hi H _ _ (Ext.refl s) (.bl _) q⟩
end
end PL
namespace M24
abbrev Pl:=List (List Nat)
inductive Knd where
 | W | F | B
 deriving DecidableEq
def above (p q:Pl):Bool:=decide (q.take p.length=p)
theorem above_iff {p q:Pl}:above p q=true↔p <+: q:=by
 unfold above; rw [decide_eq_true_iff]; constructor
 ·intro h
  exact ⟨q.drop p.length,by
   have e:=List.take_append_drop p.length q; rw [h] at e; exact e⟩
 ·rintro ⟨t,rfl⟩
  simp
def hasWords (k:Knd) (p q:Pl):Bool:=match k with
 | .W=>decide (p=q)
 | .F=>above p q
 | .B=>!decide (p=q) && above p q
def common (k1:Knd) (p1:Pl) (k2:Knd) (p2:Pl):Bool :=
 if k1=.W then hasWords k2 p2 p1 else if k2=.W then hasWords k1 p1 p2 else above p1 p2 || above p2 p1
def zlJ (k:Knd) (g p:Pl) (lab:Bool):Bool:=match k with
 | .W=>decide (p=g) && !lab
 | .F=>decide (g.length<=p.length) && decide (p.take g.length=g)
 | .B=>if p.length=g.length then false else decide (g.length<=p.length) && decide (p.take g.length=g)
def zwT (k1:Knd) (p1:Pl) (k2:Knd) (p2 p:Pl) (lab:Bool):Bool:=zlJ k1 p1 p lab && zlJ k2 p2 p lab
def zwr (p1 p2:Pl):List Pl:=[p1,p1 ++ [[49]],p2,p2 ++ [[49]]]
theorem comp {p1 p2 p:Pl} (h1:p1 <+: p) (h2:p2 <+: p):p1 <+: p2\/p2 <+: p1:=by
 by_cases h:p1.length<=p2.length
 ·exact .inl (List.prefix_of_prefix_length_le h1 h2 h)
 ·exact .inr (List.prefix_of_prefix_length_le h2 h1 (by omega))
end M24
namespace M25
open PySem L2 Lb PL MT MS M04 M70 M71 M72 M74 M76
def wd (t:Tr) (q:Pl):Option Pl:=(zp t q).map Tr.wds
theorem zhH (t:Tr):wd t []=some t.wds:=rfl
theorem zpP (t:Tr) (l:List Nat) (q:Pl):wd t (l :: q)=match zi l t.kds with
  | some k=>wd k q
  | none=>none:=by
 unfold wd; simp only [zp]
 cases zi l t.kds <;> rfl
theorem zbw {t:Tr} {l:List Nat} {q:Pl}:wd t (l :: q)=(zi l t.kds).bind fun k=>wd k q:=by
 rw [zpP]; cases zi l t.kds <;> rfl
theorem zlF {t:Tr} {l:List Nat}:(wd t [l]).isSome=true↔l ∈ zaD t.kds:=by
 rw [zbw]
 cases h:zi l t.kds with
 | none =>
  have:=zdJ.mp h
  simp [this]
 | some k =>
  have:=zbO h
  simp [zhH]; rw [<- this.2]; exact List.mem_map_of_mem this.1
theorem zho {c d:Nat}:∀ {n m:Nat} {t u:Tr},Wf c n t->Wf d m u->(∀ l q,wd t (l :: q)=wd u (l :: q))->t.kds=u.kds
 | 0,_,t,u,h,_,_=>by obtain ⟨_,z⟩:=h.pos; cases z
 | _,0,t,u,_,h,_=>by obtain ⟨_,z⟩:=h.pos; cases z
 | n+1,m+1,t,u,h1,h2,h=>by
  have go:∀ {c d n m:Nat} {t u:Tr},Wf c (n+1) t->Wf d (m+1) u->(∀ l q,wd t (l :: q)=wd u (l :: q))->(∀ {a b:Tr},Wf c n a->Wf d m b->(∀ l q,wd a (l :: q)=wd b (l :: q))->a.kds=b.kds)->∀ x ∈ t.kds,x ∈ u.kds:=by
   intro c d n m t u h1 h2 h ih x hx; have e1:=zcm h1.nd hx
   have hs:(wd u [x.lab]).isSome=true:=by rw [<- h]; exact zlF.mpr (List.mem_map_of_mem hx)
   obtain ⟨y,e2⟩:=zhl (zlF.mp hs); have hy:=zbO e2
   have hw:∀ q,wd x q=wd y q:=fun q=>by
    have:=h x.lab q
    rw [zbw,zbw,e1,e2] at this; exact this
   have hk:=ih (h1.kid x hx) (h2.kid y hy.1) fun l q=>hw (l :: q)
   have hww:=hw []; rw [zhH,zhH] at hww; obtain ⟨xl,xw,xk⟩:=x; obtain ⟨yl,yw,yk⟩:=y
   have a1:yl=xl:=hy.2
   have a2:xw=yw:=Option.some.inj hww
   have a3:xk=yk:=hk
   subst a1; subst a2; subst a3
   exact hy.1
  refine zpg h1.ris h2.ris fun x=>⟨go h1 h2 h (fun a b e=>zho a b e) x,go h2 h1 (fun l q=>(h l q).symm) (fun a b e=>(zho b a fun l q=>(e l q).symm).symm) x⟩
theorem zrL {c d n m:Nat} {t u:Tr} (h1:Wf c n t) (h2:Wf d m u) (hl:t.lab=u.lab) (h:∀ q,wd t q=wd u q):t=u:=by
 have hk:=zho h1 h2 fun l q=>h (l :: q)
 have hw:=h []; rw [zhH,zhH] at hw; obtain ⟨xl,xw,xk⟩:=t; obtain ⟨yl,yw,yk⟩:=u
 have a1:xl=yl:=hl
 have a2:xw=yw:=Option.some.inj hw
 have a3:xk=yk:=hk
 subst a1; subst a2; subst a3
 rfl
theorem zef {ws:Pl} {ks:List Tr}:∀ {p:Pl} {t nd:Tr} (q:Pl),zp t p=some nd->wd (made t p ws ks) q=if p <+: q then wd (.node nd.lab ws ks) (q.drop p.length) else wd t q
 | [],t,nd,q,h=>by
  rw [if_pos (List.nil_prefix)]; cases h; rfl
 | l :: p,t,nd,[],h=>by
  rw [if_neg (by rintro ⟨r,e⟩; cases e)]
  rfl
 | l :: p,t,nd,m :: q,h=>by
  have hk:∃ k,zi l t.kds=some k/\zp k p=some nd:=by
   simp only [zp] at h
   cases e:zi l t.kds with
   | none=>rw [e] at h; cases h
   | some k=>rw [e] at h; exact ⟨k,rfl,h⟩
  obtain ⟨k,e,hn⟩:=hk
  have e1:wd (made t (l :: p) ws ks) (m :: q)=(zi m t.kds).bind fun x=>wd (if x.lab=l then made x p ws ks else x) q:=by
   rw [zbw]
   show (zi m (t.kds.map fun k=>if k.lab=l then made k p ws ks else k)).bind _=_
   rw [M73.kw_made]
   cases zi m t.kds <;> rfl
  rw [e1]
  by_cases hm:m=l
  ·subst hm
   rw [e]; have hl:=(zbO e).2
   show wd (if k.lab=m then made k p ws ks else k) q=_
   rw [if_pos hl,zef q hn]
   by_cases hp:p <+: q
   ·rw [if_pos hp,if_pos (by obtain ⟨r,e⟩:=hp; exact ⟨r,by rw [List.cons_append,e]⟩)]
    rfl
   ·rw [if_neg hp,if_neg (by rintro ⟨r,e⟩; exact hp ⟨r,(List.cons.inj e).2⟩),zbw,e]
    rfl
  ·rw [if_neg (by rintro ⟨r,e⟩; exact hm (List.cons.inj e).1.symm),zbw]
   cases e2:zi m t.kds with
   | none=>rfl
   | some x =>
    have hl:=(zbO e2).2
    show wd (if x.lab=l then made x p ws ks else x) q=_
    rw [if_neg (by rw [hl]; exact hm)]
    rfl
theorem zhh {t:Tr} {p:Pl}:(wd t p).isSome=true↔∃ nd,zp t p=some nd:=by
 unfold wd
 cases zp t p <;> simp
theorem ze9 (t:Tr) (p r:Pl):wd t (p ++ r)=(zp t p).bind fun x=>wd x r:=by
 unfold wd; rw [M87.node_app]
 cases zp t p <;> rfl
mutual
def dpt:Tr->Nat
 | .node _ _ ks=>1+zhv ks
def zhv:List Tr->Nat
 | []=>0
 | k :: ks=>max (dpt k) (zhv ks)
end
theorem zfV (t:Tr):dpt t=1+zhv t.kds:=by cases t; rfl
theorem zky:∀ a b:List Tr,zhv (a ++ b)=max (zhv a) (zhv b)
 | [],b=>by simp [zhv]
 | k :: a,b=>by simp only [List.cons_append,zhv,zky a b,Nat.max_assoc]
theorem ziF:∀ {ks:List Tr},ks≠[]->zhv ks=1+zhv (ks.flatMap Tr.kds)
 | [],h=>absurd rfl h
 | [k],_=>by
  rw [List.flatMap_cons,List.flatMap_nil,List.append_nil]
  show max (dpt k) 0=_
  rw [zfV]; omega
 | k :: k' :: ks,_=>by
  have ih:=ziF (ks:=k' :: ks) (by simp)
  rw [List.flatMap_cons,zky]
  show max (dpt k) (zhv (k' :: ks))=_
  rw [ih,zfV]; omega
theorem zhu {m:Nat}:∀ {ks:List Tr},(∀ k ∈ ks,dpt k<=m)↔zhv ks<=m
 | []=>by simp [zhv]
 | k :: ks=>by
  have:=zhu (m:=m) (ks:=ks)
  simp only [zhv,List.mem_cons,forall_eq_or_imp,this]; omega
theorem zlE {c:Nat}:∀ {n:Nat} {t:Tr},Wf c n t->dpt t<=n
 | 0,t,h=>by obtain ⟨_,z⟩:=h.pos; cases z
 | n+1,t,h=>by
  rw [zfV]
  have:=zhu.mp fun k hk=>zlE (h.kid k hk)
  omega
theorem zpb {c:Nat}:∀ {m n:Nat} {t:Tr},Wf c n t->dpt t<=m->Wf c m t
 | 0,_,t,_,h=>by rw [zfV] at h; omega
 | m+1,0,t,h,_=>by obtain ⟨_,z⟩:=h.pos; cases z
 | m+1,n+1,t,h,hd=>by
  rw [zfV] at hd
  have hk:=zhu.mpr (by omega:zhv t.kds<=m)
  exact .mk' (fun k z=>zpb (h.kid k z) (hk k z)) h.plab h.ris h.few h.wfew
def zbD:Nat->List Tr->List Tr
 | _,[]=>[]
 | i,k :: ks=>.node (zfB (i:Int)) k.wds k.kds :: zbD (i+1) ks
theorem zfo:∀ (i:Nat) (ks:List Tr),(zbD i ks).length=ks.length
 | _,[]=>rfl
 | i,k :: ks=>by simp [zbD,zfo]
theorem zmr {n:Int} (h0:1<=n) (h1:n<10 ^ 9):zy (zfB n)=true/\zbv (zfB n)=(n,[]):=by
 obtain ⟨n1,n2,n3,n4⟩:=M11.num_lab h0 h1
 have hp:=M11.lab_of (ls:=[]) n1 n2 n3 n4 (by simp) (by simp)
 rw [List.append_nil] at hp; refine ⟨hp,?_⟩
 have hc:cut (zfB n)=zfB n:=by
  have:=zpJ (ds:=zfB n) (ls:=[]) (by simp) (fun c hc=>zdK (n1 c hc))
  rwa [List.append_nil] at this
 have ht:zdw (zfB n)=[]:=by
  have e:=zfX (zfB n); rw [hc] at e; exact List.append_cancel_left (e.trans (List.append_nil _).symm)
 unfold zbv; rw [hc,ht]
 have:st (zfB n)=Str.ofString (toString n):=by
  unfold zfB st; simp
 rw [this,PySem.W.KIN.num_reads (by omega) (by omega)]
 rfl
theorem zgq:∀ (i:Nat) (ks:List Tr),∀ l ∈ zaD (zbD i ks),∃ j,i<=j/\j<i+ks.length/\l=zfB (j:Int)
 | _,[],l,h=>by cases h
 | i,k :: ks,l,h=>by
  rcases List.mem_cons.mp h with z | z
  ·exact ⟨i,Nat.le_refl _,by simp,z⟩
  ·obtain ⟨j,a,b,c⟩:=zgq (i+1) ks l z
   exact ⟨j,by omega,by simp; omega,c⟩
theorem zhV:∀ (i:Nat) (ks:List Tr),1<=i->i+ks.length<10 ^ 9->Ris (zaD (zbD i ks))/\∀ k ∈ zbD i ks,zy k.lab=true
 | _,[],_,_=>⟨.nil,fun k h=>by cases h⟩
 | i,k :: ks,h1,h2=>by
  have h2':i+1+ks.length<10 ^ 9:=by simpa [Nat.add_assoc,Nat.add_comm 1] using h2
  obtain ⟨a,b⟩:=zhV (i+1) ks (by omega) h2'
  have ki:=zmr (n:=(i:Int)) (by omega) (by omega)
  refine ⟨List.pairwise_cons.mpr ⟨fun l hl=>?_,a⟩,fun x hx=>?_⟩
  ·obtain ⟨j,j1,j2,rfl⟩:=zgq (i+1) ks l hl
   have kj:=zmr (n:=(j:Int)) (by omega) (by omega)
   show klt (zbv (zfB (i:Int))) _
   rw [ki.2,kj.2]
   exact .inl (by show (i:Int)<j; omega)
  ·rcases List.mem_cons.mp hx with z | z
   ·rw [z]; exact ki.1
   ·exact b x z
theorem zhW:∀ (i:Nat) (ks:List Tr),∀ x ∈ zbD i ks,∃ k ∈ ks,x.wds=k.wds/\x.kds=k.kds
 | _,[],x,h=>by cases h
 | i,k :: ks,x,h=>by
  rcases List.mem_cons.mp h with z | z
  ·exact ⟨k,List.mem_cons_self,by rw [z]; rfl,by rw [z]; rfl⟩
  ·obtain ⟨y,a,b⟩:=zhW (i+1) ks x z
   exact ⟨y,List.mem_cons_of_mem _ a,b⟩
theorem zhY:∀ (i:Nat) (ks:List Tr),((zbD i ks).map cnt).sum=(ks.map cnt).sum
 | _,[]=>rfl
 | i,k :: ks=>by
  simp only [zbD,List.map_cons,List.sum_cons,zhY (i+1) ks]; rw [zdu k,zdu]; rfl
inductive Cg where
 | swap (p o n:Pl) | read (p ws:Pl) | put (p:Pl) (k:Tr) | out (p:Pl) | anew (p:Pl)
def zsA:Cg->Pl
 | .swap p _ _=>p
 | .read p _=>p
 | .put p _=>p
 | .out p=>p
 | .anew p=>p
def kd':Cg->M24.Knd
 | .swap _ _ _=>.W
 | .read _ _=>.W
 | .put _ _=>.F
 | .out _=>.F
 | .anew _=>.B
def gl':Cg->Pl
 | .swap p _ _=>p
 | .read p _=>p
 | .put p k=>p ++ [k.lab]
 | .out p=>p
 | .anew p=>p
def zdO:List Nat:=[112,108,97,99,101]
def zpc:List Nat:=[119,111,114,100,115]
def zrT:List Nat:=[116,119,105,99,101]
def zrU:List Nat:=[116,104,101,114,101]
def zrX:List Nat:=[100,101,101,112]
def zrR:List Nat:=[119,104,111,108,101]
def rs (t:Tr):Cg->Option (List Nat)
 | .swap p o _=>match wd t p with
  | none=>some zdO
  | some ws=>if (zbj ws o).length=0 then some zpc else if (zbj ws o).length > 1 then some zrT else none
 | .read p _=>if (wd t p).isSome=true then none else some zdO
 | .put p k=>if (wd t p).isSome=true then (if (wd t (p ++ [k.lab])).isSome=true then some zrU else if 9<p.length+1+dpt k then some zrX else none) else some zdO
 | .out p=>if p=[] then some zrR else if (wd t p).isSome=true then none else some zdO
 | .anew p=>if (wd t p).isSome=true then none else some zdO
def swp (ws o n:Pl):Pl:=ws.take ((zbj ws o).headD 0) ++ n ++ ws.drop ((zbj ws o).headD 0+o.length)
def zfC (t:Tr) (p:Pl):Tr:=(zp t p).getD t
def dnC (t:Tr):Cg->Tr
 | .swap p o n=>made t p (swp (zfC t p).wds o n) (zfC t p).kds
 | .read p ws=>made t p ws (zfC t p).kds
 | .put p k=>made t p (zfC t p).wds (zgj ((zfC t p).kds ++ [k]))
 | .out p=>made t p.dropLast (zfC t p.dropLast).wds ((zfC t p.dropLast).kds.filter fun k=>decide (k.lab≠zaT p))
 | .anew p=>made t p (zfC t p).wds (zbD 1 (zfC t p).kds)
def Tc (c:Cg) (q:Pl):Prop:=match kd' c with
 | .W=>q=gl' c
 | .F=>gl' c <+: q
 | .B=>gl' c <+: q/\q≠gl' c
structure Ok (c:Cg):Prop where
 len:(zsA c).length<=9
 put:∀ p k,c=.put p k->zy k.lab=true/\(∃ n,n<=9/\Wf 1 n k)/\cnt k<=9
 rd:∀ p ws,c=.read p ws->ws.length<=6
 sw:∀ p o n,c=.swap p o n->o.length<=6/\n.length<=6
theorem zd7 (t:Tr) (c:Cg):(dnC t c).lab=t.lab:=by
 cases c <;> exact zd8 _ _ _ _
theorem zu {t nd:Tr} {p:Pl} (h:zp t p=some nd):zfC t p=nd:=by unfold zfC; rw [h]; rfl
theorem ze5 {p q r:Pl} (e:p ++ r=q):q.drop p.length=r:=by rw [<- e]; simp
theorem zbE {t nd:Tr} {p ws:Pl} (h:zp t p=some nd) (q:Pl):wd (made t p ws nd.kds) q=if q=p then some ws else wd t q:=by
 rw [zef q h]
 by_cases hp:p <+: q
 ·obtain ⟨r,e⟩:=hp
  rw [if_pos ⟨r,e⟩,ze5 e]
  cases r with
  | nil =>
   rw [List.append_nil] at e; rw [if_pos e.symm]; rfl
  | cons l r =>
   rw [if_neg (by rw [<- e]; intro z; have:=congrArg List.length z; simp at this),<- e,ze9,h]
   show wd (.node nd.lab ws nd.kds) (l :: r)=wd nd (l :: r)
   rw [zbw,zbw]; rfl
 ·rw [if_neg hp,if_neg (fun z=>hp (by rw [z]; exact List.prefix_refl _))]
theorem zi3 {c n:Nat} {t nd k:Tr} {p:Pl} (w:Wf c n t) (h:zp t p=some nd) (hk:zi k.lab nd.kds=none) (hp:zy k.lab=true) (q:Pl):wd (made t p nd.wds (zgj (nd.kds ++ [k]))) q=if p ++ [k.lab] <+: q then wd k (q.drop (p.length+1)) else wd t q:=by
 have wn:=(w.at h).2; have hnd:=zlX wn.nd hk
 have ok:=ze1 (ks:=nd.kds ++ [k]) fun x hx=>by
  rcases List.mem_append.mp hx with z | z
  ·exact wn.plab x z
  ·rw [List.mem_singleton.mp z]; exact hp
 rw [zef q h]
 by_cases hpq:p <+: q
 ·obtain ⟨r,e⟩:=hpq
  rw [if_pos ⟨r,e⟩,ze5 e]
  cases r with
  | nil =>
   rw [List.append_nil] at e; subst e
   rw [if_neg (by rintro ⟨z,y⟩; have:=congrArg List.length y; simp at this)]
   unfold wd; rw [h]; rfl
  | cons l r =>
   have e2:q.drop (p.length+1)=r:=by rw [<- e,show p ++ l :: r=(p ++ [l]) ++ r by simp]; exact List.drop_left' (by simp)
   have kk:zi l (zgj (nd.kds ++ [k]))=if l=k.lab then some k else zi l nd.kds:=by
    have h1:zi l (zgj (nd.kds ++ [k]))=zi l (nd.kds ++ [k]):=zpr ok.nd hnd fun x _=>ziu hnd
    rw [h1]
    unfold zi at hk ⊢
    rw [List.find?_append]
    by_cases z:l=k.lab
    ·rw [if_pos z,z,hk]
     simp
    ·rw [if_neg z]
     cases List.find? (fun x=>decide (x.lab=l)) nd.kds with
     | some y=>rfl
     | none=>simpa using fun y:k.lab=l=>z y.symm
   rw [zbw]
   show (zi l (zgj (nd.kds ++ [k]))).bind _=_
   rw [kk]
   by_cases z:l=k.lab
   ·rw [if_pos z,if_pos (by rw [<- e,z]; exact ⟨r,by simp⟩),e2]
    rfl
   ·rw [if_neg z,if_neg (by rintro ⟨s,y⟩; rw [<- e,List.append_assoc] at y; exact z (List.cons.inj (List.append_cancel_left y)).1.symm),<- e,ze9,h]
    show _=wd nd (l :: r)
    rw [zbw]
 ·rw [if_neg hpq,if_neg (fun ⟨s,y⟩=>hpq ⟨[k.lab] ++ s,by rw [<- y]; simp⟩)]
theorem zir {p:Pl} (h:p≠[]):p.dropLast ++ [zaT p]=p:=by
 unfold zaT; rw [List.getLast?_eq_some_getLast h]; exact List.dropLast_concat_getLast h
theorem zi4 {c n:Nat} {t ab:Tr} {p:Pl} (w:Wf c n t) (h0:p≠[]) (h:zp t p.dropLast=some ab) (q:Pl):wd (made t p.dropLast ab.wds (ab.kds.filter fun k=>decide (k.lab≠zaT p))) q=if p <+: q then none else wd t q:=by
 have e0:=zir h0; rw [zef q h]
 by_cases hpq:p.dropLast <+: q
 ·obtain ⟨r,e⟩:=hpq
  rw [if_pos ⟨r,e⟩,ze5 e]
  cases r with
  | nil =>
   rw [List.append_nil] at e; subst e
   rw [if_neg (by rintro ⟨z,y⟩; have:=congrArg List.length y; have:=congrArg List.length e0; simp at *; omega)]
   unfold wd; rw [h]; rfl
  | cons l r =>
   rw [zbw]
   show (zi l (ab.kds.filter fun k=>decide (k.lab≠zaT p))).bind _=_
   by_cases z:l=zaT p
   ·have:zi l (ab.kds.filter fun k=>decide (k.lab≠zaT p))=none:=zdJ.mpr fun y=>by
     obtain ⟨x,hx,e⟩:=List.mem_map.mp y
     have:=(List.mem_filter.mp hx).2
     simp at this
     exact this (e.trans z)
    have hpq:p <+: q:=⟨r,by
     have y:p.dropLast ++ [zaT p] ++ r=q:=by rw [<- e,z]; simp
     rw [e0] at y; exact y⟩
    rw [this,if_pos hpq]; rfl
   ·have:zi l (ab.kds.filter fun k=>decide (k.lab≠zaT p))=zi l ab.kds:=by
     unfold zi; rw [List.find?_filter]
     congr 1
     funext x
     by_cases y:x.lab=l
     ·simp [y,z]
     ·simp [y]
    rw [this,if_neg (by rintro ⟨s,y⟩; rw [<- e] at y; rw [<- e0] at y; rw [List.append_assoc,List.dropLast_concat] at y; exact z (List.cons.inj (List.append_cancel_left y)).1.symm),<- e,ze9,h]
    show _=wd ab (l :: r)
    rw [zbw]
 ·rw [if_neg hpq,if_neg (fun ⟨s,y⟩=>hpq ⟨[zaT p] ++ s,by rw [<- List.append_assoc,e0]; exact y⟩)]
theorem zcp {t:Tr} {p ws:Pl} (h:rs t (.read p ws)=none):∃ nd,zp t p=some nd:=by
 simp only [rs] at h; split at h
 ·rename_i z; exact zhh.mp z
 ·cases h
theorem zc6 {t:Tr} {p:Pl} (h:rs t (.anew p)=none):∃ nd,zp t p=some nd:=by
 simp only [rs] at h; split at h
 ·rename_i z; exact zhh.mp z
 ·cases h
theorem zco {t:Tr} {p o n:Pl} (h:rs t (.swap p o n)=none):∃ nd,zp t p=some nd/\(zbj nd.wds o).length=1:=by
 simp only [rs] at h; unfold wd at h
 cases e:zp t p with
 | none=>rw [e] at h; cases h
 | some nd =>
  rw [e] at h; refine ⟨nd,rfl,?_⟩; simp only [Option.map_some] at h; split at h
  ·cases h
  ·split at h
   ·cases h
   ·omega
theorem zey {t k:Tr} {p:Pl} (h:rs t (.put p k)=none):∃ nd,zp t p=some nd/\zi k.lab nd.kds=none/\p.length+1+dpt k<=9:=by
 simp only [rs] at h; split at h
 ·rename_i z
  obtain ⟨nd,e⟩:=zhh.mp z; split at h
  ·cases h
  ·rename_i y
   split at h
   ·cases h
   ·refine ⟨nd,e,?_,by omega⟩
    rw [ze9,e] at y
    cases hk:zi k.lab nd.kds with
    | none=>rfl
    | some x =>
     refine absurd ?_ y
     show (wd nd [k.lab]).isSome=true
     exact zlF.mpr ((zbO hk).2 ▸ List.mem_map_of_mem (zbO hk).1)
 ·cases h
theorem zez {t:Tr} {p:Pl} (h:rs t (.out p)=none):p≠[]/\∃ nd ab,zp t p=some nd/\zp t p.dropLast=some ab:=by
 simp only [rs] at h; split at h
 ·cases h
 ·rename_i h0
  split at h
  ·rename_i z
   obtain ⟨nd,e⟩:=zhh.mp z; refine ⟨h0,nd,?_⟩; have e2:=M87.node_app p.dropLast t [zaT p]; rw [zir h0,e] at e2
   cases e3:zp t p.dropLast with
   | none=>rw [e3] at e2; cases e2
   | some ab=>exact ⟨ab,e,rfl⟩
  ·cases h
theorem zjO {t nd:Tr} {p:Pl} (h:zp t p=some nd) (l:List Nat) (r:Pl):wd (made t p nd.wds (zbD 1 nd.kds)) (p ++ l :: r)=wd (.node [] [] (zbD 1 nd.kds)) (l :: r):=by
 rw [zef _ h,if_pos ⟨_,rfl⟩,ze5 rfl,zbw,zbw]; rfl
theorem zbY {c n:Nat} {t:Tr} {ch:Cg} (w:Wf c n t) (hf:rs t ch=none) (ok:Ok ch) {q:Pl} (hq:¬ Tc ch q):wd (dnC t ch) q=wd t q:=by
 cases ch with
 | swap p o m =>
  obtain ⟨nd,h,_⟩:=zco hf; simp only [dnC,zu h]
  rw [zbE h,if_neg (show ¬ q=p from hq)]
 | read p ws =>
  obtain ⟨nd,h⟩:=zcp hf; simp only [dnC,zu h]
  rw [zbE h,if_neg (show ¬ q=p from hq)]
 | put p k =>
  obtain ⟨nd,h,hk,_⟩:=zey hf; simp only [dnC,zu h]
  rw [zi3 w h hk (ok.put p k rfl).1,if_neg (show ¬ p ++ [k.lab] <+: q from hq)]
 | out p =>
  obtain ⟨h0,nd,ab,h,h'⟩:=zez hf; simp only [dnC,zu h']
  rw [zi4 w h0 h',if_neg (show ¬ p <+: q from hq)]
 | anew p =>
  obtain ⟨nd,h⟩:=zc6 hf; simp only [dnC,zu h]; rw [zef _ h]
  by_cases hp:p <+: q
  ·have e:q=p:=Classical.byContradiction fun z=>hq ⟨hp,z⟩
   subst e; rw [if_pos hp,List.drop_length]; unfold wd; rw [h]; rfl
  ·rw [if_neg hp]
theorem zpH {c n d m:Nat} {t t':Tr} {ch:Cg} (w:Wf c n t) (w':Wf d m t') (hf:rs t ch=none) (hf':rs t' ch=none) (ok:Ok ch) (hs:∀ q,Tc ch q->wd t q=wd t' q) {q:Pl} (hq:Tc ch q):wd (dnC t ch) q=wd (dnC t' ch) q:=by
 cases ch with
 | swap p o x =>
  obtain ⟨nd,h,_⟩:=zco hf; obtain ⟨nd',h',_⟩:=zco hf'; simp only [dnC,zu h,zu h']
  have e:q=p:=hq
  have:=hs q hq
  rw [e] at this; unfold wd at this; rw [h,h'] at this
  have e2:nd.wds=nd'.wds:=Option.some.inj this
  rw [zbE h,zbE h',if_pos e,if_pos e,e2]
 | read p ws =>
  obtain ⟨nd,h⟩:=zcp hf; obtain ⟨nd',h'⟩:=zcp hf'; simp only [dnC,zu h,zu h']
  rw [zbE h,zbE h',if_pos (show q=p from hq),if_pos (show q=p from hq)]
 | put p k =>
  obtain ⟨nd,h,hk,_⟩:=zey hf; obtain ⟨nd',h',hk',_⟩:=zey hf'; simp only [dnC,zu h,zu h']
  rw [zi3 w h hk (ok.put p k rfl).1,zi3 w' h' hk' (ok.put p k rfl).1,if_pos (show p ++ [k.lab] <+: q from hq),if_pos (show p ++ [k.lab] <+: q from hq)]
 | out p =>
  obtain ⟨h0,nd,ab,h,h2⟩:=zez hf; obtain ⟨h0',nd',ab',h',h2'⟩:=zez hf'; simp only [dnC,zu h2,zu h2']
  rw [zi4 w h0 h2,zi4 w' h0' h2',if_pos (show p <+: q from hq),if_pos (show p <+: q from hq)]
 | anew p =>
  obtain ⟨nd,h⟩:=zc6 hf; obtain ⟨nd',h'⟩:=zc6 hf'; simp only [dnC,zu h,zu h']
  obtain ⟨⟨r,e⟩,hne⟩:=hq
  have e:p ++ r=q:=e
  have hne:q≠p:=hne
  cases r with
  | nil=>rw [List.append_nil] at e; exact absurd e.symm hne
  | cons l r =>
   have ek:nd.kds=nd'.kds:=zho (w.at h).2 (w'.at h').2 fun l r=>by
    have:=hs (p ++ l :: r) ⟨⟨_,rfl⟩,fun z=>by have:=congrArg List.length z; simp [gl'] at this⟩
    rw [ze9,ze9,h,h'] at this; exact this
   rw [<- e,zjO h,zjO h',ek]
def Apart (c c':Cg):Prop:=M24.common (kd' c) (gl' c) (kd' c') (gl' c')=false
theorem ztn {c:Cg} {q:Pl}:M24.hasWords (kd' c) (gl' c) q=true↔Tc c q:=by
 unfold M24.hasWords Tc
 cases kd' c with
 | W=>simp [eq_comm]
 | F=>exact M24.above_iff
 | B =>
  simp only [Bool.and_eq_true,Bool.not_eq_true',decide_eq_false_iff_not,M24.above_iff]; constructor
  ·exact fun ⟨a,b⟩=>⟨b,fun z=>a z.symm⟩
  ·exact fun ⟨a,b⟩=>⟨fun z=>b z.symm,a⟩
theorem Apart.symm {c c':Cg} (h:Apart c c'):Apart c' c:=by
 unfold Apart M24.common at *
 cases e1:kd' c <;> cases e2:kd' c' <;> simp_all [M24.hasWords]
 all_goals first | exact fun z=>h z.symm | exact ⟨h.2,h.1⟩ | skip
theorem zgn {c:Cg} {q:Pl} (h:Tc c q):gl' c <+: q:=by
 unfold Tc at h
 cases e:kd' c <;> rw [e] at h
 ·rw [show q=gl' c from h]; exact List.prefix_refl _
 ·exact h
 ·exact h.1
theorem zcV {c c':Cg} (h:Apart c c') (h1:kd' c≠.W) (h2:kd' c'≠.W):¬ gl' c <+: gl' c'/\¬ gl' c' <+: gl' c:=by
 unfold Apart M24.common at h; rw [if_neg h1,if_neg h2,Bool.or_eq_false_iff] at h
 exact ⟨fun z=>(by rw [M24.above_iff.mpr z] at h; exact Bool.noConfusion h.1),fun z=>(by rw [M24.above_iff.mpr z] at h; exact Bool.noConfusion h.2)⟩
theorem zc7 {c c':Cg} (h:Apart c c') (h1:kd' c=.W):¬ Tc c' (gl' c):=fun z=>by
 unfold Apart M24.common at h; rw [if_pos h1] at h; rw [ztn.mpr z] at h; cases h
theorem zlL {c:Cg} {q:Pl} (h1:kd' c=.W) (h:Tc c q):q=gl' c:=by
 unfold Tc at h; rw [h1] at h; exact h
theorem zhC {c c':Cg} (h:Apart c c') {q:Pl} (h1:Tc c q) (h2:Tc c' q):False:=by
 by_cases z:kd' c=.W
 ·exact zc7 h z (zlL z h1 ▸ h2)
 ·by_cases z':kd' c'=.W
  ·exact zc7 h.symm z' (zlL z' h2 ▸ h1)
  ·obtain ⟨a,b⟩:=zcV h z z'
   rcases List.prefix_or_prefix_of_prefix (zgn h1) (zgn h2) with y | y
   ·exact a y
   ·exact b y
theorem znF (ws o:Pl):∀ b ∈ zbj ws o,b+o.length<=ws.length:=fun b hb=>by
 have:=(List.mem_filter.mp hb).1
 rw [List.mem_range] at this; omega
theorem zpU (ws o n:Pl):(swp ws o n).length<=ws.length+n.length:=by
 unfold swp; simp only [List.length_append,List.length_take,List.length_drop]; omega
theorem zfW {c:Nat} {t:Tr} {ch:Cg} (w:Wf c 9 t) (hc:1<=c) (hb:c<=10 ^ 6) (hf:rs t ch=none) (ok:Ok ch):Wf (c+2) 9 (dnC t ch):=by
 cases ch with
 | swap p o m =>
  obtain ⟨nd,h,_⟩:=zco hf; simp only [dnC,zu h]; obtain ⟨hp,wn⟩:=w.at h
  refine zev (w.up (by omega) (Nat.le_refl _)) h ?_
  obtain ⟨k,hk⟩:=wn.pos; rw [hk] at wn ⊢; have h1:=wn.few; have h2:=wn.wfew; have h3:=(ok.sw p o m rfl).2; have h4:=zpU nd.wds o m
  exact .mk' (fun k hk=>(wn.kid k hk).up (by omega) (Nat.le_refl _)) wn.plab wn.ris (by show nd.kds.length<=_; omega) (by show (swp nd.wds o m).length<=_; omega)
 | read p ws =>
  obtain ⟨nd,h⟩:=zcp hf; simp only [dnC,zu h]; obtain ⟨hp,wn⟩:=w.at h
  refine zev (w.up (by omega) (Nat.le_refl _)) h ?_
  obtain ⟨k,hk⟩:=wn.pos; rw [hk] at wn ⊢; have h1:=wn.few; have h3:=ok.rd p ws rfl
  exact .mk' (fun k hk=>(wn.kid k hk).up (by omega) (Nat.le_refl _)) wn.plab wn.ris (by show nd.kds.length<=_; omega) (by show ws.length<=_; omega)
 | put p k =>
  obtain ⟨nd,h,hk,hd⟩:=zey hf; simp only [dnC,zu h]; obtain ⟨hp,wn⟩:=w.at h
  refine zev (w.up (by omega) (Nat.le_refl _)) h ?_
  obtain ⟨o2,⟨x,_,o3⟩,_⟩:=ok.put p k rfl
  obtain ⟨m,hm⟩:=wn.pos; rw [hm] at wn ⊢; have hf:=wn.few; have hw:=wn.wfew
  have hpl:∀ x ∈ nd.kds ++ [k],zy x.lab=true:=fun x hx=>by
   rcases List.mem_append.mp hx with z | z
   ·exact wn.plab x z
   ·rw [List.mem_singleton.mp z]; exact o2
  refine zq0 (ze1 hpl) (fun x hx=>?_) hpl (by simp; omega) (by omega)
  rcases List.mem_append.mp hx with z | z
  ·exact (wn.kid x z).up (by omega) (Nat.le_refl _)
  ·rw [List.mem_singleton.mp z]
   exact (zpb (m:=m) o3 (by omega)).up (by omega) (Nat.le_refl _)
 | out p =>
  obtain ⟨h0,nd,ab,h,h'⟩:=zez hf; simp only [dnC,zu h']; obtain ⟨hp,wn⟩:=w.at h'
  refine zev (w.up (by omega) (Nat.le_refl _)) h' ?_
  obtain ⟨m,hm⟩:=wn.pos; rw [hm] at wn ⊢
  have sb:(ab.kds.filter fun k=>decide (k.lab≠zaT p)).Sublist ab.kds:=List.filter_sublist
  have hf:=wn.few; have hl:=sb.length_le; have hw:=wn.wfew
  exact .mk' (fun k hk=>(wn.kid k (sb.subset hk)).up (by omega) (Nat.le_refl _)) (fun k hk=>wn.plab k (sb.subset hk)) (List.Pairwise.sublist (sb.map _) wn.ris) (by show (ab.kds.filter _).length<=_; omega) (by show ab.wds.length<=_; omega)
 | anew p =>
  obtain ⟨nd,h⟩:=zc6 hf; simp only [dnC,zu h]; obtain ⟨hp,wn⟩:=w.at h
  refine zev (w.up (by omega) (Nat.le_refl _)) h ?_
  obtain ⟨m,hm⟩:=wn.pos; rw [hm] at wn ⊢; have h1:=wn.few; have hw:=wn.wfew
  obtain ⟨r1,r2⟩:=zhV 1 nd.kds (Nat.le_refl _) (by omega)
  refine .mk' (fun k hk=>?_) r2 r1 (by show (zbD 1 nd.kds).length<=_; rw [zfo]; omega) (by show nd.wds.length<=_; omega)
  obtain ⟨y,hy,e1,e2⟩:=zhW 1 nd.kds k hk; have wy:=wn.kid y hy; obtain ⟨m',hm'⟩:=wy.pos
  subst hm'
  exact .mk' (fun z hz=>((wy.kid z (e2 ▸ hz)).up (by omega) (Nat.le_refl _))) (by rw [e2]; exact wy.plab) (by rw [e2]; exact wy.ris) (by rw [e2]; have:=wy.few; omega) (by rw [e1]; have:=wy.wfew; omega)
theorem zjJ {c:Nat} {t:Tr} {ch:Cg} (w:Wf c 9 t) (hf:rs t ch=none) (ok:Ok ch):cnt (dnC t ch)<=cnt t+9:=by
 cases ch with
 | swap p o m =>
  obtain ⟨nd,h,_⟩:=zco hf; simp only [dnC,zu h]
  have:=zc5 (ws:=swp nd.wds o m) (ks:=nd.kds) w h
  omega
 | read p ws =>
  obtain ⟨nd,h⟩:=zcp hf; simp only [dnC,zu h]
  have:=zc5 (ws:=ws) (ks:=nd.kds) w h
  omega
 | put p k =>
  obtain ⟨nd,h,hk,hd⟩:=zey hf; simp only [dnC,zu h]; obtain ⟨o2,_,o4⟩:=ok.put p k rfl; have wn:=(w.at h).2
  have:=zqf (ws:=nd.wds) (k:=k) w h (ze1 fun x hx=>by
   rcases List.mem_append.mp hx with z | z
   ·exact wn.plab x z
   ·rw [List.mem_singleton.mp z]; exact o2)
  omega
 | out p =>
  obtain ⟨h0,nd,ab,h,h'⟩:=zez hf; simp only [dnC,zu h']
  have:=zqM (ws:=ab.wds) w h' (ks':=ab.kds.filter fun k=>decide (k.lab≠zaT p)) List.filter_sublist
  omega
 | anew p =>
  obtain ⟨nd,h⟩:=zc6 hf; simp only [dnC,zu h]
  have:=zc5 (ws:=nd.wds) (ks:=zbD 1 nd.kds) w h
  rw [zhY] at this; omega
theorem zpO {c n:Nat} {t:Tr} {ch:Cg} (w:Wf c n t) (hf:rs t ch=none) (hk:kd' ch=.W) (q:Pl):(wd (dnC t ch) q).isSome=(wd t q).isSome:=by
 cases ch with
 | swap p o m =>
  obtain ⟨nd,h,_⟩:=zco hf; simp only [dnC,zu h]; rw [zbE h]; split
  ·rename_i e
   rw [e]; unfold wd; rw [h]; rfl
  ·rfl
 | read p ws =>
  obtain ⟨nd,h⟩:=zcp hf; simp only [dnC,zu h]; rw [zbE h]; split
  ·rename_i e
   rw [e]; unfold wd; rw [h]; rfl
  ·rfl
 | put p k=>cases hk
 | out p=>cases hk
 | anew p=>cases hk
theorem ze2 {c n:Nat} {t:Tr} {ch:Cg} (w:Wf c n t) (hf:rs t ch=none) (ok:Ok ch) {q:Pl} (h:kd' ch≠.W->¬ Tc ch q):(wd (dnC t ch) q).isSome=(wd t q).isSome:=by
 by_cases z:kd' ch=.W
 ·exact zpO w hf z q
 ·rw [zbY w hf ok (h z)]
theorem zeS {c n:Nat} {t:Tr} {a b:Cg} (w:Wf c n t) (hf:rs t b=none) (ok:Ok b) (ap:Apart a b):rs (dnC t b) a=rs t a:=by
 cases a with
 | swap p o m =>
  have h:=zc7 ap rfl; simp only [rs]
  rw [zbY w hf ok (show ¬ Tc b p from h)]
 | read p ws =>
  have h:=zc7 ap rfl; simp only [rs]
  rw [zbY w hf ok (show ¬ Tc b p from h)]
 | put p k =>
  have h1:kd' b≠.W->¬ Tc b p:=fun z y=>by
   have f:=zcV ap (by simp [kd']) z
   exact f.2 ((zgn y).trans ⟨[k.lab],rfl⟩)
  have h2:kd' b≠.W->¬ Tc b (p ++ [k.lab]):=fun z y=>(zcV ap (by simp [kd']) z).2 (zgn y)
  simp only [rs]; rw [ze2 w hf ok h1,ze2 w hf ok h2]
 | out p =>
  have h1:kd' b≠.W->¬ Tc b p:=fun z y=>(zcV ap (by simp [kd']) z).2 (zgn y)
  simp only [rs]; rw [ze2 w hf ok h1]
 | anew p =>
  have h1:kd' b≠.W->¬ Tc b p:=fun z y=>(zcV ap (by simp [kd']) z).2 (zgn y)
  simp only [rs]; rw [ze2 w hf ok h1]
theorem zlO {c:Nat} {t:Tr} {a b:Cg} (w:Wf c 9 t) (hc:1<=c) (hb:c<=10 ^ 5) (ha:rs t a=none) (hb':rs t b=none) (oa:Ok a) (ob:Ok b) (ap:Apart a b):dnC (dnC t a) b=dnC (dnC t b) a:=by
 have wa:=zfW w hc (by omega) ha oa
 have wb:=zfW w hc (by omega) hb' ob
 have fa:rs (dnC t b) a=none:=by rw [zeS w hb' ob ap,ha]
 have fb:rs (dnC t a) b=none:=by rw [zeS w ha oa ap.symm,hb']
 refine zrL (zfW wa (by omega) (by omega) fb ob) (zfW wb (by omega) (by omega) fa oa) (by rw [zd7,zd7,zd7,zd7]) fun q=>?_
 by_cases ta:Tc a q
 ·have tb:¬ Tc b q:=fun z=>zhC ap ta z
  rw [zbY wa fb ob tb]
  exact (zpH wb w fa ha oa (fun q' h=>zbY w hb' ob fun z=>zhC ap h z) ta).symm
 ·rw [zbY wb fa oa ta]
  by_cases tb:Tc b q
  ·exact zpH wa w fb hb' ob (fun q' h=>zbY w ha oa fun z=>zhC ap z h) tb
  ·rw [zbY wa fb ob tb,zbY w ha oa ta,zbY w hb' ob tb]
end M25
namespace K25
open PySem L2 Lb PL MT M04 MS M70 M71 M72 M74 M76 M25 def rds:=And.intro zdN.eq_1 <| And.intro zbQ.eq_1 <| And.intro zda.eq_1 <| And.intro zdx.eq_1 <| And.intro zac.eq_1 <| And.intro zJ.eq_1 <| And.intro tC'.eq_1 <| And.intro zf6.eq_1 <| And.intro zcX.eq_1 <| And.intro tB'.eq_1 <| And.intro zgN.eq_1 <| And.intro zff.eq_1 <| And.intro zlN.eq_1 <| And.intro zdn.eq_1 <| And.intro zf2.eq_1 <| And.intro zdf.eq_1 <| And.intro zjV.eq_1 <| And.intro zbx.eq_1 <| And.intro zad.eq_1 <| And.intro zeJ.eq_1 <| And.intro zf5.eq_1 <| And.intro zjW.eq_1 <| And.intro znj.eq_1 <| And.intro zkP.eq_1 <| And.intro zeK.eq_1 <| And.intro zkR.eq_1 <| And.intro zf7.eq_1 <| And.intro zfQ.eq_1 <| And.intro zdr.eq_1 <| And.intro zdq.eq_1 <| And.intro zcq.eq_1 <| And.intro zbe.eq_1 <| And.intro zi1.eq_1 <| And.intro zbn.eq_1 <| And.intro zdg.eq_1 <| And.intro zdi.eq_1 <| And.intro zfb.eq_1 <| And.intro zcx.eq_1 <| And.intro zfe.eq_1 <| And.intro zcz.eq_1 <| And.intro zdm.eq_1 <| And.intro zdd.eq_1 <| And.intro zdk.eq_1 <| And.intro zfc.eq_1 <| And.intro zcQ.eq_1 <| And.intro zlK.eq_1 <| And.intro zds.eq_1 <| And.intro zcy.eq_1 <| And.intro zf3.eq_1 <| And.intro zdj.eq_1 <| And.intro zc9.eq_1 <| And.intro zeO.eq_1 <| And.intro zb2.eq_1 <| And.intro zeP.eq_1 <| And.intro zf4.eq_1 <| And.intro zdh.eq_1 <| And.intro zdP.eq_1 <| And.intro zgO.eq_1 <| And.intro zb5.eq_1 <| And.intro zde.eq_1 <| And.intro zbP.eq_1 <| And.intro zfd.eq_1 <| And.intro zkQ.eq_1 <| And.intro zaG.eq_1 <| And.intro zcv.eq_1 <| And.intro zcw.eq_1 <| And.intro zbo.eq_1 <| And.intro zfa.eq_1 <| And.intro zdl.eq_1 <| And.intro zgk.eq_1 <| And.intro zcB.eq_1 <| And.intro zf1.eq_1 <| And.intro zcA.eq_1 <| And.intro zf6.eq_1 <| znl.eq_1 theorem sc0 {N P:List Str} {sc:Scope} (a:sc.kind=.function:=by rfl) (b:sc.isCoroutine=false:=by rfl) (c:sc.isGenerator=false:=by rfl) (d:N.Nodup:=by decide +kernel) (e:N.take P.length=P:=by rfl) (f:∀ x ∈ P,sc.names.lookup x=some .local\/sc.names.lookup x=some .cell:=by decide +kernel) (g:∀ y ∈ sc.names,y.2≠.free:=by decide +kernel):FnScope N P sc:=⟨a,b,c,d,e,f,g⟩
def top (i:Nat):Stmt:=PySem.Challenge.pw_codemend_k25_whole_apart_ones.main.body.getD i (.Pass ⟨0,0,0,0⟩)
abbrev zbV:Stmt:=top 6
abbrev zcM:Stmt:=top 7
abbrev zcN:Stmt:=top 8
abbrev zlZ:Stmt:=top 11
abbrev zcf:Stmt:=top 12
abbrev zfm:Stmt:=top 13
abbrev zep:Stmt:=top 14
abbrev zcJ:Stmt:=top 15
abbrev zc1:Stmt:=top 16
abbrev zdU:Stmt:=top 17
abbrev za0:Stmt:=top 18
abbrev zcd:Stmt:=top 19
abbrev zbS:Stmt:=top 27
abbrev zbT:Stmt:=top 28
abbrev zdE:Stmt:=top 29
abbrev zgV:Stmt:=top 30
abbrev zdF:Stmt:=top 35
abbrev zfl:Stmt:=top 36
abbrev zcg:Stmt:=top 37
abbrev zbW:Stmt:=top 38
abbrev zbk:Stmt:=top 39
abbrev zdD:Stmt:=top 41
abbrev zel:Stmt:=top 42
abbrev zce:Stmt:=top 43
abbrev zfn:Stmt:=top 44
abbrev zdC:Stmt:=top 45
abbrev zaz:Stmt:=top 46
abbrev zdA:Stmt:=top 47
abbrev zcL:Stmt:=top 48
abbrev zen:Stmt:=top 49
abbrev zdB:Stmt:=top 50
abbrev zcK:Stmt:=top 51
abbrev zeo:Stmt:=top 52
abbrev zbU:Stmt:=top 53
abbrev zem:Stmt:=top 54
abbrev zgb:Stmt:=top 55
abbrev za1:Stmt:=zaJ (top 22) 0
abbrev zaA:Stmt:=zaJ (top 22) 1
abbrev za2:Stmt:=zaJ (top 22) 2
abbrev za3:Stmt:=zaJ (top 23) 0
abbrev zaB:Stmt:=zaJ (top 23) 1
abbrev za4:Stmt:=zaJ (top 23) 2
abbrev zaL:Stmt:=zaJ (top 24) 0
abbrev zap:Stmt:=zaJ (top 24) 1
abbrev zaM:Stmt:=zaJ (top 24) 2
abbrev zaf:Stmt:=zaJ (top 25) 0
abbrev zT:Stmt:=zaJ (top 25) 1
abbrev zag:Stmt:=zaJ (top 25) 2
abbrev za5:Stmt:=zaJ (top 26) 0
abbrev zaC:Stmt:=zaJ (top 26) 1
abbrev zaI:Stmt:=zaJ (top 26) 2
def keyD (l:List Nat):D:=.tup [.int (zbv l).1,.str (zbv l).2]
def zbr:Sp':=fun ds Q=>∃ l,ds=[.str l]/\l.length<=1000/\Q (.val (.str (cut l)))
def zb9:Sp':=fun ds Q=>∃ l,ds=[.str l]/\zy l=true/\Q (.val (keyD l))
def zal:Sp':=fun ds Q=>∃ t l,ds=[trD t,.str l]/\Q (.val (zf0 (zi l t.kds)))
def za7:Sp':=fun ds Q=>∃ (ts:List Tr) (d:D),ds=[d]/\(d=.tup (ts.map trD)\/d=.lst (ts.map trD))/\(ts.flatMap Tr.kds).length<=4000/\Q (.own (.lst ((ts.flatMap Tr.kds).map trD)))
instance:MSp za7:=⟨fun _ _ _ h ⟨t,d,e,z,l,q⟩=>⟨t,d,e,z,l,h _ q⟩⟩
theorem zr7 {n:Nat} (h:n<=5000):n<=sizeLine:=Nat.le_trans h (by decide)
theorem small {n:Nat} (h:n<=1000):n<=sizeLine:=Nat.le_of_lt (zbz h)
theorem zeH {α:Type} (xs:List α) {i:Int} (h0:0<=i) (h1:i<xs.length):∃ d,atI xs i=some d/\d ∈ xs:=by
 obtain ⟨n,rfl⟩:=Int.eq_ofNat_of_zero_le h0
 have hn:n<xs.length:=by omega
 exact ⟨xs[n],zcU (List.getElem?_eq_getElem hn),List.getElem_mem hn⟩
@[simp] theorem sz1:1<=sizeLine:=small (by decide)
@[simp] theorem sz2:2<=sizeLine:=small (by decide)
@[simp] theorem sz3:3<=sizeLine:=small (by decide)
@[simp] theorem sz4:4<=sizeLine:=small (by decide)
theorem zio {n:Int} (h0:0<=n) (h1:n<10 ^ 10):n.natAbs.log2<1920:=by
  refine Nat.lt_of_lt_of_le ?_ (by decide:40<=1920)
  by_cases hz:n.natAbs=0
  · rw [hz]; decide
  · exact (Nat.log2_lt hz).mpr (by have : n.natAbs < 10 ^ 10 := by omega
                                   have:10 ^ 10<2 ^ 40:=by decide
                                   omega)
theorem md {i:Int} {n:Nat} (h:0<n):0<=i % (n:Int)/\i % (n:Int)<n:=⟨Int.emod_nonneg _ (by omega),Int.emod_lt_of_pos _ (by omega)⟩
theorem zkZ (l y:List Nat):(Txt.rstripChars (st l) (st y)).cps.toList=(l.reverse.dropWhile fun c=>decide (c ∈ y)).reverse:=by
 have hc:(st y).cps.contains=fun c=>decide (c ∈ y):=by
  funext c
  simp [st]
 have hh:PySem.stripHi (st y).cps.contains true (st l) (PySem.stripLo (st y).cps.contains false (st l))=l.length-(l.reverse.takeWhile fun c=>decide (c ∈ y)).length:=by
  unfold PySem.stripHi PySem.stripLo
  rw [if_pos rfl,if_neg (by decide),zV,List.drop_zero,hc,zbF]
 have ht:l.take (l.length-(l.reverse.takeWhile fun c=>decide (c ∈ y)).length)=(l.reverse.dropWhile fun c=>decide (c ∈ y)).reverse:=by
  have e:l=(l.reverse.dropWhile fun c=>decide (c ∈ y)).reverse ++ (l.reverse.takeWhile fun c=>decide (c ∈ y)).reverse:=by
   rw [<- List.reverse_append,List.takeWhile_append_dropWhile,List.reverse_reverse]
  have el:=congrArg List.length e; rw [List.length_append,List.length_reverse (as:=List.takeWhile _ _)] at el
  have z:l.take (l.length-(l.reverse.takeWhile fun c=>decide (c ∈ y)).length)=((l.reverse.dropWhile fun c=>decide (c ∈ y)).reverse ++ (l.reverse.takeWhile fun c=>decide (c ∈ y)).reverse).take (l.length-(l.reverse.takeWhile fun c=>decide (c ∈ y)).length):=congrArg (List.take _) e
  rw [z,List.take_left' (by omega)]
 unfold Txt.rstripChars Txt.stripBy; split
 ·rename_i hs
  unfold PySem.stripSame at hs; rw [hh,zbF] at hs; simp only [Bool.and_eq_true,beq_iff_eq] at hs
  rw [zV,<- ht,List.take_of_length_le (by omega)]
 ·unfold PySem.stripped
  rw [hh,PyProof.Rows.strSub_mk]; unfold PySem.stripLo
  rw [if_neg (by decide),zV,List.drop_zero,Nat.sub_zero,ht]
theorem ziw {l:List Nat} (h:zy l=true):∃ m n,m=(cut l).length/\1<=m/\m<=9/\m<=l.length/\l.length<=12/\l.take m=cut l/\l.drop m=zdw l/\(∀ c,c ∈ cut l->dig c=true)/\(∀ c,c ∈ zdw l->dig c=false)/\PySem.intText? (st (cut l))=some n/\zbv l=(n,zdw l):=by
 have h':=h; unfold zy at h; simp only [Bool.and_eq_true,decide_eq_true_eq,List.all_eq_true] at h
 obtain ⟨⟨⟨⟨a1,a2⟩,b⟩,c⟩,d⟩:=h
 have e:=zfX l; have el:=congrArg List.length e; rw [List.length_append] at el
 have t:l.take (cut l).length=cut l:=by
  have z:(cut l ++ zdw l).take (cut l).length=cut l:=List.take_left' rfl
  rw [e] at z; exact z
 have t2:l.drop (cut l).length=zdw l:=by
  have z:(cut l ++ zdw l).drop (cut l).length=zdw l:=List.drop_left' rfl
  rw [e] at z; exact z
 have r:∃ n,PySem.intText? (st (cut l))=some n:=by
  have q:=PySem.intText_digits (x:=st (cut l)) (by rw [zV]; exact fun x hx=>(ze0 x).mp (by simpa [dig] using c x hx)) (by rw [zV]; exact fun z=>by rw [z] at a1; simp at a1) (by rw [zbF]; omega)
  exact ⟨_,q⟩
 obtain ⟨n,r⟩:=r
 refine ⟨_,n,rfl,a1,a2,by omega,by omega,t,t2,c,fun x hx=>?_,r,by unfold zbv; rw [r]; rfl⟩
 have:=znC l x hx
 cases z:dig x with
 | false=>rfl
 | true=>rw [zdK z] at this; cases this
section
variable {P:Program} {w:World} {K:W.Frag} {mg:Str->Option Value} {base:Heap}
theorem zgT:FnScope ["label"] ["label"] (zf zcN):=sc0
theorem zhd (d:Df K mg "figures_of" zcN ["label"]) {t_SMALL_LETTERS:Tok} (g_SMALL_LETTERS:mg "SMALL_LETTERS"=some (.str (st zs9) t_SMALL_LETTERS)):Fn P w K mg base 1 "figures_of" ["label"] zbr:=by
 refine d.ok zgT (fun ds Q h=>?_) (fun f cdv A outer s H E hr ds Q h=>⟨_,(ze (zh (zsO zox PySem.F.plainAttrs_str PySem.F.slot_str_rstrip PySem.F.type_str_rstrip (pv' 0) (za (zd1 g_SMALL_LETTERS) zb)))),?_⟩)
 ·obtain ⟨l,rfl,_⟩:=h
  rfl
 obtain ⟨l,rfl,hl,q⟩:=h; simp [rds]; refine ⟨small hl,?_⟩; rw [zkZ]; exact q
theorem zdS:FnScope ["label","figures"] ["label"] (zf zcM):=sc0
theorem zhc (d:Df K mg "label_rank" zcM ["label"]) (G_figures_of:Fn P w K mg base 1 "figures_of" ["label"] zbr) (z_int:mg "int"=none) (z_len:mg "len"=none):Fn P w K mg base 2 "label_rank" ["label"] zb9:=by
 refine d.ok zdS (fun ds Q h=>?_) (fun f cdv A outer s H E hr ds Q h=>⟨_,(zc (zm 1 zdS.nd (zx G_figures_of (hr.mono (by decide)) (za (pv' 0) zb)))
  (ze (zh (zw (za (zaq zpL z_int PyProof.Rows.boot_int (za (pv' 1) zb)) (za (zbg s_A (pv' 0) (zb0 (zt zaF z_len PySem.boot_len (za (pv' 1) zb))) zd2) zb)))))),?_⟩)
 ·obtain ⟨l,rfl,_⟩:=h
  rfl
 obtain ⟨l,rfl,hl,hq⟩:=h; obtain ⟨m,n,hm,m1,m9,ml,l12,tk,dr,cd,tf,rd,kf⟩:=ziw hl; simp [rds,zbr]
 refine ⟨by omega,.inl ⟨cut l,n,rfl,rd,by omega,small (by omega),small (by omega),?_⟩⟩
 rw [<- hm,dr]; unfold keyD at hq; rw [kf] at hq; exact hq
theorem zfi:FnScope ["node","label","kid"] ["node","label"] (zf zep):=sc0
theorem zju (d:Df K mg "kid_with" zep ["node","label"]):Fn P w K mg base 1 "kid_with" ["node","label"] zal:=by
 refine d.ok zfi (fun ds Q h=>?_) (fun f cdv A outer s H E hr ds Q h=>⟨_,(zc (zch (zcj (zl (i_A (zr hr)) (pv' 0) zd)) (zY 2 zfi.nd)
   (ze (zB (zo (zbh (zaE hr)) (zl (i_A (zr hr)) (pv' 2) zd) (pv' 1)) (ze (zh (pv' 2))) zn)))
  (ze (zh zaa))),?_⟩)
 ·obtain ⟨t,l,rfl,_⟩:=h
  rfl
 obtain ⟨t,l,rfl,q⟩:=h; rw [zaj]; simp [rds]
 have key:∀ (ks:List Tr) (A s2:Slot),Q (.val (zf0 (zi l ks)))->zi2 (zac 2) (zda (tB' (zcX znm (zcX zeU (zJ 2) (tC' (D.int 0))) (zJ 1))) (zbQ (zJ 2)) zbn)
   { nx:=zbQ (tC' D.non) { nx:=fun x=>Q (Res.val D.non),rt:=fun r x=>Q r },rt:=fun r x=>Q r } (ks.map trD) [A,.val (.str l),s2]:=by
  intro ks
  induction ks with
  | nil=>intro A s2 q; simpa [zi2,zbQ,tC',zi,zf0] using q
  | cons k ks ih =>
   intro A s2 q; have ih':=ih A (.val (trD k)); rw [zaj] at ih'; simp only [List.map_cons,zi2]; rw [zaj k]
   by_cases e:k.lab=l
   ·have:zi l (k :: ks)=some k:=by simp [zi,e]
    rw [this] at q
    have q':Q (.val (trD k)):=q
    rw [zaj k] at q'
    simpa [zac,zda,tB',zcX,zJ,tC',zbQ,zbn,e] using q'
   ·have:zi l (k :: ks)=zi l ks:=by simp [zi,e]
    rw [this] at q
    simpa [zac,zda,tB',zcX,zJ,tC',zbQ,zbn,e] using ih' q
 exact key _ _ _ q
theorem zbR:FnScope ["nodes","kids","node"] ["nodes"] (zf zcf):=sc0
theorem zgd (d:Df K mg "kids_of_all" zcf ["nodes"]):Fn P w K mg base 1 "kids_of_all" ["nodes"] za7:=by
 refine d.ok zbR (fun ds Q h=>?_) (fun f cdv A outer s H E hr ds Q h=>⟨_,(zc (zeY 1 zbR.nd (zdY zb))
  (zc (zch (zcj (pv' 0)) (zY 2 zbR.nd)
   (ze (zk3 1 (zl (i_A (zr hr)) (pv' 2) zd))))
  (ze (zj9 1)))),?_⟩)
 ·obtain ⟨ts,d,rfl,_⟩:=h
  rfl
 obtain ⟨ts,dd,rfl,hdd,hl,hq⟩:=h
 have hs:zp2 dd=some (ts.map trD):=by rcases hdd with rfl | rfl <;> rfl
 simp [rds]; refine ⟨_,hs,?_⟩
 refine zfS (fun i Γ=>∃ s2,Γ=[.val dd,.own (.lst (((ts.take i).flatMap Tr.kds).map trD)),s2]) ⟨.emp,rfl⟩ ?_ ?_
 ·rintro i d Γ hd ⟨s2,rfl⟩
  rw [List.getElem?_map] at hd
  cases hc:ts[i]? with
  | none=>rw [hc] at hd; cases hd
  | some t =>
   rw [hc] at hd; cases hd
   have e1:(ts.take (i+1)).flatMap Tr.kds=(ts.take i).flatMap Tr.kds ++ t.kds:=by
    rw [List.take_succ,hc,List.flatMap_append]; simp
   have e2:ts.flatMap Tr.kds=(ts.take (i+1)).flatMap Tr.kds ++ (ts.drop (i+1)).flatMap Tr.kds:=by
    rw [<- List.flatMap_append,List.take_append_drop]
   rw [e2,List.length_append,e1,List.length_append] at hl; rw [zaj t]; simp [rds,zaG,e1]; refine zr7 ?_; simp only [List.length_flatMap,List.map_take] at hl; omega
 ·rintro Γ ⟨s2,rfl⟩
  rw [show List.take (List.map trD ts).length ts=ts from List.take_of_length_le (by rw [List.length_map]; exact Nat.le_refl _)]
  simp [rds]; exact hq
end
end K25
namespace K25
open PySem L2 Lb PL MT M04 MS M70 M71 M72 M74 M76 M25
@[simp] theorem ix0 (k:Tr) (Q:D->Prop):zeU (trD k) (.int 0) Q↔Q (.str k.lab):=by
 rw [zaj]; simp
@[simp] theorem ix1 (k:Tr) (Q:D->Prop):zeU (trD k) (.int 1) Q↔Q (plc k.wds):=by
 rw [zaj]; simp
@[simp] theorem ix2 (k:Tr) (Q:D->Prop):zeU (trD k) (.int 2) Q↔Q (.tup (k.kds.map trD)):=by
 rw [zaj]; simp
theorem zo4 {α:Type} (xs:List α) {i m:Nat} (h:i<=xs.length):zdt xs (some (i:Int)) (some ((i:Int)+(m:Int)))=(xs.drop i).take m:=by
 unfold zdt
 rw [show (i:Int)+(m:Int)=((i+m:Nat):Int) by omega,HT.sIx_nat,HT.sIx_nat,Nat.min_eq_left h,List.take_eq_take_iff,List.length_drop]
 omega
theorem zo8 {q:Pl} (h:q≠[]):atI (q.map D.str) (-1)=some (.str (zaO q)):=by
 have e:=List.dropLast_concat_getLast h
 have e2:zaO q=q.getLast h:=by unfold zaO; rw [List.getLast?_eq_some_getLast h]; rfl
 rw [e2]
 conv=>lhs; rw [<- e,List.map_append,List.map_singleton]
 exact zkJ _ _
theorem zrv {ks : List Tr} {p : Pl} {R : List D -> Prop} (hp : p ≠ []) (h : R ((ks.filter fun k => decide (k.lab ≠ zaO p)).map trD)) : zcW (zac 0)
                            (tB'
                              (zcX zph (zcX zeU (zJ 0) (tC' (D.int 0)))
                                (zcX zeU (zJ 1) (tC' (D.int (-1))))))
                            (zJ 0) R (ks.map trD) [] [Slot.emp,Slot.val (plc p)]:=by
  refine zdL (fun i a Γ=>∃ s0,a=((ks.take i).filter fun k=>decide (k.lab≠zaO p)).map trD/\Γ=[s0,.val (plc p)]) ⟨.emp,rfl,rfl⟩ ?_ ?_
  · rintro i d a Γ hd ⟨s0,rfl,rfl⟩
    rw [List.getElem?_map] at hd
    cases hc:ks[i]? with
    | none=>rw [hc] at hd; cases hd
    | some k =>
      rw [hc] at hd; cases hd; simp [rds]; refine ⟨_,zo8 hp,?_⟩; rw [List.take_succ,hc,List.filter_append]
      by_cases e:k.lab=zaO p
      · simp [e]
      · simp [e]
  · rintro a Γ ⟨s0,rfl,rfl⟩
    rw [show List.take (List.map trD ks).length ks=ks from List.take_of_length_le (by rw [List.length_map]; exact Nat.le_refl _)]
    exact h
def zH:Sp':=fun ds Q=>∃ t p,ds=[trD t,plc p]/\Q (.val (zf0 (zp t p)))
def zas:Sp':=fun ds Q=>∃ t p n,ds=[trD t,plc p,trD n]/\p.length<=20/\(zp t p).isSome=true/\(∀ i,i<=p.length->∀ k,zp t (p.take i)=some k->k.kds.length<=1000)/\Q (.val (trD (za6 t p n)))
def zav:Sp':=fun ds Q=>∃ l m,ds=[.str l,.str m]/\zy l=true/\zy m=true/\∀ b:Bool,(b=true↔klt (zbv l) (zbv m))->Q (.val (.bl b))
def zab:Sp':=fun ds Q=>∃ t p nd,ds=[trD t,plc p]/\zp t p=some nd/\Q (.val (trD nd))
def zbp:Sp':=fun ds Q=>∃ t p ws nd c n,ds=[trD t,plc p,plc ws]/\Wf c n t/\c<=200/\p.length<=10/\zp t p=some nd/\Q (.val (trD (made t p ws nd.kds)))
def zdy:Sp':=fun ds Q=>∃ t p k nd c n,ds=[trD t,plc p,trD k]/\Wf c n t/\c<=200/\p.length<=10/\zp t p=some nd/\zi k.lab nd.kds=none/\zy k.lab=true/\Q (.val (trD (made t p nd.wds (zgj (nd.kds ++ [k])))))
def zeh:Sp':=fun ds Q=>∃ t p nd ab c n,ds=[trD t,plc p]/\Wf c n t/\c<=200/\p.length<=10/\p≠[]/\zp t p=some nd/\zp t p.dropLast=some ab/\Q (.val (trD (made t p.dropLast ab.wds (ab.kds.filter fun k=>decide (k.lab≠zaT p)))))
def zat:Sp':=fun ds Q=>∃ t p,ds=[trD t,plc p]/\Q (.val (if (zp t p).isSome=true then .non else .str zdO))
def zi8:Sp':=fun ds Q=>∃ t c n,ds=[trD t]/\Wf c n t/\M71.cnt t<=4000/\n<=20/\Q (.val (.int (dpt t)))
def zcD:Sp':=fun ds Q=>∃ t p k c d m n,ds=[trD t,plc p,trD k]/\Wf c n t/\n<=9/\Wf d m k/\m<=20/\M71.cnt t<=4000/\M71.cnt k<=4000/\∀ j:Int,j=max (dpt t:Int) ((p.length:Int)+1+dpt k)->Q (.val (.int j))
def zeR:Sp':=fun ds Q=>∃ ws o:Pl,ds=[plc ws,plc o]/\ws.length<=900/\o.length<=90/\Q (.val (.lst ((zbj ws o).map fun b:Nat=>.int b)))
instance:MSp zH:=⟨fun _ _ _ h ⟨t,p,e,q⟩=>⟨t,p,e,h _ q⟩⟩
instance:MSp zav:=⟨fun _ _ _ h ⟨l,m,e,a,b,q⟩=>⟨l,m,e,a,b,fun x z=>h _ (q x z)⟩⟩
theorem zkr {c n:Nat} {t:Tr} {p:Pl} (hw:Wf c n t) (hc:c<=200):∀ i,i<=p.length->∀ k,zp t (p.take i)=some k->k.kds.length<=1000:=fun i _ k e=>by
 have:=(hw.at e).2.few
 omega
theorem zrw {ks:List Tr} {k:Tr} {R:List D->Prop} (hp:zy k.lab=true) (hks:∀ x ∈ ks,zy x.lab=true) (h:R ((ks.filter (bf k.lab)).map trD)):zcW (zac 0) (tB' (zbe zav (zad (zcX zeU (zJ 0) (tC' (D.int 0))) (zad (zcX zeU (zJ 1) (tC' (D.int 0))) zbx)))) (zJ 0) R (ks.map trD) [] [Slot.emp,Slot.val (trD k)]:=by
 refine zdL (fun i a Γ=>∃ s0,a=((ks.take i).filter (bf k.lab)).map trD/\Γ=[s0,.val (trD k)]) ⟨.emp,rfl,rfl⟩ ?_ ?_
 ·rintro i d a Γ hd ⟨s0,rfl,rfl⟩
  rw [List.getElem?_map] at hd
  cases hc:ks[i]? with
  | none=>rw [hc] at hd; cases hd
  | some x =>
   rw [hc] at hd; cases hd; simp [rds]
   refine ⟨x.lab,k.lab,rfl,hks x (List.mem_of_getElem? hc),hp,fun b hb=>?_⟩
   have eb:bf k.lab x=b:=by
    cases b with
    | true=>exact zgG.mpr (hb.mp rfl)
    | false=>exact Bool.eq_false_iff.mpr fun z=>Bool.noConfusion (hb.mpr (zgG.mp z))
   rw [List.take_succ,hc,List.filter_append]
   cases b <;> simp [eb,Res.toD]
 ·rintro a Γ ⟨s0,rfl,rfl⟩
  rw [show List.take (List.map trD ks).length ks=ks from List.take_of_length_le (by rw [List.length_map]; exact Nat.le_refl _)]
  exact h
theorem zj1 (L:Nat):(Builtin.Range.rangeSize ((L:Int)-1) (-1) (-1)).toNat=L:=by
 unfold Builtin.Range.rangeSize; split
 ·omega
 ·split
  ·rw [show (- -1:Int)=1 from rfl,Int.ediv_one]
   omega
  ·omega
theorem ziM (m:Tr) (Q:List D->Prop):∀ (ks:List Tr) (acc:List D) (s0:Slot),Q (acc ++ ks.map fun k=>trD (if k.lab=m.lab then m else k)) ->
  zcW (zac 0) zi1 (zjV (tB' (zcX znm (zcX zeU (zJ 0) (tC' (D.int 0))) (zcX zeU (zJ 1) (tC' (D.int 0))))) (zJ 1) (zJ 0)) Q (ks.map trD) acc [s0,.val (trD m)]
 | [],acc,s0,h=>by simpa [zcW] using h
 | k :: ks,acc,s0,h=>by
  have ih:=ziM m Q ks (acc ++ [trD (if k.lab=m.lab then m else k)]) (.val (trD k)) (by simpa using h)
  rw [zaj k] at ih; simp only [List.map_cons,zcW]; rw [zaj m] at ih ⊢; rw [zaj k]
  by_cases e:k.lab=m.lab
  ·rw [if_pos e,zaj m] at ih
   simpa [vo,voS,zac,zi1,zjV,tB',zcX,zJ,tC',e] using ih
  ·rw [if_neg e,zaj k] at ih
   simpa [vo,voS,zac,zi1,zjV,tB',zcX,zJ,tC',e] using ih
section
variable {P:Program} {w:World} {K:W.Frag} {mg:Str->Option Value} {base:Heap}
theorem zc0:FnScope ["tree","place","node","label"] ["tree","place"] (zf zfm):=sc0
theorem zla (d:Df K mg "node_at" zfm ["tree","place"]) (G_kid_with:Fn P w K mg base 1 "kid_with" ["node","label"] zal):Fn P w K mg base 2 "node_at" ["tree","place"] zH:=by
 refine d.ok zc0 (fun ds Q h=>?_) (fun f cdv A outer s H E hr ds Q h=>⟨_,(zc (zm 2 zc0.nd (pv' 0))
  (zc (zch (zcj (pv' 1)) (zY 3 zc0.nd)
   (zc (zm 2 zc0.nd (zx G_kid_with (hr.mono (by decide)) (za (pv' 2) (za (pv' 3) zb))))
  (ze (zB (zo zfA (pv' 2) zaa) (ze (zh zaa)) zn))))
  (ze (zh (pv' 2))))),?_⟩)
 ·obtain ⟨t,l,rfl,_⟩:=h
  rfl
 obtain ⟨t,p,rfl,q⟩:=h; simp [rds,zal]
 have key:∀ (p:Pl) (t:Tr) (A B s3:Slot),Q (.val (zf0 (zp t p)))->zi2 (zac 3) (zdN (zdx (zbe zal (zad (zJ 2) (zad (zJ 3) zbx))) (zac 2)) (zda (tB' (zcX (zeE false) (zJ 2) (tC' D.non))) (zbQ (tC' D.non)) zbn))
   { nx:=zbQ (zJ 2) { nx:=fun x=>Q (Res.val D.non),rt:=fun r x=>Q r },rt:=fun r x=>Q r } (p.map D.str) [A,B,.val (trD t),s3]:=by
  intro p
  induction p with
  | nil=>intro t A B s3 q; simpa [zi2,zbQ,zJ,zp,zf0] using q
  | cons l p ih =>
   intro t A B s3 q; simp only [List.map_cons,zi2]; simp [zac,zdN,zdx,zbe,zad,zbx,zJ,tC',zda,tB',zcX,zbQ,zbn,zal,Res.toD,zeE]; refine ⟨t,l,⟨rfl,rfl⟩,?_⟩
   cases hk:zi l t.kds with
   | none =>
    have:zp t (l :: p)=none:=by simp [zp,hk]
    rw [this] at q
    simpa [zf0] using q
   | some k =>
    have:zp t (l :: p)=zp k p:=by simp [zp,hk]
    rw [this] at q
    simpa [zf0,zaX] using ih k A B _ q
 exact key _ _ _ _ _ q
theorem zaK:FnScope ["tree","place","node","made","length","above","kids"] ["tree","place","node"] (zf zcd):=sc0
theorem zib (d:Df K mg "with_node" zcd ["tree","place","node"]) (G_node_at:Fn P w K mg base 2 "node_at" ["tree","place"] zH) (z_len:mg "len"=none) (z_range:mg "range"=none) (z_tuple:mg "tuple"=none):Fn P w K mg base 3 "with_node" ["tree","place","node"] zas:=by
 refine d.ok zaK (fun ds Q h=>?_) (fun f cdv A outer s H E hr ds Q h=>⟨_,(zc (zm 3 zaK.nd (pv' 2))
  (zc (zch (zgx z_range (za (zk zqV (zt zaF z_len PySem.boot_len (za (pv' 1) zb)) zd) (za zck (za zck zb)))) (zY 4 zaK.nd)
   (zc (zm 5 zaK.nd (zx G_node_at (hr.mono (by decide)) (za (pv' 0) (za (zbg s_A (pv' 1) zd2 (zb0 (pv' 4))) zb))))
  (zc (zm 6 zaK.nd (zaq zeB z_tuple PyProof.Rows.boot_tuple (za (zbB (zet (fsc:=zf zcd) (N:=["tree","place","node","made","length","above","kids"]) (N':=["kid","made"]) (src:=[none,some 3]) (by refine ⟨rfl,?_,?_,?_,rfl,rfl⟩ <;> decide +kernel) (zcj (zl (i_A (zr hr)) (pv' 5) zd)) (fun _ _ _ _ _ _=>(zY 0 (show (["kid","made"]:List Str).Nodup by decide +kernel))) (fun _ _ _ _ _ _=>zeX) (fun _ _ _ _ _ _=>(zpm (zo (zbh (zaE hr)) (zl (i_A (zr hr)) (pv' 0) zd) (zl (i_A (zr hr)) (pv' 1) zd)) (pv' 1) (pv' 0))))) zb)))
  (ze (zm 3 zaK.nd (zw (za (zl (i_A (zr hr)) (pv' 5) zd) (za (zl (i_A (zr hr)) (pv' 5) zd) (za (pv' 6) zb)))))))))
  (ze (zh (pv' 3))))),?_⟩)
 ·obtain ⟨t,p,n,rfl,_⟩:=h
  rfl
 obtain ⟨t,p,n,rfl,hl,hs,hk,q⟩:=h; simp [rds,zH]
 refine ⟨by omega,?_⟩
 refine zfS (fun i Γ=>∃ (k:Tr) (s4 s5 s6:Slot),i<=p.length/\zp t (p.take (p.length-i))=some k/\Γ=[.val (trD t),.val (plc p),.val (trD n),.val (trD (za6 k (p.drop (p.length-i)) n)),s4,s5,s6]) ?_ ?_ ?_
 ·obtain ⟨k,e⟩:=Option.isSome_iff_exists.mp hs
  refine ⟨k,.emp,.emp,.emp,Nat.zero_le _,?_,?_⟩
  ·simpa using e
  ·simp [za6]
 ·rintro i d Γ hd ⟨k,s4,s5,s6,hi,hn,rfl⟩
  unfold zse at hd; rw [List.getElem?_map] at hd; obtain ⟨c,hc,rfl⟩:=Option.map_eq_some_iff.mp hd; have hc1:=(List.getElem?_eq_some_iff.mp hc).1; rw [List.length_range] at hc1; rw [List.getElem?_range hc1] at hc; cases hc
  have hsz:i<p.length:=by
   rw [zj1] at hc1; exact hc1
  obtain ⟨j,hj⟩:∃ j,p.length=i+(j+1):=⟨p.length-i-1,by omega⟩
  have e1:p.length-i=j+1:=by omega
  have e2:p.length-(i+1)=j:=by omega
  have e3:((p.length:Int)-1+(i:Int) * -1)=(j:Int):=by omega
  rw [e1] at hn; obtain ⟨a,ha⟩:=Option.isSome_iff_exists.mp (zjw hs j)
  have hjl:j<p.length:=by omega
  have et:p.take (j+1)=p.take j ++ [p[j]]:=by rw [List.take_succ,List.getElem?_eq_getElem hjl]; rfl
  have ed:p.drop j=p[j] :: p.drop (j+1):=List.drop_eq_getElem_cons hjl
  rw [et,zdI,ha] at hn
  have hk2:=hk j (by omega) a ha
  simp only [e1,e3]; simp [zac,zdN,zdx,zbe,zad,zbx,zJ,tC',zkP,zeK,zkR,zH,Res.toD,zjK]; refine ⟨t,p.take j,⟨rfl,rfl⟩,?_⟩; rw [ha]
  have hwr:za6 a (p.drop j) n=zrJ a (za6 k (p.drop (j+1)) n):=by
   rw [ed]; simp only [za6]
   rw [show zi p[j] a.kds=some k from hn]
  generalize hm:za6 k (p.drop (j+1)) n=m at hwr; simp only [zf0]; rw [zaj a]; simp [rds]
  refine ⟨small (by omega),ziM m _ a.kds [] _ ?_⟩
  refine ⟨by omega,a,by rw [e2]; exact ha,?_⟩
  rw [e2,hwr,zaj (zrJ a m)]; simp [zrJ,Tr.lab,Tr.wds,Tr.kds,List.map_map,Function.comp_def]
 ·rintro Γ ⟨k,s4,s5,s6,hi,hn,rfl⟩
  have hL:(zse ((p.length:Int)-1) (-1) (-1)).length=p.length:=by
   unfold zse; rw [List.length_map,List.length_range,zj1]
  rw [hL] at hn; simp only [Nat.sub_self,List.take_zero,zp,Option.some.injEq] at hn; subst hn; rw [hL]
  simpa [zbQ,zJ] using q
theorem zfh:FnScope ["one","other"] ["one","other"] (zf zbV):=sc0
theorem zfw (d:Df K mg "label_before" zbV ["one","other"]) (G_label_rank:Fn P w K mg base 2 "label_rank" ["label"] zb9):Fn P w K mg base 3 "label_before" ["one","other"] zav:=by
 refine d.ok zfh (fun ds Q h=>?_) (fun f cdv A outer s H E hr ds Q h=>⟨_,(ze (zh (zg7 (zu8 hr.units0) (zx G_label_rank (hr.mono (by decide)) (za (pv' 0) zb)) (zx G_label_rank (hr.mono (by decide)) (za (pv' 1) zb))))),?_⟩)
 ·obtain ⟨l,m,rfl,_⟩:=h
  rfl
 obtain ⟨l,m,rfl,hl,hm,q⟩:=h; simp [rds]; refine ⟨l,rfl,hl,m,rfl,hm,?_⟩; refine ⟨_,_,_,_,rfl,rfl,q _ ?_⟩; rw [decide_eq_true_eq]; exact Iff.rfl
theorem zbL:FnScope ["tree","place","node"] ["tree","place"] (zf za0):=sc0
theorem zd3 (d:Df K mg "node_or_refusal" za0 ["tree","place"]) (G_node_at:Fn P w K mg base 2 "node_at" ["tree","place"] zH):Fn P w K mg base 3 "node_or_refusal" ["tree","place"] zab:=by
 refine d.ok zbL (fun ds Q h=>?_) (fun f cdv A outer s H E hr ds Q h=>⟨_,(zc (zm 2 zbL.nd (zx G_node_at (hr.mono (by decide)) (za (pv' 0) (za (pv' 1) zb))))
  (zc (zB (zo zfA (pv' 2) zaa) (ze zg4) zn)
  (ze (zh (pv' 2))))),?_⟩)
 ·obtain ⟨t,p,nd,rfl,_⟩:=h
  rfl
 obtain ⟨t,p,nd,rfl,hn,q⟩:=h; simp [rds,zH]; refine ⟨t,p,⟨rfl,rfl⟩,?_⟩; rw [hn]; simp [zf0,zeE,zaX]; exact q
theorem zdQ:FnScope ["tree","place","words","node"] ["tree","place","words"] (zf zcJ):=sc0
theorem zg8 (d:Df K mg "with_words" zcJ ["tree","place","words"]) (G_node_or_refusal:Fn P w K mg base 3 "node_or_refusal" ["tree","place"] zab) (G_with_node:Fn P w K mg base 3 "with_node" ["tree","place","node"] zas):Fn P w K mg base 4 "with_words" ["tree","place","words"] zbp:=by
 refine d.ok zdQ (fun ds Q h=>?_) (fun f cdv A outer s H E hr ds Q h=>⟨_,(zc (zm 3 zdQ.nd (zx G_node_or_refusal (hr.mono (by decide)) (za (pv' 0) (za (pv' 1) zb))))
  (ze (zh (zx G_with_node (hr.mono (by decide)) (za (pv' 0) (za (pv' 1) (za (zw (za (zl (i_A (zr hr)) (pv' 3) zd) (za (pv' 2) (za (zl (i_A (zr hr)) (pv' 3) zd) zb)))) zb))))))),?_⟩)
 ·obtain ⟨t,p,ws,nd,c,n,rfl,_⟩:=h
  rfl
 obtain ⟨t,p,ws,nd,c,n,rfl,hw,hc,hp,hn,q⟩:=h; simp [rds]; refine ⟨t,p,nd,rfl,hn,?_⟩; simp [Res.toD]
 have e:D.tup [D.str nd.lab,plc ws,D.tup (nd.kds.map trD)]=trD (.node nd.lab ws nd.kds):=by rw [zaj]; rfl
 rw [e]
 refine ⟨t,p,_,rfl,by omega,by rw [hn]; rfl,zkr hw hc,?_⟩
 rw [zcP hw hn]; exact q
theorem zcb:FnScope ["tree","place","node","above","ahead","kids"] ["tree","place","node"] (zf zc1):=sc0
theorem zjo (d:Df K mg "with_kid" zc1 ["tree","place","node"]) (G_label_before:Fn P w K mg base 3 "label_before" ["one","other"] zav) (G_kid_with:Fn P w K mg base 1 "kid_with" ["node","label"] zal) (G_node_or_refusal:Fn P w K mg base 3 "node_or_refusal" ["tree","place"] zab) (G_with_node:Fn P w K mg base 3 "with_node" ["tree","place","node"] zas) (z_len:mg "len"=none) (z_tuple:mg "tuple"=none):Fn P w K mg base 4 "with_kid" ["tree","place","node"] zdy:=by
 refine d.ok zcb (fun ds Q h=>?_) (fun f cdv A outer s H E hr ds Q h=>⟨_,(zc (zm 3 zcb.nd (zx G_node_or_refusal (hr.mono (by decide)) (za (pv' 0) (za (pv' 1) zb))))
  (zc (zB (zo zhg (zx G_kid_with (hr.mono (by decide)) (za (pv' 3) (za (zl (i_A (zr hr)) (pv' 2) zd) zb))) zaa) (ze zg4) zn)
  (zc (zm 4 zcb.nd (zaq zeB z_tuple PyProof.Rows.boot_tuple (za (zbB (zet (fsc:=zf zc1) (N:=["tree","place","node","above","ahead","kids"]) (N':=["kid","node"]) (src:=[none,some 2]) (by refine ⟨rfl,?_,?_,?_,rfl,rfl⟩ <;> decide +kernel) (zcj (zl (i_A (zr hr)) (pv' 3) zd)) (fun _ _ _ _ _ _=>(zY 0 (show (["kid","node"]:List Str).Nodup by decide +kernel))) (fun _ _ _ _ _ _=>(zeW (zer (zx G_label_before (hr.mono (by decide)) (za (zl (i_A (zr hr)) (pv' 0) zd) (za (zl (i_A (zr hr)) (pv' 1) zd) zb)))))) (fun _ _ _ _ _ _=>(pv' 0)))) zb)))
  (zc (zm 5 zcb.nd (zk zR (zk zR (pv' 4) (zw (za (pv' 2) zb))) (zbg s_A (zl (i_A (zr hr)) (pv' 3) zd) (zb0 (zt zaF z_len PySem.boot_len (za (pv' 4) zb))) zd2)))
  (ze (zh (zx G_with_node (hr.mono (by decide)) (za (pv' 0) (za (pv' 1) (za (zw (za (zl (i_A (zr hr)) (pv' 3) zd) (za (zl (i_A (zr hr)) (pv' 3) zd) (za (pv' 5) zb)))) zb)))))))))),?_⟩)
 ·obtain ⟨t,p,k,nd,c,n,rfl,_⟩:=h
  rfl
 obtain ⟨t,p,k,nd,c,n,rfl,hw,hc,hp,hn,hk,hl,q⟩:=h; simp [rds]; refine ⟨t,p,nd,rfl,hn,?_⟩; simp [Res.toD,zal]; refine ⟨nd,k.lab,⟨rfl,rfl⟩,?_⟩; rw [hk]; simp [zf0,zeE]; have wn:=(hw.at hn).2; have hf:=wn.few; have hfl:=List.length_filter_le (bf k.lab) nd.kds
 refine ⟨small (by omega),zrw hl wn.plab ?_⟩
 refine .inr ⟨_,_,rfl,rfl,small (by simp; omega),?_⟩
 rw [ze7,List.length_map,ziL]
 refine .inr ⟨_,_,rfl,rfl,small (by simp; omega),?_⟩
 have e:D.tup [D.str nd.lab,plc nd.wds,D.tup (List.map trD (List.filter (bf k.lab) nd.kds) ++ [trD k] ++ List.map trD (List.drop (List.filter (bf k.lab) nd.kds).length nd.kds))]=trD (.node nd.lab nd.wds (zgj (nd.kds ++ [k]))):=by
  rw [<- zmF wn hl hk]
  conv=>rhs; rw [zaj]
  rw [zkp]; simp [Tr.lab,Tr.wds]
 show zas [trD t,plc p,D.tup [D.str nd.lab,plc nd.wds,D.tup _]] _
 rw [e]
 refine ⟨t,p,_,rfl,by omega,by rw [hn]; rfl,zkr hw hc,?_⟩
 rw [zcP hw hn]; exact q
theorem zei:FnScope ["tree","place","above","kids"] ["tree","place"] (zf zdU):=sc0
theorem zk8 (d:Df K mg "without" zdU ["tree","place"]) (G_node_at:Fn P w K mg base 2 "node_at" ["tree","place"] zH) (G_node_or_refusal:Fn P w K mg base 3 "node_or_refusal" ["tree","place"] zab) (G_with_node:Fn P w K mg base 3 "with_node" ["tree","place","node"] zas) (z_tuple:mg "tuple"=none):Fn P w K mg base 4 "without" ["tree","place"] zeh:=by
 refine d.ok zei (fun ds Q h=>?_) (fun f cdv A outer s H E hr ds Q h=>⟨_,(zc (zB (zo (zbh (zaE hr)) (pv' 1) (zw zb)) (ze zg4) zn)
  (zc (zci (zx G_node_or_refusal (hr.mono (by decide)) (za (pv' 0) (za (pv' 1) zb))))
  (zc (zm 2 zei.nd (zx G_node_at (hr.mono (by decide)) (za (pv' 0) (za (zbg s_A (pv' 1) zd2 (zb0 zck)) zb))))
  (zc (zm 3 zei.nd (zaq zeB z_tuple PyProof.Rows.boot_tuple (za (zbB (zet (fsc:=zf zdU) (N:=["tree","place","above","kids"]) (N':=["kid","place"]) (src:=[none,some 1]) (by refine ⟨rfl,?_,?_,?_,rfl,rfl⟩ <;> decide +kernel) (zcj (zl (i_A (zr hr)) (pv' 2) zd)) (fun _ _ _ _ _ _=>(zY 0 (show (["kid","place"]:List Str).Nodup by decide +kernel))) (fun _ _ _ _ _ _=>(zeW (zo (zop (zaE hr)) (zl (i_A (zr hr)) (pv' 0) zd) (zl (i_A (zr hr)) (pv' 1) zck)))) (fun _ _ _ _ _ _=>(pv' 0)))) zb)))
  (ze (zh (zx G_with_node (hr.mono (by decide)) (za (pv' 0) (za (zbg s_A (pv' 1) zd2 (zb0 zck)) (za (zw (za (zl (i_A (zr hr)) (pv' 2) zd) (za (zl (i_A (zr hr)) (pv' 2) zd) (za (pv' 3) zb)))) zb)))))))))),?_⟩)
 ·obtain ⟨t,p,nd,ab,c,n,rfl,_⟩:=h
  rfl
 obtain ⟨t,p,nd,ab,c,n,rfl,hw,hc,hp,h0,hn,hab,q⟩:=h; simp [rds,zH,h0]; refine ⟨t,p,nd,rfl,hn,?_⟩
 show ∃ t_1 p_1,_
 refine ⟨t,p.dropLast,⟨rfl,zec _⟩,?_⟩; have wab:=(hw.at hab).2; have hf:=wab.few; rw [hab]; simp [zf0,zp2]
 refine ⟨small (by omega),zrv h0 ?_⟩
 rw [zec]
 have e:D.tup [D.str ab.lab,plc ab.wds,D.tup (List.map trD (List.filter (fun k=>decide (k.lab≠zaO p)) ab.kds))]=trD (.node ab.lab ab.wds (List.filter (fun k=>decide (k.lab≠zaO p)) ab.kds)):=by rw [zaj]; rfl
 rw [e]
 refine ⟨t,p.dropLast,_,rfl,by simp; omega,by rw [hab]; rfl,zkr hw hc,?_⟩
 rw [zcP hw hab]; exact q
theorem zfg:FnScope ["tree","place"] ["tree","place"] (zf zbT):=sc0
theorem zfu (d:Df K mg "place_reason" zbT ["tree","place"]) (G_node_at:Fn P w K mg base 2 "node_at" ["tree","place"] zH):Fn P w K mg base 3 "place_reason" ["tree","place"] zat:=by
 refine d.ok zfg (fun ds Q h=>?_) (fun f cdv A outer s H E hr ds Q h=>⟨_,(ze (zh (zpm (zo zfA (zx G_node_at (hr.mono (by decide)) (za (pv' 0) (za (pv' 1) zb))) zaa) (zD [112,108,97,99,101]) zaa))),?_⟩)
 ·obtain ⟨t,p,rfl,_⟩:=h
  rfl
 obtain ⟨t,p,rfl,q⟩:=h; simp [rds,zH]; refine ⟨t,p,⟨rfl,rfl⟩,?_⟩
 cases hn:zp t p with
 | none=>rw [hn] at q; simpa [zf0,zeE,zdO] using q
 | some nd=>rw [hn] at q; simpa [zf0,zeE,zaX] using q
theorem zfk:FnScope ["node","levels","row"] ["node"] (zf zlZ):=sc0
theorem zqU (d:Df K mg "deep" zlZ ["node"]) (G_kids_of_all:Fn P w K mg base 1 "kids_of_all" ["nodes"] za7) (z_len:mg "len"=none):Fn P w K mg base 2 "deep" ["node"] zi8:=by
 refine d.ok zfk (fun ds Q h=>?_) (fun f cdv A outer s H E hr ds Q h=>⟨_,(zc (zm 1 zfk.nd zd)
  (zc (zm 2 zfk.nd (zbB (zdY (za (pv' 0) zb))))
  (zc (zfp (zo zs2 (zt zaF z_len PySem.boot_len (za (pv' 2) zb)) zd)
   (zc (zql 1 zfk.nd zd)
  (ze (zm 2 zfk.nd (zx G_kids_of_all (hr.mono (by decide)) (za (pv' 2) zb))))))
  (ze (zh (pv' 1)))))),?_⟩)
 ·obtain ⟨t,c,n,rfl,_⟩:=h
  rfl
 obtain ⟨t,c,n,rfl,hw,hcnt,hn,q⟩:=h; simp [rds]
 refine ze8 (fun Γ=>∃ (i:Nat) (row:List Tr),i+zhv row=dpt t/\i<=n/\(∀ x ∈ row,Wf c (n-i) x)/\(row.map M71.cnt).sum<=4000/\Γ=[.val (trD t),.val (.int i),.val (.lst (row.map trD))]) (fun Γ=>match Γ with | [_,.val (.int k),_]=>n+1-k.toNat | _=>0) ⟨0,[t],by simp [zhv],by omega,by simpa using hw,by simpa using hcnt,rfl⟩ ?_
 rintro Γ ⟨i,row,hd,hi,hrow,hc4,rfl⟩
 simp [rds]
 cases row with
 | nil =>
  refine .inl ⟨rfl,?_⟩; simp only [zhv,Nat.add_zero] at hd; rw [hd]; exact q
 | cons x r =>
  have wx:=hrow x List.mem_cons_self; obtain ⟨m,hm⟩:=wx.pos; have hk:=zm4 (x :: r); have hlen:=zo5 ((x :: r).flatMap Tr.kds)
  have hfl:=ziF (ks:=x :: r) (by simp)
  refine .inr ⟨by simp,x :: r,_,rfl,.inr rfl,by omega,?_⟩
  refine ⟨⟨i+1,(x :: r).flatMap Tr.kds,by omega,by omega,fun y hy=>?_,by omega,by simp,rfl⟩,by omega⟩
  obtain ⟨z,hz,hy⟩:=List.mem_flatMap.mp hy; have wz:=hrow z hz; rw [hm] at wz
  rw [show n-(i+1)=m by omega]
  exact wz.kid y hy
theorem zhR:FnScope ["tree","place","node"] ["tree","place","node"] (zf zdE):=sc0
theorem zih (d:Df K mg "deep_with" zdE ["tree","place","node"]) (G_deep:Fn P w K mg base 2 "deep" ["node"] zi8) (z_len:mg "len"=none) (z_max:mg "max"=none):Fn P w K mg base 3 "deep_with" ["tree","place","node"] zcD:=by
 refine d.ok zhR (fun ds Q h=>?_) (fun f cdv A outer s H E hr ds Q h=>⟨_,(ze (zh (zt (ztA rfl) z_max PyProof.Rows.boot_max (za (zx G_deep (hr.mono (by decide)) (za (pv' 0) zb)) (za (zk zR (zk zR (zt zaF z_len PySem.boot_len (za (pv' 1) zb)) zd) (zx G_deep (hr.mono (by decide)) (za (pv' 2) zb))) zb))))),?_⟩)
 ·obtain ⟨t,p,k,c,d,m,n,rfl,_⟩:=h
  rfl
 obtain ⟨t,p,k,c,d,m,n,rfl,hw,hn,wk,hm,c1,c2,q⟩:=h; simp [rds]
 refine ⟨t,c,n,rfl,hw,c1,by omega,?_⟩
 simp [Res.toD]
 refine ⟨k,d,m,rfl,wk,c2,by omega,?_⟩
 simp
 exact q _ (by split <;> omega)
theorem zj0:FnScope ["words","old","length"] ["words","old"] (zf zgV):=sc0
theorem zok (d:Df K mg "spots" zgV ["words","old"]) (z_len:mg "len"=none) (z_range:mg "range"=none):Fn P w K mg base 1 "spots" ["words","old"] zeR:=by
 refine d.ok zj0 (fun ds Q h=>?_) (fun f cdv A outer s H E hr ds Q h=>⟨_,(zc (zm 2 zj0.nd (zt zaF z_len PySem.boot_len (za (pv' 1) zb)))
  (ze (zh (zbB (zet (fsc:=zf zgV) (N:=["words","old","length"]) (N':=["begin","old","words","length"]) (src:=[none,some 1,some 0,some 2]) (by refine ⟨rfl,?_,?_,?_,rfl,rfl⟩ <;> decide +kernel) (zc3 z_range (za (zk zR (zk zqV (zt zaF z_len PySem.boot_len (za (pv' 0) zb)) (pv' 2)) zd) zb)) (fun _ _ _ _ _ _=>(zY 0 (show (["begin","old","words","length"]:List Str).Nodup by decide +kernel))) (fun _ _ _ _ _ _=>(zeW (zo (zbh (zaE hr)) (zbg s_A (pv' 2) (zb0 (pv' 0)) (zb0 (zk zR (pv' 0) (pv' 3)))) (pv' 1)))) (fun _ _ _ _ _ _=>(pv' 0))))))),?_⟩)
 ·obtain ⟨t,p,rfl,_⟩:=h
  rfl
 obtain ⟨ws,old,rfl,h1,h2,q⟩:=h; simp [rds]
 have big:1000<sizeLine:=zbz (Nat.le_refl _)
 refine ⟨by omega,by omega,by omega,?_⟩
 have en:((ws.length:Int)-(old.length:Int)+1).toNat=ws.length+1-old.length:=by omega
 rw [en]
 refine zdL (fun i acc Γ=>∃ s0,acc=(((List.range i).filter fun b=>decide ((ws.drop b).take old.length=old)).map fun k:Nat=>D.int k)/\Γ=[s0,.val (plc old),.val (plc ws),.val (.int old.length)]) ⟨_,rfl,rfl⟩ ?_ ?_
 ·rintro i d acc Γ hd ⟨s0,rfl,rfl⟩
  rw [List.getElem?_map] at hd; obtain ⟨c,hc,rfl⟩:=Option.map_eq_some_iff.mp hd; have hc1:=(List.getElem?_eq_some_iff.mp hc).1; rw [List.length_range] at hc1; rw [List.getElem?_range hc1] at hc; cases hc; simp [zac,tB',zcX,zkP,zkR,zJ,vo,voS]
  rw [zo4 ws (by omega:i<=ws.length)]
  by_cases e:(ws.drop i).take old.length=old
  ·refine .inr ⟨e,?_⟩
   rw [List.range_succ,List.filter_append]; simp [e]
  ·refine .inl ⟨e,?_⟩
   rw [List.range_succ,List.filter_append]; simp [e]
 ·rintro acc Γ ⟨s0,rfl,rfl⟩
  simpa [zbj] using q
end
end K25
namespace K25
open PySem L2 Lb PL MT M04 MS M70 M71 M72 M74 M76 M25
structure Cs where
 Swap:Addr
 Read:Addr
 PutIn:Addr
 LeaveOut:Addr
 Anew:Addr
structure CF (K:W.Frag) (T:Cs):Prop where
 iS:InsT K T.Swap
 iR:InsT K T.Read
 iP:InsT K T.PutIn
 iL:InsT K T.LeaveOut
 iA:InsT K T.Anew
 nS1:zai K T.Swap "place"
 nS2:zai K T.Swap "old"
 nS3:zai K T.Swap "new"
 nR1:zai K T.Read "place"
 nR2:zai K T.Read "words"
 nP1:zai K T.PutIn "place"
 nP2:zai K T.PutIn "node"
 nL1:zai K T.LeaveOut "place"
 nA1:zai K T.Anew "place"
 kSP:W.kitOne K (.ref T.Swap) (.ref T.PutIn)=some false
 kSL:W.kitOne K (.ref T.Swap) (.ref T.LeaveOut)=some false
 kSA:W.kitOne K (.ref T.Swap) (.ref T.Anew)=some false
 kRP:W.kitOne K (.ref T.Read) (.ref T.PutIn)=some false
 kRL:W.kitOne K (.ref T.Read) (.ref T.LeaveOut)=some false
 kRA:W.kitOne K (.ref T.Read) (.ref T.Anew)=some false
 kPP:W.kitOne K (.ref T.PutIn) (.ref T.PutIn)=some true
 kLP:W.kitOne K (.ref T.LeaveOut) (.ref T.PutIn)=some false
 kLL:W.kitOne K (.ref T.LeaveOut) (.ref T.LeaveOut)=some true
 kAP:W.kitOne K (.ref T.Anew) (.ref T.PutIn)=some false
 kAL:W.kitOne K (.ref T.Anew) (.ref T.LeaveOut)=some false
 kAA:W.kitOne K (.ref T.Anew) (.ref T.Anew)=some true
def chD (T:Cs):Cg->D
 | .swap p o n=>.obj T.Swap [("place",plc p),("old",plc o),("new",plc n)]
 | .read p ws=>.obj T.Read [("place",plc p),("words",plc ws)]
 | .put p k=>.obj T.PutIn [("place",plc p),("node",trD k)]
 | .out p=>.obj T.LeaveOut [("place",plc p)]
 | .anew p=>.obj T.Anew [("place",plc p)]
structure Sm (t:Tr):Prop where
 ex:∃ c,Wf c 9 t/\1<=c/\c<=150
 cn:M71.cnt t<=3000
def rD:Option (List Nat)->D
 | none=>.non
 | some l=>.str l
def za9 (T:Cs):Sp':=fun ds Q=>∃ t p o n,ds=[chD T (.swap p o n),trD t]/\Sm t/\Ok (.swap p o n)/\Q (.val (rD (rs t (.swap p o n))))
def zba (T:Cs):Sp':=fun ds Q=>∃ t p ws,ds=[chD T (.read p ws),trD t]/\Sm t/\Ok (.read p ws)/\Q (.val (rD (rs t (.read p ws))))
def zaR (T:Cs):Sp':=fun ds Q=>∃ t p k,ds=[chD T (.put p k),trD t]/\Sm t/\Ok (.put p k)/\Q (.val (rD (rs t (.put p k))))
def zar (T:Cs):Sp':=fun ds Q=>∃ t p,ds=[chD T (.out p),trD t]/\Sm t/\Ok (.out p)/\Q (.val (rD (rs t (.out p))))
def zbb (T:Cs):Sp':=fun ds Q=>∃ t p,ds=[chD T (.anew p),trD t]/\Sm t/\Ok (.anew p)/\Q (.val (rD (rs t (.anew p))))
def zW (T:Cs):Sp':=fun ds Q=>∃ t ch,ds=[chD T ch,trD t]/\Sm t/\Ok ch/\rs t ch=none/\Q (.val .non)
def zbI (T:Cs):Sp':=fun ds Q=>∃ t p o n,ds=[chD T (.swap p o n),trD t]/\Sm t/\Ok (.swap p o n)/\rs t (.swap p o n)=none/\Q (.val (trD (dnC t (.swap p o n))))
def zbJ (T:Cs):Sp':=fun ds Q=>∃ t p ws,ds=[chD T (.read p ws),trD t]/\Sm t/\Ok (.read p ws)/\rs t (.read p ws)=none/\Q (.val (trD (dnC t (.read p ws))))
def zbs (T:Cs):Sp':=fun ds Q=>∃ t p k,ds=[chD T (.put p k),trD t]/\Sm t/\Ok (.put p k)/\rs t (.put p k)=none/\Q (.val (trD (dnC t (.put p k))))
def zaH (T:Cs):Sp':=fun ds Q=>∃ t p,ds=[chD T (.out p),trD t]/\Sm t/\Ok (.out p)/\rs t (.out p)=none/\Q (.val (trD (dnC t (.out p))))
def zbK (T:Cs):Sp':=fun ds Q=>∃ t p,ds=[chD T (.anew p),trD t]/\Sm t/\Ok (.anew p)/\rs t (.anew p)=none/\Q (.val (trD (dnC t (.anew p))))
theorem nof {m:Str} {fs:List (Str × D)} (h:List.lookup m fs=none):∀ (a:Str) (b:D),(a,b) ∈ fs->¬ m=a:=by simpa using h
theorem zrK (t:Tr) (p:Pl):(wd t p).isSome=(zp t p).isSome:=by unfold wd; simp
theorem zg0 (t:Tr) (p:Pl):rD (if (wd t p).isSome=true then none else some zdO)=if (zp t p).isSome=true then D.non else .str zdO:=by
 rw [zrK]
 split <;> rfl
theorem zhi (x y z:D):List.lookup ("old":Str) [(("place":Str),x),(("old":Str),y),(("new":Str),z)]=some y:=by
 have h:(("old":Str) == "place")=false:=by decide +kernel
 simp [List.lookup,h]
theorem zoy (x y z:D):List.lookup ("new":Str) [(("place":Str),x),(("old":Str),y),(("new":Str),z)]=some z:=by
 have h:(("new":Str) == "place")=false:=by decide +kernel
 have h2:(("new":Str) == "old")=false:=by decide +kernel
 simp [List.lookup,h,h2]
theorem zr1 {ws o:Pl} {b:Nat} (h:zbj ws o=[b]) (n:Pl):swp ws o n=ws.take b ++ n ++ ws.drop (b+o.length):=by unfold swp; rw [h]; rfl
section
variable {P:Program} {w:World} {K:W.Frag} {mg:Str->Option Value} {base:Heap} {T:Cs}
theorem zf9:FnScope ["self","tree"] ["self","tree"] (zf zaB):=sc0
theorem zgg {f:Addr} {fd:FuncData} (F:Fun K "reason" "Read.reason" zaB f fd) (bd:zbi K fd ["self","tree"] []) (hm:Meth K T.Read "reason" f) (cl:Cls K T.Read) (cf:CF K T) (G_place_reason:Fn P w K mg base 3 "place_reason" ["tree","place"] zat):Mth P w K mg base 4 T.Read "reason" ["self","tree"] (zba T):=by
 refine ⟨f,fd,PL.Fun.ok' F zf9 (fun ds Q h=>?_) (fun cdv A outer s H E hr ds Q h=>⟨_,(ze (zh (zx G_place_reason (hr.mono (by decide)) (za (pv' 1) (za (zA (pv' 0)) zb))))),?_⟩),bd,hm,cl⟩
 ·obtain ⟨t,p,ws,rfl,_⟩:=h
  rfl
 obtain ⟨t,p,ws,rfl,sm,ok,q⟩:=h; simp [rds]; refine .inl ⟨_,_,rfl,cf.iR.cl,cf.nR1,_,rfl,?_⟩
 exact ⟨t,p,rfl,by rw [<- zg0]; exact q⟩
theorem zga:FnScope ["self","tree"] ["self","tree"] (zf zaC):=sc0
theorem zgh {f:Addr} {fd:FuncData} (F:Fun K "reason" "Anew.reason" zaC f fd) (bd:zbi K fd ["self","tree"] []) (hm:Meth K T.Anew "reason" f) (cl:Cls K T.Anew) (cf:CF K T) (G_place_reason:Fn P w K mg base 3 "place_reason" ["tree","place"] zat):Mth P w K mg base 4 T.Anew "reason" ["self","tree"] (zbb T):=by
 refine ⟨f,fd,PL.Fun.ok' F zga (fun ds Q h=>?_) (fun cdv A outer s H E hr ds Q h=>⟨_,(ze (zh (zx G_place_reason (hr.mono (by decide)) (za (pv' 1) (za (zA (pv' 0)) zb))))),?_⟩),bd,hm,cl⟩
 ·obtain ⟨t,p,rfl,_⟩:=h
  rfl
 obtain ⟨t,p,rfl,sm,ok,q⟩:=h; simp [rds]; refine .inl ⟨_,_,rfl,cf.iA.cl,cf.nA1,_,rfl,?_⟩
 exact ⟨t,p,rfl,by rw [<- zg0]; exact q⟩
theorem zdT:FnScope ["self","tree"] ["self","tree"] (zf zT):=sc0
theorem zd4 {f:Addr} {fd:FuncData} (F:Fun K "reason" "LeaveOut.reason" zT f fd) (bd:zbi K fd ["self","tree"] []) (hm:Meth K T.LeaveOut "reason" f) (cl:Cls K T.LeaveOut) (cf:CF K T) (G_place_reason:Fn P w K mg base 3 "place_reason" ["tree","place"] zat):Mth P w K mg base 4 T.LeaveOut "reason" ["self","tree"] (zar T):=by
 refine ⟨f,fd,PL.Fun.ok' F zdT (fun ds Q h=>?_) (fun cdv A outer s H E hr ds Q h=>⟨_,(zc (zB (zo (zbh (zaE hr)) (zA (pv' 0)) (zw zb)) (ze (zh (zD [119,104,111,108,101]))) zn)
  (ze (zh (zx G_place_reason (hr.mono (by decide)) (za (pv' 1) (za (zA (pv' 0)) zb)))))),?_⟩),bd,hm,cl⟩
 ·obtain ⟨t,p,rfl,_⟩:=h
  rfl
 obtain ⟨t,p,rfl,sm,ok,q⟩:=h; simp [rds]; refine .inl ⟨_,_,rfl,cf.iL.cl,cf.nL1,_,rfl,?_⟩; simp only [rs] at q
 by_cases h0:p=[]
 ·rw [if_pos h0] at q
  simp [h0]; exact q
 ·rw [if_neg h0] at q
  simp [h0]; refine .inl ⟨_,_,rfl,cf.iL.cl,cf.nL1,_,rfl,?_⟩
  exact ⟨t,p,rfl,by rw [<- zg0]; exact q⟩
theorem zcH:FnScope ["self","tree","above"] ["self","tree"] (zf zap):=sc0
theorem zfz {f:Addr} {fd:FuncData} (F:Fun K "reason" "PutIn.reason" zap f fd) (bd:zbi K fd ["self","tree"] []) (hm:Meth K T.PutIn "reason" f) (cl:Cls K T.PutIn) (cf:CF K T) (G_node_at:Fn P w K mg base 2 "node_at" ["tree","place"] zH) (G_kid_with:Fn P w K mg base 1 "kid_with" ["node","label"] zal) (G_deep_with:Fn P w K mg base 3 "deep_with" ["tree","place","node"] zcD) {t_MOST_DEEP:Tok} (g_MOST_DEEP:mg "MOST_DEEP"=some (.int 9 t_MOST_DEEP)):Mth P w K mg base 4 T.PutIn "reason" ["self","tree"] (zaR T):=by
 refine ⟨f,fd,PL.Fun.ok' F zcH (fun ds Q h=>?_) (fun cdv A outer s H E hr ds Q h=>⟨_,(zc (zm 2 zcH.nd (zx G_node_at (hr.mono (by decide)) (za (pv' 1) (za (zA (pv' 0)) zb))))
  (zc (zB (zo zfA (pv' 2) zaa) (ze (zh (zD [112,108,97,99,101]))) zn)
  (zc (zB (zo zhg (zx G_kid_with (hr.mono (by decide)) (za (pv' 2) (za (zl (i_A (zr hr)) (zA (pv' 0)) zd) zb))) zaa) (ze (zh (zD [116,104,101,114,101]))) zn)
  (zc (zB (zo zs2 (zx G_deep_with (hr.mono (by decide)) (za (pv' 1) (za (zA (pv' 0)) (za (zA (pv' 0)) zb)))) (zsN g_MOST_DEEP)) (ze (zh (zD [100,101,101,112]))) zn)
  (ze (zh zaa)))))),?_⟩),bd,hm,cl⟩
 ·obtain ⟨t,p,k,rfl,_⟩:=h
  rfl
 obtain ⟨t,p,k,rfl,sm,ok,q⟩:=h; obtain ⟨c,w,c1,c2⟩:=sm.ex
 obtain ⟨o1,⟨n,hn9,o2⟩,o3⟩:=ok.put p k rfl
 have hpl:p.length<=9:=ok.len
 simp [rds]; refine .inl ⟨_,_,rfl,cf.iP.cl,cf.nP1,_,rfl,?_⟩; refine ⟨t,p,rfl,?_⟩; simp only [rs] at q; rw [zrK] at q
 cases hn:zp t p with
 | none =>
  rw [hn] at q; simp [zf0,zeE,Res.toD]; exact q
 | some nd =>
  rw [hn,ze9,hn] at q; simp [zf0,zeE,Res.toD,zaX]; refine .inl ⟨_,_,rfl,cf.iP.cl,cf.nP2,_,rfl,?_⟩; rw [ix0]; refine ⟨nd,k.lab,rfl,?_⟩
  have hs:(wd nd [k.lab]).isSome=(zi k.lab nd.kds).isSome:=by rw [zbw]; cases zi k.lab nd.kds <;> rfl
  simp only [Option.isSome_some,if_true,Option.bind_some,hs] at q
  cases hk:zi k.lab nd.kds with
  | some y =>
   rw [hk] at q; simp [zf0,zaX]; exact q
  | none =>
   rw [hk] at q; refine .inr ⟨rfl,?_⟩; refine .inl ⟨_,_,rfl,cf.iP.cl,cf.nP1,_,rfl,?_⟩; refine .inl ⟨_,_,rfl,cf.iP.cl,cf.nP2,_,rfl,?_⟩; have d9:=zlE w
   refine ⟨t,p,k,c,1,n,9,rfl,w,by omega,o2,by omega,by have:=sm.cn; omega,by omega,fun j hj=>?_⟩
   simp
   by_cases h9:9<p.length+1+dpt k
   ·exact .inr ⟨by omega,by simpa [h9,rD,zrX] using q⟩
   ·exact .inl ⟨by omega,by simpa [h9,rD] using q⟩
theorem zdo:FnScope ["self","tree","begins"] ["self","tree"] (zf zaA):=sc0
theorem zgf {f:Addr} {fd:FuncData} (F:Fun K "reason" "Swap.reason" zaA f fd) (bd:zbi K fd ["self","tree"] []) (hm:Meth K T.Swap "reason" f) (cl:Cls K T.Swap) (cf:CF K T) (G_node_at:Fn P w K mg base 2 "node_at" ["tree","place"] zH) (G_spots:Fn P w K mg base 1 "spots" ["words","old"] zeR) (z_len:mg "len"=none):Mth P w K mg base 3 T.Swap "reason" ["self","tree"] (za9 T):=by
 refine ⟨f,fd,PL.Fun.ok' F zdo (fun ds Q h=>?_) (fun cdv A outer s H E hr ds Q h=>⟨_,(zc (zB (zo zfA (zx G_node_at (hr.mono (by decide)) (za (pv' 1) (za (zA (pv' 0)) zb))) zaa) (ze (zh (zD [112,108,97,99,101]))) zn)
  (zc (zm 2 zdo.nd (zx G_spots (hr.mono (by decide)) (za (zl (i_A (zr hr)) (zx G_node_at (hr.mono (by decide)) (za (pv' 1) (za (zA (pv' 0)) zb))) zd) (za (zA (pv' 0)) zb))))
  (zc (zB (zo (zbh (zaE hr)) (zt zaF z_len PySem.boot_len (za (pv' 2) zb)) zd) (ze (zh (zD [119,111,114,100,115]))) zn)
  (zc (zB (zo zs2 (zt zaF z_len PySem.boot_len (za (pv' 2) zb)) zd) (ze (zh (zD [116,119,105,99,101]))) zn)
  (ze (zh zaa)))))),?_⟩),bd,hm,cl⟩
 ·obtain ⟨t,p,o,n,rfl,_⟩:=h
  rfl
 obtain ⟨t,p,o,n,rfl,sm,ok,q⟩:=h; obtain ⟨c,w,c1,c2⟩:=sm.ex; have ho:=(ok.sw p o n rfl).1; simp [rds]; refine .inl ⟨_,_,rfl,cf.iS.cl,cf.nS1,_,rfl,?_⟩; refine ⟨t,p,rfl,?_⟩; simp only [rs] at q; unfold wd at q
 cases hn:zp t p with
 | none =>
  rw [hn] at q; simp [zf0,zeE,Res.toD]; exact q
 | some nd =>
  rw [hn] at q; simp [zf0,zeE,Res.toD,zaX]; have wn:=(w.at hn).2; have hw:=wn.wfew; refine .inl ⟨_,_,rfl,cf.iS.cl,cf.nS1,_,rfl,?_⟩; refine ⟨t,p,rfl,?_⟩; rw [hn]; simp [zf0,Res.toD]; refine .inl ⟨_,_,rfl,cf.iS.cl,cf.nS2,_,zhi _ _ _,?_⟩
  refine ⟨nd.wds,o,rfl,by omega,by omega,?_⟩
  simp only [Option.map_some] at q; simp [Res.toD]
  by_cases e:zbj nd.wds o=[]
  ·refine .inr ⟨e,?_⟩
   simpa [e,rD,zpc] using q
  ·refine .inl ⟨e,?_⟩
   have h0:(zbj nd.wds o).length≠0:=fun z=>e (List.eq_nil_of_length_eq_zero z)
   rw [if_neg h0] at q
   by_cases h1:(zbj nd.wds o).length > 1
   ·rw [if_pos h1] at q
    exact .inr ⟨by omega,q⟩
   ·rw [if_neg h1] at q
    exact .inl ⟨by omega,q⟩
theorem zcE:FnScope ["change","tree","why"] ["change","tree"] (zf zbS):=sc0
theorem zft (d:Df K mg "refuse_unfit" zbS ["change","tree"]) (cf:CF K T) (M_Anew_reason:Mth P w K mg base 4 T.Anew "reason" ["self","tree"] (zbb T)) (M_LeaveOut_reason:Mth P w K mg base 4 T.LeaveOut "reason" ["self","tree"] (zar T)) (M_PutIn_reason:Mth P w K mg base 4 T.PutIn "reason" ["self","tree"] (zaR T)) (M_Read_reason:Mth P w K mg base 4 T.Read "reason" ["self","tree"] (zba T)) (M_Swap_reason:Mth P w K mg base 3 T.Swap "reason" ["self","tree"] (za9 T)):Fn P w K mg base 5 "refuse_unfit" ["change","tree"] (zW T):=by
 refine d.ok zcE (fun ds Q h=>?_) (fun f cdv A outer s H E hr ds Q h=>⟨_,(zc (zm 2 zcE.nd (pe_or (zF M_Swap_reason (hr.mono (by decide)) (pv' 0) (za (pv' 1) zb)) (pe_or (zF M_Read_reason (hr.mono (by decide)) (pv' 0) (za (pv' 1) zb)) (pe_or (zF M_PutIn_reason (hr.mono (by decide)) (pv' 0) (za (pv' 1) zb)) (pe_or (zF M_LeaveOut_reason (hr.mono (by decide)) (pv' 0) (za (pv' 1) zb)) (zF M_Anew_reason (hr.mono (by decide)) (pv' 0) (za (pv' 1) zb)))))))
  (ze (zB (zo zhg (pv' 2) zaa) (ze zg4) zn))),?_⟩)
 ·obtain ⟨t,ch,rfl,_⟩:=h
  rfl
 obtain ⟨t,ch,rfl,sm,ok,hr0,q⟩:=h; simp [rds,zc9]
 cases ch with
 | swap p o n=>exact .inl ⟨_,rfl,nof rfl,t,p,o,n,rfl,sm,ok,by rw [hr0]; simpa [zeE,Res.toD,rD] using q⟩
 | read p ws=>exact .inr (.inl ⟨_,rfl,nof rfl,t,p,ws,rfl,sm,ok,by rw [hr0]; simpa [zeE,Res.toD,rD] using q⟩)
 | put p k=>exact .inr (.inr (.inl ⟨_,rfl,nof rfl,t,p,k,rfl,sm,ok,by rw [hr0]; simpa [zeE,Res.toD,rD] using q⟩))
 | out p=>exact .inr (.inr (.inr (.inl ⟨_,rfl,nof rfl,t,p,rfl,sm,ok,by rw [hr0]; simpa [zeE,Res.toD,rD] using q⟩)))
 | anew p=>exact .inr (.inr (.inr (.inr ⟨_,rfl,nof rfl,t,p,rfl,sm,ok,by rw [hr0]; simpa [zeE,Res.toD,rD] using q⟩)))
end
end K25
namespace K25
open PySem L2 Lb PL MT M04 MS M70 M71 M72 M74 M76 M25
theorem zhX:∀ (ks:List Tr) (i j:Nat),(zbD i ks)[j]?=(ks[j]?).map fun k=>.node (zfB ((i+j:Nat):Int)) k.wds k.kds
 | [],i,j=>rfl
 | k :: ks,i,0=>rfl
 | k :: ks,i,j+1=>by
  show (zbD (i+1) ks)[j]?=_
  rw [zhX ks (i+1) j,List.getElem?_cons_succ,show i+1+j=i+(j+1) by omega]
theorem zlq {ks:List Tr} {R:List D->Prop} (hl:ks.length<=1000) (h:R ((zbD 1 ks).map trD)):zcW (zeO 2 (zb2 (zac 0) (zb2 (zac 1) zeP))) zi1 (zeJ (zad (zjW zk0 (zad (zJ 0) zbx)) (zad (zcX zeU (zJ 1) (tC' (D.int 1))) (zad (zcX zeU (zJ 1) (tC' (D.int 2))) zbx)))) R (zht 1 (ks.map trD)) [] [Slot.emp,Slot.emp]:=by
 refine zdL (fun i a Γ=>∃ s0 s1,a=((zbD 1 ks).take i).map trD/\Γ=[s0,s1]) ⟨.emp,.emp,rfl,rfl⟩ ?_ ?_
 ·rintro i d a Γ hd ⟨s0,s1,rfl,rfl⟩
  rw [ziD,List.getElem?_map] at hd
  cases hc:ks[i]? with
  | none=>rw [hc] at hd; cases hd
  | some k =>
   rw [hc] at hd; cases hd; have hi:=(List.getElem?_eq_some_iff.mp hc).1; simp [rds,zk0]
   refine ⟨trD k,[],⟨rfl,rfl⟩,rfl,zio (by omega) (by omega),?_⟩
   rw [ix1,ix2,List.take_succ,List.getElem?_map,zhX,hc]; simp only [Option.map_some,Option.toList_some]; rw [zaj]; simp [Tr.lab,Tr.wds,Tr.kds]
 ·rintro a Γ ⟨s0,s1,rfl,rfl⟩
  rw [show List.take (zht 1 (List.map trD ks)).length (zbD 1 ks)=zbD 1 ks from List.take_of_length_le (by rw [zfU,List.length_map,zfo]; exact Nat.le_refl _)]
  exact h
section
variable {P:Program} {w:World} {K:W.Frag} {mg:Str->Option Value} {base:Heap} {T:Cs}
theorem zhT:FnScope ["self","tree"] ["self","tree"] (zf za4):=sc0
theorem zik {f:Addr} {fd:FuncData} (F:Fun K "done" "Read.done" za4 f fd) (bd:zbi K fd ["self","tree"] []) (hm:Meth K T.Read "done" f) (cl:Cls K T.Read) (cf:CF K T) (G_with_words:Fn P w K mg base 4 "with_words" ["tree","place","words"] zbp) (G_refuse_unfit:Fn P w K mg base 5 "refuse_unfit" ["change","tree"] (zW T)):Mth P w K mg base 6 T.Read "done" ["self","tree"] (zbJ T):=by
 refine ⟨f,fd,PL.Fun.ok' F zhT (fun ds Q h=>?_) (fun cdv A outer s H E hr ds Q h=>⟨_,(zc (zci (zx G_refuse_unfit (hr.mono (by decide)) (za (pv' 0) (za (pv' 1) zb))))
  (ze (zh (zx G_with_words (hr.mono (by decide)) (za (pv' 1) (za (zA (pv' 0)) (za (zA (pv' 0)) zb))))))),?_⟩),bd,hm,cl⟩
 ·obtain ⟨t,p,ws,rfl,_⟩:=h
  rfl
 obtain ⟨t,p,ws,rfl,sm,ok,hf,q⟩:=h; obtain ⟨c,w,c1,c2⟩:=sm.ex; obtain ⟨nd,hn⟩:=zcp hf
 have hpl:p.length<=9:=ok.len
 simp [rds]; refine ⟨t,_,rfl,sm,ok,hf,?_⟩; refine .inl ⟨_,_,rfl,cf.iR.cl,cf.nR1,_,rfl,?_⟩; refine .inl ⟨_,_,rfl,cf.iR.cl,cf.nR2,_,rfl,?_⟩; simp only [dnC,zu hn] at q
 exact ⟨t,p,ws,nd,c,9,rfl,w,by omega,by omega,hn,q⟩
theorem zgU:FnScope ["self","tree"] ["self","tree"] (zf zaM):=sc0
theorem zhf {f:Addr} {fd:FuncData} (F:Fun K "done" "PutIn.done" zaM f fd) (bd:zbi K fd ["self","tree"] []) (hm:Meth K T.PutIn "done" f) (cl:Cls K T.PutIn) (cf:CF K T) (G_with_kid:Fn P w K mg base 4 "with_kid" ["tree","place","node"] zdy) (G_refuse_unfit:Fn P w K mg base 5 "refuse_unfit" ["change","tree"] (zW T)):Mth P w K mg base 6 T.PutIn "done" ["self","tree"] (zbs T):=by
 refine ⟨f,fd,PL.Fun.ok' F zgU (fun ds Q h=>?_) (fun cdv A outer s H E hr ds Q h=>⟨_,(zc (zci (zx G_refuse_unfit (hr.mono (by decide)) (za (pv' 0) (za (pv' 1) zb))))
  (ze (zh (zx G_with_kid (hr.mono (by decide)) (za (pv' 1) (za (zA (pv' 0)) (za (zA (pv' 0)) zb))))))),?_⟩),bd,hm,cl⟩
 ·obtain ⟨t,p,k,rfl,_⟩:=h
  rfl
 obtain ⟨t,p,k,rfl,sm,ok,hf,q⟩:=h; obtain ⟨c,w,c1,c2⟩:=sm.ex; obtain ⟨nd,hn,hk,_⟩:=zey hf
 have hpl:p.length<=9:=ok.len
 simp [rds]; refine ⟨t,_,rfl,sm,ok,hf,?_⟩; refine .inl ⟨_,_,rfl,cf.iP.cl,cf.nP1,_,rfl,?_⟩; refine .inl ⟨_,_,rfl,cf.iP.cl,cf.nP2,_,rfl,?_⟩; simp only [dnC,zu hn] at q
 exact ⟨t,p,k,nd,c,9,rfl,w,by omega,by omega,hn,hk,(ok.put p k rfl).1,q⟩
theorem zeM:FnScope ["self","tree"] ["self","tree"] (zf zag):=sc0
theorem zeN {f:Addr} {fd:FuncData} (F:Fun K "done" "LeaveOut.done" zag f fd) (bd:zbi K fd ["self","tree"] []) (hm:Meth K T.LeaveOut "done" f) (cl:Cls K T.LeaveOut) (cf:CF K T) (G_without:Fn P w K mg base 4 "without" ["tree","place"] zeh) (G_refuse_unfit:Fn P w K mg base 5 "refuse_unfit" ["change","tree"] (zW T)):Mth P w K mg base 6 T.LeaveOut "done" ["self","tree"] (zaH T):=by
 refine ⟨f,fd,PL.Fun.ok' F zeM (fun ds Q h=>?_) (fun cdv A outer s H E hr ds Q h=>⟨_,(zc (zci (zx G_refuse_unfit (hr.mono (by decide)) (za (pv' 0) (za (pv' 1) zb))))
  (ze (zh (zx G_without (hr.mono (by decide)) (za (pv' 1) (za (zA (pv' 0)) zb)))))),?_⟩),bd,hm,cl⟩
 ·obtain ⟨t,p,rfl,_⟩:=h
  rfl
 obtain ⟨t,p,rfl,sm,ok,hf,q⟩:=h; obtain ⟨c,w,c1,c2⟩:=sm.ex; obtain ⟨h0,nd,ab,hn,hab⟩:=zez hf
 have hpl:p.length<=9:=ok.len
 simp [rds]; refine ⟨t,_,rfl,sm,ok,hf,?_⟩; refine .inl ⟨_,_,rfl,cf.iL.cl,cf.nL1,_,rfl,?_⟩; simp only [dnC,zu hab] at q
 exact ⟨t,p,nd,ab,c,9,rfl,w,by omega,by omega,h0,hn,hab,q⟩
theorem zbM:FnScope ["self","tree","words","begin","end"] ["self","tree"] (zf za2):=sc0
theorem zij {f:Addr} {fd:FuncData} (F:Fun K "done" "Swap.done" za2 f fd) (bd:zbi K fd ["self","tree"] []) (hm:Meth K T.Swap "done" f) (cl:Cls K T.Swap) (cf:CF K T) (G_node_at:Fn P w K mg base 2 "node_at" ["tree","place"] zH) (G_with_words:Fn P w K mg base 4 "with_words" ["tree","place","words"] zbp) (G_refuse_unfit:Fn P w K mg base 5 "refuse_unfit" ["change","tree"] (zW T)) (G_spots:Fn P w K mg base 1 "spots" ["words","old"] zeR) (z_len:mg "len"=none):Mth P w K mg base 6 T.Swap "done" ["self","tree"] (zbI T):=by
 refine ⟨f,fd,PL.Fun.ok' F zbM (fun ds Q h=>?_) (fun cdv A outer s H E hr ds Q h=>⟨_,(zc (zci (zx G_refuse_unfit (hr.mono (by decide)) (za (pv' 0) (za (pv' 1) zb))))
  (zc (zm 2 zbM.nd (zl (i_A (zr hr)) (zx G_node_at (hr.mono (by decide)) (za (pv' 1) (za (zA (pv' 0)) zb))) zd))
  (zc (zm 3 zbM.nd (zl (i_A (zr hr)) (zx G_spots (hr.mono (by decide)) (za (pv' 2) (za (zA (pv' 0)) zb))) zd))
  (zc (zm 4 zbM.nd (zk zR (pv' 3) (zt zaF z_len PySem.boot_len (za (zA (pv' 0)) zb))))
  (ze (zh (zx G_with_words (hr.mono (by decide)) (za (pv' 1) (za (zA (pv' 0)) (za (zk zR (zk zR (zbg s_A (pv' 2) zd2 (zb0 (pv' 3))) (zA (pv' 0))) (zbg s_A (pv' 2) (zb0 (pv' 4)) zd2)) zb)))))))))),?_⟩),bd,hm,cl⟩
 ·obtain ⟨t,p,o,n,rfl,_⟩:=h
  rfl
 obtain ⟨t,p,o,n,rfl,sm,ok,hf,q⟩:=h; obtain ⟨c,w,c1,c2⟩:=sm.ex; obtain ⟨nd,hn,h1⟩:=zco hf
 have hpl:p.length<=9:=ok.len
 obtain ⟨ho,hnl⟩:=ok.sw p o n rfl; obtain ⟨b,hb⟩:=List.length_eq_one_iff.mp h1
 have hbl:=znF nd.wds o b (by rw [hb]; simp)
 have hw:=(w.at hn).2.wfew; simp [rds]; refine ⟨t,_,rfl,sm,ok,hf,?_⟩; refine .inl ⟨_,_,rfl,cf.iS.cl,cf.nS1,_,rfl,?_⟩; refine ⟨t,p,rfl,?_⟩; rw [hn]; simp [zf0,Res.toD]; refine .inl ⟨_,_,rfl,cf.iS.cl,cf.nS2,_,zhi _ _ _,?_⟩
 refine ⟨nd.wds,o,rfl,by omega,by omega,?_⟩
 rw [hb]; simp [Res.toD]; refine .inl ⟨_,_,rfl,cf.iS.cl,cf.nS2,_,zhi _ _ _,?_⟩; simp; refine .inl ⟨_,_,rfl,cf.iS.cl,cf.nS1,_,rfl,?_⟩; refine .inl ⟨_,_,rfl,cf.iS.cl,cf.nS3,_,zoy _ _ _,?_⟩
 have l1:(nd.wds.take b).length<=460:=by rw [List.length_take]; omega
 have l2:(nd.wds.drop (b+o.length)).length<=460:=by rw [List.length_drop]; omega
 rw [zjK,show ((b:Int)+(o.length:Int))=((b+o.length:Nat):Int) by omega,ziL,zdV]
 refine ⟨small (by omega),?_⟩
 rw [zdV]
 refine ⟨small (by rw [List.length_append]; omega),?_⟩
 simp only [dnC,zu hn,zr1 hb] at q
 exact ⟨t,p,_,nd,c,9,rfl,w,by omega,by omega,hn,q⟩
theorem zcI:FnScope ["self","tree","node","kids"] ["self","tree"] (zf zaI):=sc0
theorem zil {f:Addr} {fd:FuncData} (F:Fun K "done" "Anew.done" zaI f fd) (bd:zbi K fd ["self","tree"] []) (hm:Meth K T.Anew "done" f) (cl:Cls K T.Anew) (cf:CF K T) (G_node_at:Fn P w K mg base 2 "node_at" ["tree","place"] zH) (G_with_node:Fn P w K mg base 3 "with_node" ["tree","place","node"] zas) (G_refuse_unfit:Fn P w K mg base 5 "refuse_unfit" ["change","tree"] (zW T)) (z_enumerate:mg "enumerate"=none) (z_str:mg "str"=none) (z_tuple:mg "tuple"=none):Mth P w K mg base 6 T.Anew "done" ["self","tree"] (zbK T):=by
 refine ⟨f,fd,PL.Fun.ok' F zcI (fun ds Q h=>?_) (fun cdv A outer s H E hr ds Q h=>⟨_,(zc (zci (zx G_refuse_unfit (hr.mono (by decide)) (za (pv' 0) (za (pv' 1) zb))))
  (zc (zm 2 zcI.nd (zx G_node_at (hr.mono (by decide)) (za (pv' 1) (za (zA (pv' 0)) zb))))
  (zc (zj8 3 zcI.nd (zj7 (fsc:=zf zaI) (N:=["self","tree","node","kids"]) (N':=["number","kid"]) (src:=[none,none]) (by refine ⟨rfl,?_,?_,?_,rfl,rfl⟩ <;> decide +kernel) (zqu z_enumerate (za (zl (i_A (zr hr)) (pv' 2) zd) zb)) (fun _ _ _ _ _ _=>(zqw (n:=2) (zh4 (zY 0 (show (["number","kid"]:List Str).Nodup by decide +kernel)) (zh4 (zY 1 (show (["number","kid"]:List Str).Nodup by decide +kernel)) zoa)))) (fun _ _ _ _ _ _=>zeX) (fun _ _ _ _ _ _=>(zw (za (zaq zty z_str PyProof.Rows.boot_str (za (pv' 0) zb)) (za (zl (i_A (zr hr)) (pv' 1) zd) (za (zl (i_A (zr hr)) (pv' 1) zd) zb)))))))
  (ze (zh (zx G_with_node (hr.mono (by decide)) (za (pv' 1) (za (zA (pv' 0)) (za (zw (za (zl (i_A (zr hr)) (pv' 2) zd) (za (zl (i_A (zr hr)) (pv' 2) zd) (za (zaq zeB z_tuple PyProof.Rows.boot_tuple (za (pv' 3) zb)) zb)))) zb))))))))),?_⟩),bd,hm,cl⟩
 ·obtain ⟨t,p,rfl,_⟩:=h
  rfl
 obtain ⟨t,p,rfl,sm,ok,hf,q⟩:=h; obtain ⟨c,w,c1,c2⟩:=sm.ex; obtain ⟨nd,hn⟩:=zc6 hf
 have hpl:p.length<=9:=ok.len
 have wn:=(w.at hn).2; have hfw:=wn.few; simp [rds]; refine ⟨t,_,rfl,sm,ok,hf,?_⟩; refine .inl ⟨_,_,rfl,cf.iA.cl,cf.nA1,_,rfl,?_⟩; refine ⟨t,p,rfl,?_⟩; rw [hn]; simp [zf0,Res.toD]
 refine ⟨by rw [zfU,List.length_map]; exact small (by omega),zlq (by omega) ?_⟩
 refine .inl ⟨_,_,rfl,cf.iA.cl,cf.nA1,_,rfl,?_⟩
 have e:D.tup [D.str nd.lab,plc nd.wds,D.tup ((zbD 1 nd.kds).map trD)]=trD (.node nd.lab nd.wds (zbD 1 nd.kds)):=by rw [zaj]; rfl
 rw [e]
 refine ⟨t,p,_,rfl,by omega,by rw [hn]; rfl,zkr w (by omega),?_⟩
 rw [zcP w hn]; simp only [dnC,zu hn] at q; exact q
end
end K25
namespace K25
open PySem L2 Lb PL MT M04 MS M70 M71 M72 M74 M76 M25
def ndD (ns:Nd):List (D × D):=ns.map fun x=>(plc x.1,plc x.2)
def zL:Sp':=fun ds Q=>∃ c:Int,ds=[.int c]/\∀ l,zy l=true->Q (.val (.str l))
def zaY:Sp':=fun ds Q=>∃ c:Int,ds=[.int c]/\∀ l,Q (.val (.str l))
def zak:Sp':=fun ds Q=>∃ c:Int,ds=[.int c]/\∀ ws:Pl,ws.length<=4->Q (.val (plc ws))
def zcZ:Sp':=fun ds Q=>∃ l,ds=[.str l]/\zy l=true/\Q (.val (keyD l))
instance:MSp zL:=⟨fun _ _ _ h ⟨c,e,q⟩=>⟨c,e,fun l z=>h _ (q l z)⟩⟩
instance:MSp zaY:=⟨fun _ _ _ h ⟨c,e,q⟩=>⟨c,e,fun l=>h _ (q l)⟩⟩
instance:MSp zak:=⟨fun _ _ _ h ⟨c,e,q⟩=>⟨c,e,fun l z=>h _ (q l z)⟩⟩
@[simp] theorem sz5:5<=sizeLine:=small (by decide)
@[simp] theorem sz8:8<=sizeLine:=small (by decide)
section
variable {P:Program} {w:World} {K:W.Frag} {mg:Str->Option Value} {base:Heap}
theorem zeD:FnScope ["_law_cell","_law_number"] ["_law_cell"] (zf zdD):=sc0
theorem zig (d:Df K mg "_law_label" zdD ["_law_cell"]) (z_str:mg "str"=none):Fn P w K mg base 1 "_law_label" ["_law_cell"] zL:=by
 refine d.ok zeD (fun ds Q h=>?_) (fun f cdv A outer s H E hr ds Q h=>⟨_,(zc (zm 1 zeD.nd (zl (i_A (zr hr)) (zbB (zdY (za zd (za zd (za zd (za zd (za (zk zR zd (zk zbl (zk zkg (zk zaN (pv' 0) zd) zd) zd)) zb))))))) (zk zbl (pv' 0) zd)))
  (ze (zh (zk zR (zaq zty z_str PyProof.Rows.boot_str (za (pv' 1) zb)) (zl (i_A (zr hr)) (zbB (zdY (za (zD []) (za (zD [97]) (za (zD []) (za (zD [98]) (za (zD [97,97]) (za (zD []) (za (zD [97,122]) (za (zD [122,122,122]) zb)))))))))) (zk zbl (zk zaN (pv' 0) zd) zd)))))),?_⟩)
 ·obtain ⟨c,rfl,_⟩:=h
  rfl
 obtain ⟨c,rfl,hq⟩:=h; simp [rds,zni,zpa]
 obtain ⟨d,e1,m1⟩:=zeH [D.int 1,D.int 2,D.int 3,D.int 10,D.int (1+c / 40 * 48271 % 999999999)] (md (i:=c) (n:=5) (by decide)).1 (md (i:=c) (n:=5) (by decide)).2
 have hm:=md (i:=c / 40 * 48271) (n:=999999999) (by decide)
 have hd:∃ n:Int,d=.int n/\1<=n/\n<10 ^ 9:=by
  simp only [List.mem_cons,List.not_mem_nil,or_false] at m1
  rcases m1 with rfl | rfl | rfl | rfl | rfl
  ·exact ⟨_,rfl,by omega,by omega⟩
  ·exact ⟨_,rfl,by omega,by omega⟩
  ·exact ⟨_,rfl,by omega,by omega⟩
  ·exact ⟨_,rfl,by omega,by omega⟩
  ·exact ⟨_,rfl,by omega,by omega⟩
 obtain ⟨n,rfl,h0,h1⟩:=hd; refine ⟨.int n,e1,?_⟩; rw [zp9]
 refine ⟨zio (by omega) (by omega),?_⟩
 obtain ⟨x,e2,m2⟩:=zeH [D.str [],D.str [97],D.str [],D.str [98],D.str [97,97],D.str [],D.str [97,122],D.str [122,122,122]] (md (i:=c / 5) (n:=8) (by decide)).1 (md (i:=c / 5) (n:=8) (by decide)).2
 have hx:∃ l:List Nat,x=.str l/\l.length<=3/\∀ c ∈ l,sml c=true:=by
  simp only [List.mem_cons,List.not_mem_nil,or_false] at m2
  rcases m2 with rfl | rfl | rfl | rfl | rfl | rfl | rfl | rfl <;> exact ⟨_,rfl,by decide,by decide⟩
 obtain ⟨l,rfl,hl,hs⟩:=hx; refine ⟨.str l,e2,?_⟩; rw [zl8]; obtain ⟨n1,n2,n3,n4⟩:=M11.num_lab h0 h1
 exact ⟨small (by omega),hq _ (M11.lab_of n1 n2 n3 n4 hs hl)⟩
theorem zbA:FnScope ["_law_cell","_law_word_here","_law_k","_law_at"] ["_law_cell"] (zf zel):=sc0
theorem zjp (d:Df K mg "_law_word" zel ["_law_cell"]) (z_range:mg "range"=none):Fn P w K mg base 1 "_law_word" ["_law_cell"] zaY:=by
 refine d.ok zbA (fun ds Q h=>?_) (fun f cdv A outer s H E hr ds Q h=>⟨_,(zc (zm 1 zbA.nd (zl (i_A (zr hr)) (zD [97,98,49,122]) (zk zbl (pv' 0) zd)))
  (zc (zch (zc3 z_range (za (zl (i_A (zr hr)) (zbB (zdY (za zd (za zd (za zd (za zd zb)))))) (zk zbl (zk zaN (pv' 0) zd) zd)) zb)) (zY 2 zbA.nd)
   (zc (zm 3 zbA.nd (zk zR (zk zaN (pv' 0) zd) (zk zkg (pv' 2) (zk zR zd (zk zbl (zk zaN (pv' 0) zd) zd)))))
  (ze (zm 1 zbA.nd (zk zR (pv' 1) (zl (i_A (zr hr)) (zD wsg) (zk zbl (pv' 3) zd)))))))
  (ze (zh (pv' 1))))),?_⟩)
 ·obtain ⟨c,rfl,_⟩:=h
  rfl
 obtain ⟨c,rfl,hq⟩:=h; simp [rds,zni]
 obtain ⟨z,e1,m1⟩:=zeH [97,98,49,122] (md (i:=c) (n:=4) (by decide)).1 (md (i:=c) (n:=4) (by decide)).2
 refine ⟨z,e1,?_⟩
 obtain ⟨d,e2,m2⟩:=zeH [D.int 0,D.int 0,D.int 1,D.int 11] (md (i:=c / 4) (n:=4) (by decide)).1 (md (i:=c / 4) (n:=4) (by decide)).2
 have hd:∃ n:Int,d=.int n/\0<=n/\n<=11:=by
  simp only [List.mem_cons,List.not_mem_nil,or_false] at m2
  rcases m2 with rfl | rfl | rfl | rfl <;> exact ⟨_,rfl,by omega,by omega⟩
 obtain ⟨n,rfl,h0,h1⟩:=hd
 refine ⟨_,e2,n,rfl,by omega,by omega,?_⟩
 refine zfS (fun i Γ=>∃ (l:List Nat) (s2 s3:Slot),Γ=[.val (.int c),.val (.str l),s2,s3]/\l.length=1+i) ⟨[z],.emp,.emp,rfl,rfl⟩ ?_ ?_
 ·rintro i d Γ hd ⟨l,s2,s3,rfl,hl⟩
  rw [List.getElem?_map] at hd
  have hi:i<n.toNat:=by
   cases hc:(List.range n.toNat)[i]? with
   | none=>rw [hc] at hd; cases hd
   | some k=>simpa using (List.getElem?_eq_some_iff.mp hc).1
  rw [List.getElem?_range hi] at hd; cases hd
  have hm:=md (i:=c / 5) (n:=7) (by decide)
  simp [rds,zni]
  refine ⟨.inr ⟨by omega,by omega⟩,?_⟩
  obtain ⟨y,e3,m3⟩:=zeH wsg (md (i:=c / 16+↑i * (1+c / 5 % 7)) (n:=36) (by decide)).1 (md (i:=c / 16+↑i * (1+c / 5 % 7)) (n:=36) (by decide)).2
  exact ⟨small (by decide),⟨y,e3⟩,small (by omega),by omega⟩
 ·rintro Γ ⟨l,s2,s3,rfl,hl⟩
  simp [rds]; exact hq l
theorem zhQ:FnScope ["_law_cell"] ["_law_cell"] (zf zce):=sc0
theorem zic (d:Df K mg "_law_words" zce ["_law_cell"]) (G_law_word:Fn P w K mg base 1 "_law_word" ["_law_cell"] zaY) (z_range:mg "range"=none) (z_tuple:mg "tuple"=none):Fn P w K mg base 2 "_law_words" ["_law_cell"] zak:=by
 refine d.ok zhQ (fun ds Q h=>?_) (fun f cdv A outer s H E hr ds Q h=>⟨_,(ze (zh (zaq zeB z_tuple PyProof.Rows.boot_tuple (za (zbB (zet (fsc:=zf zce) (N:=["_law_cell"]) (N':=["_law_k","_law_cell"]) (src:=[none,some 0]) (by refine ⟨rfl,?_,?_,?_,rfl,rfl⟩ <;> decide +kernel) (zc3 z_range (za (zk zbl (pv' 0) zd) zb)) (fun _ _ _ _ _ _=>(zY 0 (show (["_law_k","_law_cell"]:List Str).Nodup by decide +kernel))) (fun _ _ _ _ _ _=>zeX) (fun _ _ _ _ _ _=>(zx G_law_word (hr.mono (by decide)) (za (zk zR (zk zaN (pv' 1) zd) (zk zkg (pv' 0) (zk zR zd (zk zbl (zk zaN (pv' 1) zd) zd)))) zb))))) zb)))),?_⟩)
 ·obtain ⟨c,rfl,_⟩:=h
  rfl
 obtain ⟨c,rfl,hq⟩:=h; simp [rds,zaY]
 have hm:=md (i:=c) (n:=5) (by decide)
 have h5:5<=sizeLine:=sz5
 refine ⟨by omega,by omega,by omega,?_⟩
 refine zdL (fun i acc Γ=>∃ (ws:Pl) (s0:Slot),acc=ws.map .str/\ws.length=i/\Γ=[s0,.val (.int c)]) ⟨[],.emp,rfl,rfl,rfl⟩ ?_ ?_
 ·rintro i d acc Γ hd ⟨ws,s0,rfl,hl,rfl⟩
  rw [List.getElem?_map] at hd
  have hi:i<(c % 5).toNat:=by
   cases hc:(List.range (c % 5).toNat)[i]? with
   | none=>rw [hc] at hd; cases hd
   | some k=>simpa using (List.getElem?_eq_some_iff.mp hc).1
  rw [List.getElem?_range hi] at hd; cases hd
  have hm2:=md (i:=c / 20) (n:=3) (by decide)
  simp [rds,zni,zaY]
  refine ⟨.inr ⟨by omega,by omega⟩,fun l=>⟨ws ++ [l],by simp,by simp; omega⟩⟩
 ·rintro acc Γ ⟨ws,s0,rfl,hl,rfl⟩
  rw [List.length_map,List.length_range] at hl
  exact hq ws (by omega)
theorem zej:FnScope ["_law_label_here","_law_at"] ["_law_label_here"] (zf zfn):=sc0
theorem zlb (d:Df K mg "_law_key" zfn ["_law_label_here"]) (z_int:mg "int"=none) (z_len:mg "len"=none):Fn P w K mg base 1 "_law_key" ["_law_label_here"] zcZ:=by
 refine d.ok zej (fun ds Q h=>?_) (fun f cdv A outer s H E hr ds Q h=>⟨_,(zc (zm 1 zej.nd zd)
  (zc (zfp (PW'.pt (zg3 (zo zs1 (pv' 1) (zt zaF z_len PySem.boot_len (za (pv' 0) zb))) (zeV (zo (zvd (zr hr)) (zl (i_A (zr hr)) (pv' 0) (pv' 1)) (zD zuc)))))
   (ze (zm 1 zej.nd (zk zR (pv' 1) zd))))
  (ze (zh (zw (za (zaq zpL z_int PyProof.Rows.boot_int (za (zbg s_A (pv' 0) zd2 (zb0 (pv' 1))) zb)) (za (zbg s_A (pv' 0) (zb0 (pv' 1)) zd2) zb))))))),?_⟩)
 ·obtain ⟨l,rfl,_⟩:=h
  rfl
 obtain ⟨l,rfl,hl,hq⟩:=h; obtain ⟨m,n,hm,m1,m9,ml,l12,tk,dr,cd,tf,rd,kf⟩:=ziw hl; simp [rds]
 refine ze8 (fun Γ=>∃ k:Nat,k<=m/\Γ=[.val (.str l),.val (.int k)]) (fun Γ=>match Γ with | [_,.val (.int k)]=>m-k.toNat | _=>0) ⟨0,Nat.zero_le _,rfl⟩ ?_
 rintro Γ ⟨k,hk,rfl⟩
 simp [rds]
 have hs:l.length<=sizeLine:=small (by omega)
 have fin:k=m->zsq [D.str (l.take k)] fun d=>l.length<=sizeLine/\Q (.val (.tup [d,.str (l.drop k)])):=by
  rintro rfl
  rw [tk,dr]
  refine .inl ⟨cut l,n,rfl,rd,by omega,hs,?_⟩
  unfold keyD at hq; rw [kf] at hq; exact hq
 refine ⟨hs,?_⟩
 by_cases e:l.length<=k
 ·exact .inl ⟨e,hs,fin (by omega)⟩
 ·have hg:l[k]?=some (l[k]'(by omega)):=List.getElem?_eq_getElem (by omega)
  refine .inr ⟨by omega,hs,_,zcU hg,?_⟩
  by_cases e2:k=m
  ·refine .inl ⟨?_,hs,fin e2⟩
   have:l[k]'(by omega) ∈ zdw l:=by
    rw [<- dr]; refine List.mem_of_getElem? (i:=0) ?_; rw [List.getElem?_drop,Nat.add_zero,<- e2]; exact hg
   have:=tf _ this
   simpa [dig] using this
  ·refine .inr ⟨?_,⟨k+1,by omega,by simp⟩,by omega⟩
   have:l[k]'(by omega) ∈ cut l:=by
    rw [<- tk]; refine List.mem_of_getElem? (i:=k) ?_
    rw [List.getElem?_take_of_lt (by omega)]
    exact hg
   have:=cd _ this
   simpa [dig] using this
end
open Classical in
theorem zhx {ns:Nd} {p:Pl} (h:p ∈ keys ns):zbm (ndD ns) (plc p)=some (plc (zhG ns p)):=by
 unfold zhG zbm ndD
 induction ns with
 | nil=>cases h
 | cons x r ih =>
  obtain ⟨a,b⟩:=x
  by_cases e:p=a
  ·subst e
   simp
  ·have h':p ∈ keys r:=by
    rcases List.mem_cons.mp h with z | z
    ·exact absurd z e
    ·exact z
   have ne:¬ plc a=plc p:=fun z=>e (zfq z).symm
   have ne2:(p == a)=false:=beq_eq_false_iff_ne.mpr e
   simp only [List.map_cons,List.lookup_cons,ne2]; rw [List.find?_cons]; simp only [ne,decide_false]; exact ih h'
theorem zkH {q:Pl} (h:q≠[]):atI (q.map D.str) (-1)=some (.str (zaO q)):=by
 have e:=List.dropLast_concat_getLast h
 have e2:zaO q=q.getLast h:=by unfold zaO; rw [List.getLast?_eq_some_getLast h]; rfl
 rw [e2]
 conv=>lhs; rw [<- e,List.map_append,List.map_singleton]
 exact zkJ _ _
theorem znA {ns:Nd} (o:NOk ns) {n:Nat} {p:Pl} (h8:8<=p.length+n):trD (zbd n ns p)=.tup [.str (zaO p),plc (zhG ns p),.tup ((zbt ns p).map fun q=>trD (zbd (n-1) ns q))]:=by
 cases n with
 | zero =>
  rw [zit o (by omega)]
  rw [zaj]; rfl
 | succ n =>
  rw [zaj]
  show D.tup [_,_,.tup (((zbt ns p).map (zbd n ns)).map trD)]=_
  rw [List.map_map]; rfl
def zgi:D->D->Prop:=fun d k=>∃ q:Pl,d=plc q/\q≠[]/\zy (zaO q)=true/\k=keyD (zaO q)
def zau:Nat->Sp'
 | 0=>fun _ _=>False
 | n+1=>fun ds Q=>∃ ns p,ds=[.dit (ndD ns),plc p]/\NOk ns/\p ∈ keys ns/\8<=p.length+n/\Q (.val (trD (zbd n ns p)))
instance {n:Nat}:MSp (zau n):=⟨fun _ _ _ h q=>by
 cases n with
 | zero=>exact q
 | succ n =>
  obtain ⟨ns,p,a,b,c,d,q⟩:=q; exact ⟨ns,p,a,b,c,d,h _ q⟩⟩
section
variable {P:Program} {w:World} {K:W.Frag} {mg:Str->Option Value} {base:Heap}
theorem zaZ:FnScope ["_law_nodes_here","_law_place_here","_law_kids","_law_label_here"] ["_law_nodes_here","_law_place_here"] (zf zaz):=sc0
theorem zjr (d:Df K mg "_law_tree" zaz ["_law_nodes_here","_law_place_here"]) (G_law_key:Fn P w K mg base 1 "_law_key" ["_law_label_here"] zcZ) (z_len:mg "len"=none) (z_sorted:mg "sorted"=none) (z_tuple:mg "tuple"=none) (lo:LamOf K mg base "_law_tree" "_law_tree.<locals>.<lambda>"):∀ n:Nat,Fn P w K mg base (n+5) "_law_tree" ["_law_nodes_here","_law_place_here"] (zau n):=by
 intro n
 induction n with
 | zero=>exact d.okL lo (k:=4) zaZ (fun ds Q h=>(show False from h).elim) (fun f cdv A outer s H E la hr ds Q h=>(show False from h).elim)
 | succ n ih =>
 have G_law_tree:Fn P w K mg base (n+5) "_law_tree" ["_law_nodes_here","_law_place_here"] (zau n):=ih
 refine d.okL lo (k:=n+5) zaZ (fun ds Q h=>?_) (fun f cdv A outer s H E la hr ds Q h=>⟨_,(zc (zj8 2 zaZ.nd (zj7 (fsc:=zf zaz) (N:=["_law_nodes_here","_law_place_here","_law_kids","_law_label_here"]) (N':=["_law_other","_law_place_here"]) (src:=[none,some 1]) (by refine ⟨rfl,?_,?_,?_,rfl,rfl⟩ <;> decide +kernel) (zn9 (pv' 0)) (fun _ _ _ _ _ _=>(zY 0 (show (["_law_other","_law_place_here"]:List Str).Nodup by decide +kernel))) (fun _ _ _ _ _ _=>(zeW (PW'.pt (zg3 (zo (zbh (zaE hr)) (zt zaF z_len PySem.boot_len (za (pv' 0) zb)) (zk zR (zt zaF z_len PySem.boot_len (za (pv' 1) zb)) zd)) (zeV (zo (zbh (zaE hr)) (zbg s_A (pv' 0) zd2 (zb0 zck)) (pv' 1))))))) (fun _ _ _ _ _ _=>(pv' 0))))
  (zc (zm 2 zaZ.nd (zbB (zn3 (k:=1) (N:=["_law_kid"]) (ps:=["_law_kid"]) (sp:=zpX zgi) la ⟨rfl,rfl,rfl,by decide +kernel,rfl,by decide +kernel,by decide +kernel⟩ (zlT _)
   (fun f c A outer s H E hr ds Q h=>⟨_,(zx G_law_key (hr.mono (by omega)) (za (zl (i_A (zr hr)) (pv' 0) zck) zb)),?lam1⟩) (fun _ _ _ us hl=>match us,hl with | [_],_=>rfl) (hr.mono (by omega)) z_sorted (za (pv' 2) zb))))
  (zc (zm 3 zaZ.nd (zD []))
  (zc (zB (zo (zop (zaE hr)) (pv' 1) (zw zb)) (ze (zm 3 zaZ.nd (zl (i_A (zr hr)) (pv' 1) zck))) zn)
  (ze (zh (zw (za (pv' 3) (za (zl (i_A (zr hr)) (pv' 0) (pv' 1)) (za (zaq zeB z_tuple PyProof.Rows.boot_tuple (za (zbB (zet (fsc:=zf zaz) (N:=["_law_nodes_here","_law_place_here","_law_kids","_law_label_here"]) (N':=["_law_kid","_law_nodes_here"]) (src:=[none,some 0]) (by refine ⟨rfl,?_,?_,?_,rfl,rfl⟩ <;> decide +kernel) (zcj (pv' 2)) (fun _ _ _ _ _ _=>(zY 0 (show (["_law_kid","_law_nodes_here"]:List Str).Nodup by decide +kernel))) (fun _ _ _ _ _ _=>zeX) (fun _ _ _ _ _ _=>(zx G_law_tree (hr.mono (by omega)) (za (pv' 1) (za (pv' 0) zb)))))) zb)) zb)))))))))),?_⟩)
 case lam1 =>
  obtain ⟨d,k,rfl,⟨q,rfl,hn,hp,rfl⟩,hq⟩:=h
  simp [rds,zcZ]; exact ⟨_,zkH hn,_,rfl,hp,hq⟩
 ·obtain ⟨ns,p,rfl,_⟩:=h
  rfl
 obtain ⟨ns,p,rfl,o,hp,h8,hq⟩:=h; simp [rds]
 have hnl:(ndD ns).length<=60:=by unfold ndD; rw [List.length_map]; exact o.many
 have hkeys:List.map (fun x=>x.fst) (ndD ns)=(keys ns).map plc:=by unfold ndD keys; rw [List.map_map,List.map_map]; rfl
 refine ⟨small (by omega),?_⟩
 rw [hkeys]
 refine zdL (fun i acc Γ=>∃ s0,acc=((((keys ns).take i).filter fun q=>decide (q.length=p.length+1) && decide (q.dropLast=p)).map plc)/\Γ=[s0,.val (plc p)]) ⟨.emp,rfl,rfl⟩ ?_ ?_
 ·rintro i d acc Γ hd ⟨s0,rfl,rfl⟩
  rw [List.getElem?_map] at hd
  cases hc:(keys ns)[i]? with
  | none=>rw [hc] at hd; cases hd
  | some q =>
   rw [hc] at hd; cases hd; have hq8:=o.len q (List.mem_of_getElem? hc); have hp8:=o.len p hp; rw [List.take_succ,hc]; simp [rds,List.filter_append,zec]
   by_cases h1:q.length=p.length+1
   ·refine .inr ⟨by omega,?_⟩
    by_cases h2:q.dropLast=p
    ·exact .inr ⟨h2,by simp [h1,h2]⟩
    ·exact .inl ⟨h2,fun _=>h2⟩
   ·exact .inl ⟨by omega,fun z=>absurd z h1⟩
 ·rintro acc Γ ⟨s0,rfl,rfl⟩
  rw [show List.take (List.map plc (keys ns)).length (keys ns)=keys ns from List.take_of_length_le (by rw [List.length_map]; exact Nat.le_refl _)]
  rw [show List.filter (fun q:Pl=>decide (q.length=p.length+1) && decide (q.dropLast=p)) (keys ns)=zb1 ns p from rfl]
  have hkl:(zb1 ns p).length<=60:=by
   have h1:=List.length_filter_le (fun q:Pl=>decide (q.length=p.length+1) && decide (q.dropLast=p)) (keys ns)
   have h2:(keys ns).length<=60:=by unfold keys; rw [List.length_map]; exact o.many
   unfold zb1; omega
  have hkc:∀ R:List D->Prop,R ((zbt ns p).map fun q=>trD (zbd (n-1) ns q))->zcW (zac 0) zi1 (zbe (zau n) (zad (zJ 1) (zad (zJ 0) zbx))) R ((zbt ns p).map plc) [] [Slot.emp,Slot.val (D.dit (ndD ns))]:=by
   intro R hR
   refine zdL (fun i acc Γ=>∃ s0,acc=(((zbt ns p).take i).map fun q=>trD (zbd (n-1) ns q))/\Γ=[s0,.val (D.dit (ndD ns))]) ⟨.emp,rfl,rfl⟩ ?_ ?_
   ·rintro i d acc Γ hd ⟨s0,rfl,rfl⟩
    rw [List.getElem?_map] at hd
    cases hc:(zbt ns p)[i]? with
    | none=>rw [hc] at hd; cases hd
    | some q =>
     rw [hc] at hd; cases hd; have hm:=List.mem_of_getElem? hc; have hql:=zfK hm
     cases n with
     | zero =>
      rw [zit o (by omega)] at hm
      cases hm
     | succ n =>
      simp [rds,zau]
      refine ⟨ns,q,⟨rfl,rfl⟩,o,(zbc.mp hm).1,by omega,?_⟩
      rw [List.take_succ,List.getElem?_map,hc]; rfl
   ·rintro acc Γ ⟨s0,rfl,rfl⟩
    rw [show List.take (List.map plc (zbt ns p)).length (zbt ns p)=zbt ns p from List.take_of_length_le (by rw [List.length_map]; exact Nat.le_refl _)]
    exact hR
  have hlen:(zbt ns p).length=(zb1 ns p).length:=zlS (zh6 _) _ _
  refine ⟨by rw [List.length_map]; omega,(zb1 ns p).map (fun q=>keyD (zaO q)),by simp,fun i x k h1 h2=>?_,ltP ((zb1 ns p).map zua),.inr ⟨(zb1 ns p).map zua,by rw [List.map_map]; rfl,rfl⟩,?_⟩
  ·rw [List.getElem?_map] at h1 h2
   cases hc:(zb1 ns p)[i]? with
   | none=>rw [hc] at h1; cases h1
   | some q =>
    rw [hc] at h1 h2; cases h1; cases h2; obtain ⟨m1,m2⟩:=zfE.mp (List.mem_of_getElem? hc)
    refine znG ⟨q,rfl,fun z=>?_,o.lab q m1 _ ?_,rfl⟩
    ·have:=congrArg List.length m2
     rw [z] at this
     simp at this
    ·rw [m2,zex]
     simp
  ·rw [zpV plc [] (zb1 ns p) (zh6 _)]
   rw [show srt (ltP ((zb1 ns p).map zua)) [] (zb1 ns p)=zbt ns p from rfl]
   rw [znA o h8] at hq
   by_cases hp0:p=[]
   ·refine .inl ⟨hp0,zj5 p (ndD ns) (zhx hp) ⟨small (by rw [List.length_map]; omega),hkc _ ?_⟩⟩
    subst hp0; exact hq
   ·exact .inr ⟨hp0,_,zkH hp0,zj5 p (ndD ns) (zhx hp) ⟨small (by rw [List.length_map]; omega),hkc _ hq⟩⟩
end
end K25
namespace K25
open PySem L2 Lb PL MT M04 MS M70 M71 M72 M74 M76 M25
structure NW (ns:Nd):Prop where
 ok:NOk ns
 wd:∀ x ∈ ns,x.2.length<=4
def GE (es:List (D × D)):Prop:=es≠[]/\es.length<=1000/\∀ q ∈ es,∃ p ws:Pl,q=(plc p,plc ws)/\p.length<=8
def zuo:Cg->D
 | .swap p o n=>.tup [.str [115,119,97,112],plc p,plc o,plc n]
 | .read p w=>.tup [.str [114,101,97,100],plc p,plc w]
 | .put p k=>.tup [.str [112,117,116],plc p,trD k]
 | .out p=>.tup [.str [111,117,116],plc p]
 | .anew p=>.tup [.str [97,110,101,119],plc p]
def zbG:Sp':=fun ds Q=>∃ es c,ds=[.dit es,.int c]/\GE es/\∀ p:Pl,p.length<=9->Q (.val (plc p))
def zbq:Sp':=fun ds Q=>∃ es c m,ds=[.dit es,.int c,.int m]/\GE es/\∀ ch:Cg,Ok ch->Q (.val (zuo ch))
def zb7 (T:Cs):Sp':=fun ds Q=>∃ ch,ds=[zuo ch]/\Q (.val (chD T ch))
def zcC:Sp':=fun ds Q=>∃ cs:List Int,ds=[.lst (cs.map .int)]/\cs.length<=50/\∀ ns,NW ns->Q (.own (.dit (ndD ns)))
instance:MSp zbq:=⟨fun _ _ _ h ⟨c,d,f,e,z,q⟩=>⟨c,d,f,e,z,fun l z=>h _ (q l z)⟩⟩
instance {T:Cs}:MSp (zb7 T):=⟨fun _ _ _ h ⟨c,e,q⟩=>⟨c,e,h _ q⟩⟩
open Classical in
theorem zo2 {es:List (D × D)} {k v:D} {q:D × D} (h:q ∈ zhE es k v):q ∈ es\/q=(k,v):=by
 unfold zhE at h; split at h
 ·obtain ⟨p,hp,e⟩:=List.mem_map.mp h
  split at e
  ·rename_i z
   rw [<- e,z]; exact .inr rfl
  ·rw [<- e]
   exact .inl hp
 ·rcases List.mem_append.mp h with h | h
  ·exact .inl h
  ·exact .inr (by simpa using h)
open Classical in
theorem zo3 (es:List (D × D)) (k v:D):(zhE es k v).length<=es.length+1:=by
 unfold zhE; split
 ·rw [List.length_map]; omega
 ·rw [List.length_append]; simp
open Classical in
theorem zrs (es:List (D × D)) (k v:D) (h:es≠[]):zhE es k v≠[]:=by
 unfold zhE; split
 ·simpa using h
 ·simp
open Classical in
theorem ziJ {es:List (D × D)} {k v:D} (h:zbm es k=some v):(k,v) ∈ es:=by
 unfold zbm at h; obtain ⟨q,hq,e⟩:=Option.map_eq_some_iff.mp h; have h1:=List.mem_of_find?_eq_some hq; have h2:=List.find?_some hq; obtain ⟨a,b⟩:=q
 have h2':a=k:=by simpa using h2
 dsimp only at e
 rw [<- h2',<- e]; exact h1
theorem zm3 {α:Type} (xs:List α) (lo hi:Option Int):(zdt xs lo hi).length<=xs.length:=by
 unfold zdt; rw [List.length_take,List.length_drop]; omega
def putN (ns:Nd) (q ws:Pl):Nd:=if q ∈ keys ns then ns.map (fun x=>if x.1=q then (q,ws) else x) else ns ++ [(q,ws)]
theorem zkn (ns:Nd) (q ws:Pl):keys (putN ns q ws)=if q ∈ keys ns then keys ns else keys ns ++ [q]:=by
 unfold putN; split
 ·unfold keys
  rw [List.map_map]
  refine List.map_congr_left fun x _=>?_
  show (if x.1=q then (q,ws) else x).1=x.1
  split
  ·rename_i h; exact h.symm
  ·rfl
 ·simp [keys]
open Classical in
theorem zmY (ns:Nd) (q ws:Pl):zhE (ndD ns) (plc q) (plc ws)=ndD (putN ns q ws):=by
 have hs:(zbm (ndD ns) (plc q)).isSome=true↔q ∈ keys ns:=by
  constructor
  ·intro h
   obtain ⟨v,hv⟩:=Option.isSome_iff_exists.mp h; obtain ⟨y,hy,e⟩:=List.mem_map.mp (ziJ hv)
   injection e with e1 e2
   rw [<- zfq e1]; exact List.mem_map_of_mem hy
  ·intro h
   rw [zhx h]; rfl
 unfold zhE putN
 by_cases e:q ∈ keys ns
 ·rw [if_pos (hs.mpr e),if_pos e]
  unfold ndD; rw [List.map_map,List.map_map]
  refine List.map_congr_left fun x _=>?_
  show (if plc x.1=plc q then (plc x.1,plc ws) else (plc x.1,plc x.2))=(plc (if x.1=q then (q,ws) else x).1,plc (if x.1=q then (q,ws) else x).2)
  by_cases z:x.1=q
  ·rw [if_pos (by rw [z]),if_pos z,z]
  ·rw [if_neg (fun y=>z (zfq y)),if_neg z]
 ·rw [if_neg (fun z=>e (hs.mp z)),if_neg e]
  simp [ndD]
theorem zsv {ns:Nd} (o:NOk ns) {q ws:Pl} (hl:ns.length<=59) (h8:q.length<=8) (hu:q.dropLast ∈ keys ns) (hlab:∀ l,l ∈ q->zy l=true):NOk (putN ns q ws):=by
 have hk:=zkn ns q ws
 have hlen:(putN ns q ws).length<=ns.length+1:=by
  unfold putN; split
  ·rw [List.length_map]; omega
  ·simp
 by_cases e:q ∈ keys ns
 ·rw [if_pos e] at hk
  exact ⟨by rw [hk]; exact o.nil,by rw [hk]; exact o.nd,by rw [hk]; exact o.len,by rw [hk]; exact o.up,by rw [hk]; exact o.lab,by omega⟩
 ·rw [if_neg e] at hk
  refine ⟨by rw [hk]; simp [o.nil],?_,fun x hx=>?_,fun x hx=>?_,fun x hx=>?_,by omega⟩
  ·rw [hk,List.nodup_append]
   refine ⟨o.nd,by simp,fun a ha b hb=>?_⟩
   rw [show b=q by simpa using hb]
   exact fun z=>e (z ▸ ha)
  all_goals
   rw [hk] at hx
   rcases List.mem_append.mp hx with h | h
  ·exact o.len x h
  ·rw [show x=q by simpa using h]; exact h8
  ·rw [hk]; simp [o.up x h]
  ·rw [hk,show x=q by simpa using h]; simp [hu]
  ·exact o.lab x h
  ·rw [show x=q by simpa using h]; exact hlab
theorem zwH (wo:Pl) (m:Int):(zdt wo (some (m % 3)) (some (m % 3+1+m / 3 % 2))).length<=2:=by
 have h1:=md (i:=m) (n:=3) (by decide)
 have h2:=md (i:=m / 3) (n:=2) (by decide)
 unfold zdt; rw [List.length_take,List.length_drop]; unfold HT.sIx; simp
 rw [if_neg (by omega),if_neg (by omega)]
 omega
theorem zpj {ns:Nd} (o:NW ns) {q ws:Pl} (hw:ws.length<=4) (hl:ns.length<=59) (h8:q.length<=8) (hu:q.dropLast ∈ keys ns) (hlab:∀ l,l ∈ q->zy l=true):NW (putN ns q ws):=by
 refine ⟨zsv o.ok hl h8 hu hlab,fun x hx=>?_⟩
 unfold putN at hx; split at hx
 ·obtain ⟨y,hy,e⟩:=List.mem_map.mp hx
  rw [<- e]; split
  ·exact hw
  ·exact o.wd y hy
 ·rcases List.mem_append.mp hx with z | z
  ·exact o.wd x z
  ·rw [List.mem_singleton.mp z]; exact hw
section
variable {P:Program} {w:World} {K:W.Frag} {mg:Str->Option Value} {base:Heap} {T:Cs}
theorem zaw:FnScope ["_law_cells","_law_nodes_here","_law_made_here","_law_cell","_law_above","_law_place_here"] ["_law_cells"] (zf zdC):=sc0
theorem zif (d:Df K mg "_law_nodes" zdC ["_law_cells"]) (G_law_label:Fn P w K mg base 1 "_law_label" ["_law_cell"] zL) (G_law_words:Fn P w K mg base 2 "_law_words" ["_law_cell"] zak) (z_len:mg "len"=none):Fn P w K mg base 3 "_law_nodes" ["_law_cells"] zcC:=by
 refine d.ok zaw (fun ds Q h=>?_) (fun f cdv A outer s H E hr ds Q h=>⟨_,(zc (zeY 1 zaw.nd (zn4 (zr hr) (zw zb) (zw (za (zD [97,108,108]) zb))))
  (zc (zeY 2 zaw.nd (zdY (za (zw zb) zb)))
  (zc (zch (zcj (pv' 0)) (zY 3 zaw.nd)
   (zc (zm 4 zaw.nd (zqC (zl (i_A (zr hr)) (pv' 2) (zk zbl (zk zR (zk zaN (pv' 3) zd) (zk zbl (pv' 3) zd)) (zt zaF z_len PySem.boot_len (za (pv' 2) zb))))))
  (zc (zm 5 zaw.nd (zk zR (pv' 4) (zw (za (zx G_law_label (hr.mono (by decide)) (za (zk zaN (pv' 3) zd) zb)) zb))))
  (zc (zB (PW'.pt (zj6 (zo zs2 (zt zaF z_len PySem.boot_len (za (pv' 5) zb)) zd) (zg2 (zo (zbh (zaE hr)) (zk zbl (pv' 3) zd) zd)))) (ze (zm 5 zaw.nd (pv' 4))) zn)
  (zc (zB (zma (zo (zor (zr hr)) (pv' 5) (pv' 1))) (ze (zgv 2 (pv' 5))) zn)
  (ze (znZ (zr hr) 1 (pv' 5) (zx G_law_words (hr.mono (by decide)) (za (zk zaN (pv' 3) zd) zb)))))))))
  (ze (zj9 1))))),?_⟩)
 ·obtain ⟨cs,rfl,_⟩:=h
  rfl
 obtain ⟨cs,rfl,hl,hq⟩:=h; simp [zdN,zbQ,zda,zdx,zac,zJ,tC',zf6,zcX,tB',zgN,zff,zlN,zdn,zf2,zdf,zjV,zbx,zad,zeJ,zf5,zjW,znj,zkP,zeK,zkR,zf7,zfQ,zdr,zdq,zcq,zbe,zi1,zbn,zdg,zdi,zfb,zcx,zfe,zcz,zdm,zdd,zdk,zfc,zcQ,zlK,zds,zcy,zf3,zdj,zc9,zeO,zb2,zeP,zf4,zdh,zdP,zgO,zb5,zde,zbP,zfd,zkQ,zaG,zcv,zcw,zbo,zfa,zdl,zgk,zcB,zf1,zcA,zf6,znl,zL,zak]; refine ⟨Imm.plc _,Imm.plc _,⟨[],rfl⟩,?_⟩
 refine zfS (fun i Γ=>∃ (ns:Nd) (mp:List Pl) (s3 s4 s5:Slot),Γ=[.val (.lst (cs.map .int)),.own (.dit (ndD ns)),.own (.lst (mp.map plc)),s3,s4,s5]/\NW ns/\ns.length<=1+i/\mp≠[]/\mp.length<=1+i/\∀ p ∈ mp,p ∈ keys ns)
  ⟨[([],[[97,108,108]])],[[]],_,_,_,rfl,⟨⟨by simp [keys],by simp [keys],by simp [keys],by simp [keys],by simp [keys],by simp⟩,by simp⟩,by simp,by simp,by simp,by simp [keys]⟩ ?_ ?_
 ·rintro i d Γ hd ⟨ns,mp,s3,s4,s5,rfl,o,hle,hmp,hml,hma⟩
  have hi:i<cs.length:=by simpa using (List.getElem?_eq_some_iff.mp hd).1
  rw [List.getElem?_map,List.getElem?_eq_getElem hi] at hd; cases hd
  have hpos:0<mp.length:=List.length_pos_iff.mpr hmp
  have hp0:=md (i:=cs[i] / 120+cs[i] % 120) (n:=mp.length) hpos
  obtain ⟨d,e1,m1⟩:=zeH (mp.map plc) hp0.1 (by rw [List.length_map]; exact hp0.2)
  obtain ⟨p,mq,rfl⟩:=List.mem_map.mp m1; have hpk:=hma p mq; have hp8:=o.ok.len p hpk; simp [zdN,zbQ,zda,zdx,zac,zJ,tC',zf6,zcX,tB',zgN,zff,zlN,zdn,zf2,zdf,zjV,zbx,zad,zeJ,zf5,zjW,znj,zkP,zeK,zkR,zf7,zfQ,zdr,zdq,zcq,zbe,zi1,zbn,zdg,zdi,zfb,zcx,zfe,zcz,zdm,zdd,zdk,zfc,zcQ,zlK,zds,zcy,zf3,zdj,zc9,zeO,zb2,zeP,zf4,zdh,zdP,zgO,zb5,zde,zbP,zfd,zkQ,zaG,zcv,zcw,zbo,zfa,zdl,zgk,zcB,zf1,zcA,zf6,znl,zni,zL,zak]; refine ⟨hpos,plc p,e1,Imm.plc p,?_⟩
  have hnl:(ndD ns).length=ns.length:=by unfold ndD; rw [List.length_map]
  have hsE:(ndD ns).length<sizeLine:=zbz (by omega)
  have hsM:mp.length<sizeLine:=zbz (by omega)
  have fl:∀ q ws:Pl,(putN ns q ws).length<=1+(i+1):=fun q ws=>by
   have:(putN ns q ws).length<=ns.length+1:=by
    unfold putN; split
    ·rw [List.length_map]; omega
    ·simp
   omega
  have fk:∀ (q ws r:Pl),r ∈ keys ns\/r=q->r ∈ keys (putN ns q ws):=fun q ws r h=>by
   rw [zkn]
   rcases h with z | z
   ·split
    ·exact z
    ·simp [z]
   ·split
    ·rename_i y; rw [z]; exact y
    ·simp [z]
  have finA:∀ q ws:Pl,ws.length<=4->q.length<=8->q.dropLast ∈ keys ns->(∀ l,l ∈ q->zy l=true)->∃ (ns':Nd) (mp2:List Pl),(zhE (ndD ns) (plc q) (plc ws)=ndD ns'/\List.map plc mp=List.map plc mp2)/\NW ns'/\ns'.length<=1+(i+1)/\¬ mp2=[]/\mp2.length<=1+(i+1)/\∀ r:Pl,r ∈ mp2->r ∈ keys ns':=fun q ws hw4 h1 h2 h3 =>
   ⟨putN ns q ws,mp,⟨zmY _ _ _,rfl⟩,zpj o hw4 (by omega) h1 h2 h3,fl q ws,hmp,by omega,fun r hr=>fk q ws r (.inl (hma r hr))⟩
  have finB:∀ q ws:Pl,ws.length<=4->q.length<=8->q.dropLast ∈ keys ns->(∀ l,l ∈ q->zy l=true)->∃ (ns':Nd) (mp2:List Pl),(zhE (ndD ns) (plc q) (plc ws)=ndD ns'/\List.map plc mp ++ [plc q]=List.map plc mp2)/\NW ns'/\ns'.length<=1+(i+1)/\¬ mp2=[]/\mp2.length<=1+(i+1)/\∀ r:Pl,r ∈ mp2->r ∈ keys ns':=fun q ws hw4 h1 h2 h3 =>
   ⟨putN ns q ws,mp ++ [q],⟨zmY _ _ _,by simp⟩,zpj o hw4 (by omega) h1 h2 h3,fl q ws,by simp,by simp; omega,fun r hr=>fk q ws r (by
    rcases List.mem_append.mp hr with z | z
    ·exact .inl (hma r z)
    ·exact .inr (by simpa using z))⟩
  have hpu:=o.ok.up p hpk; have hpl:=o.ok.lab p hpk; intro l hlab; rw [zdV]
  refine ⟨small (by simp; omega),?_⟩
  simp
  by_cases h8:8<=p.length
  ·refine .inr ⟨by omega,zdG _ _ ?_⟩
   cases (zbm (ndD ns) (plc p)).isSome <;> simp
   ·exact ⟨hsM,fun ws hws=>⟨⟨zct p,zbX p⟩,hsE,finB p ws hws hp8 hpu hpl⟩⟩
   ·exact fun ws hws=>⟨⟨zct p,zbX p⟩,hsE,finA p ws hws hp8 hpu hpl⟩
  ·refine .inl ⟨by omega,?_⟩
   by_cases h7:cs[i] % 7=6
   ·refine .inr ⟨h7,zdG _ _ ?_⟩
    cases (zbm (ndD ns) (plc p)).isSome <;> simp
    ·exact ⟨hsM,fun ws hws=>⟨⟨zct p,zbX p⟩,hsE,finB p ws hws hp8 hpu hpl⟩⟩
    ·exact fun ws hws=>⟨⟨zct p,zbX p⟩,hsE,finA p ws hws hp8 hpu hpl⟩
   ·have h1:(p ++ [l]).length<=8:=by simp; omega
    have h2:(p ++ [l]).dropLast ∈ keys ns:=by rw [List.dropLast_concat]; exact hpk
    have h3:∀ x,x ∈ p ++ [l]->zy x=true:=fun x hx=>by
     rcases List.mem_append.mp hx with z | z
     ·exact hpl x z
     ·rw [show x=l by simpa using z]; exact hlab
    refine .inl ⟨h7,zdG _ _ ?_⟩
    cases (zbm (ndD ns) (plc (p ++ [l]))).isSome <;> simp
    ·exact ⟨hsM,fun ws hws=>⟨⟨zct (p ++ [l]),zbX (p ++ [l])⟩,hsE,finB (p ++ [l]) ws hws h1 h2 h3⟩⟩
    ·exact fun ws hws=>⟨⟨zct (p ++ [l]),zbX (p ++ [l])⟩,hsE,finA (p ++ [l]) ws hws h1 h2 h3⟩
 ·rintro Γ ⟨ns,mp,s3,s4,s5,rfl,o,hle,hmp,hml,hma⟩
  simp [zdN,zbQ,zda,zdx,zac,zJ,tC',zf6,zcX,tB',zgN,zff,zlN,zdn,zf2,zdf,zjV,zbx,zad,zeJ,zf5,zjW,znj,zkP,zeK,zkR,zf7,zfQ,zdr,zdq,zcq,zbe,zi1,zbn,zdg,zdi,zfb,zcx,zfe,zcz,zdm,zdd,zdk,zfc,zcQ,zlK,zds,zcy,zf3,zdj,zc9,zeO,zb2,zeP,zf4,zdh,zdP,zgO,zb5,zde,zbP,zfd,zkQ,zaG,zcv,zcw,zbo,zfa,zdl,zgk,zcB,zf1,zcA,zf6,znl]; exact hq ns o
theorem zcF:FnScope ["_law_nodes_here","_law_cell","_law_some","_law_place_here"] ["_law_nodes_here","_law_cell"] (zf zdA):=sc0
theorem zid (d:Df K mg "_law_place" zdA ["_law_nodes_here","_law_cell"]) (G_law_label:Fn P w K mg base 1 "_law_label" ["_law_cell"] zL) (z_len:mg "len"=none) (z_list:mg "list"=none):Fn P w K mg base 2 "_law_place" ["_law_nodes_here","_law_cell"] zbG:=by
 refine d.ok zcF (fun ds Q h=>?_) (fun f cdv A outer s H E hr ds Q h=>⟨_,(zc (zm 2 zcF.nd (zbB (zk4 (zrB rfl) z_list PyProof.Rows.boot_list (za (pv' 0) zb))))
  (zc (zm 3 zcF.nd (zl (i_A (zr hr)) (pv' 2) (zk zbl (zk zR (zk zaN (pv' 1) zd) (zk zkg (zk zbl (pv' 1) zd) zd)) (zt zaF z_len PySem.boot_len (za (pv' 2) zb)))))
  (zc (zB (zo (zbh (zaE hr)) (zk zbl (pv' 1) zd) zd) (ze (zh (zk zR (zbg s_A (pv' 3) zd2 (zb0 zck)) (zw (za (zx G_law_label (hr.mono (by decide)) (za (zk zaN (pv' 1) zd) zb)) zb))))) zn)
  (zc (zB (PW'.pt (zg3 (zo (zbh (zaE hr)) (zk zbl (pv' 1) zd) zd) (zeV (zo zs1 (zt zaF z_len PySem.boot_len (za (pv' 3) zb)) zd)))) (ze (zh (zk zR (pv' 3) (zw (za (zx G_law_label (hr.mono (by decide)) (za (zk zaN (pv' 1) zd) zb)) zb))))) zn)
  (ze (zh (pv' 3))))))),?_⟩)
 ·obtain ⟨es,c,rfl,_⟩:=h
  rfl
 obtain ⟨es,c,rfl,hes,hq⟩:=h; simp [rds,zL,zni,zpa]; obtain ⟨hne,hle,hall⟩:=hes
 have hpos:0<es.length:=List.length_pos_iff.mpr hne
 obtain ⟨d,e1,m1⟩:=zeH (es.map (·.1)) (md (i:=c / 4+c % 4 * 3) (n:=es.length) hpos).1 (by rw [List.length_map]; exact (md (i:=c / 4+c % 4 * 3) (n:=es.length) hpos).2)
 obtain ⟨q,mq,rfl⟩:=List.mem_map.mp m1; obtain ⟨p,ws,rfl,hp⟩:=hall q mq; refine ⟨hpos,plc p,e1,?_⟩
 by_cases h3:c % 4=3
 ·refine .inr ⟨h3,?_⟩
  simp only [zj4,zec]; intro l _; rw [zdV]
  have:p.dropLast.length<=8:=by rw [List.length_dropLast]; omega
  exact ⟨small (by simp; omega),hq _ (by simp; omega)⟩
 ·refine .inl ⟨h3,?_⟩
  by_cases h6:c % 16=6
  ·refine .inr ⟨h6,?_⟩
   simp
   by_cases h8:p.length<8
   ·refine .inr ⟨by omega,fun l _=>⟨small (by omega),hq _ (by simp; omega)⟩⟩
   ·exact .inl ⟨by omega,hq _ (by omega)⟩
  ·exact .inl ⟨h6,hq _ (by omega)⟩
theorem zi9:FnScope ["_law_one"] ["_law_one"] (zf zen):=sc0
theorem zjs (d:Df K mg "_law_made" zen ["_law_one"]) (cf:CF K T) (M_Anew:Mak P w K mg base 1 "Anew" T.Anew ["place"]) (M_LeaveOut:Mak P w K mg base 1 "LeaveOut" T.LeaveOut ["place"]) (M_PutIn:Mak P w K mg base 1 "PutIn" T.PutIn ["place","node"]) (M_Read:Mak P w K mg base 1 "Read" T.Read ["place","words"]) (M_Swap:Mak P w K mg base 1 "Swap" T.Swap ["place","old","new"]):Fn P w K mg base 3 "_law_made" ["_law_one"] (zb7 T):=by
 refine d.ok zi9 (fun ds Q h=>?_) (fun f cdv A outer s H E hr ds Q h=>⟨_,(zc (zB (zo (zbh (zaE hr)) (zl (i_A (zr hr)) (pv' 0) zd) (zD [115,119,97,112])) (ze (zh (zd0 M_Swap (hr.mono (by decide)) (za (zl (i_A (zr hr)) (pv' 0) zd) (za (zl (i_A (zr hr)) (pv' 0) zd) (za (zl (i_A (zr hr)) (pv' 0) zd) zb)))))) zn)
  (zc (zB (zo (zbh (zaE hr)) (zl (i_A (zr hr)) (pv' 0) zd) (zD [114,101,97,100])) (ze (zh (zd0 M_Read (hr.mono (by decide)) (za (zl (i_A (zr hr)) (pv' 0) zd) (za (zl (i_A (zr hr)) (pv' 0) zd) zb))))) zn)
  (zc (zB (zo (zbh (zaE hr)) (zl (i_A (zr hr)) (pv' 0) zd) (zD [112,117,116])) (ze (zh (zd0 M_PutIn (hr.mono (by decide)) (za (zl (i_A (zr hr)) (pv' 0) zd) (za (zl (i_A (zr hr)) (pv' 0) zd) zb))))) zn)
  (zc (zB (zo (zbh (zaE hr)) (zl (i_A (zr hr)) (pv' 0) zd) (zD [111,117,116])) (ze (zh (zd0 M_LeaveOut (hr.mono (by decide)) (za (zl (i_A (zr hr)) (pv' 0) zd) zb)))) zn)
  (ze (zh (zd0 M_Anew (hr.mono (by decide)) (za (zl (i_A (zr hr)) (pv' 0) zd) zb)))))))),?_⟩)
 ·obtain ⟨ch,rfl,_⟩:=h
  rfl
 obtain ⟨ch,rfl,hq⟩:=h
 cases ch <;> simp [rds,zuo] <;> exact hq
theorem zam:FnScope ["_law_nodes_here","_law_cell","_law_more","_law_place_here","_law_old","_law_node","_law_k"] ["_law_nodes_here","_law_cell","_law_more"] (zf zcL):=sc0
theorem zhb (d:Df K mg "_law_change" zcL ["_law_nodes_here","_law_cell","_law_more"]) (G_law_label:Fn P w K mg base 1 "_law_label" ["_law_cell"] zL) (G_law_words:Fn P w K mg base 2 "_law_words" ["_law_cell"] zak) (G_law_place:Fn P w K mg base 2 "_law_place" ["_law_nodes_here","_law_cell"] zbG) (z_range:mg "range"=none):Fn P w K mg base 3 "_law_change" ["_law_nodes_here","_law_cell","_law_more"] zbq:=by
 refine d.ok zam (fun ds Q h=>?_) (fun f cdv A outer s H E hr ds Q h=>⟨_,(zc (zm 3 zam.nd (zx G_law_place (hr.mono (by decide)) (za (pv' 0) (za (zk zaN (pv' 1) zd) zb))))
  (zc (zB (zo (zbh (zaE hr)) (zk zbl (pv' 1) zd) zd) (zc (zm 4 zam.nd (zbg s_A (zof (zr hr) (pv' 0) (pv' 3) (zw zb)) (zb0 (zk zbl (pv' 2) zd)) (zb0 (zk zR (zk zR (zk zbl (pv' 2) zd) zd) (zk zbl (zk zaN (pv' 2) zd) zd)))))
  (zc (zB (zo (zbh (zaE hr)) (pv' 4) (zw zb)) (ze (zm 4 zam.nd (zk zR (zbg s_A (zx G_law_words (hr.mono (by decide)) (za (pv' 2) zb)) zd2 (zb0 zd)) (zw (za (zD [97]) zb))))) zn)
  (ze (zh (zw (za (zD [115,119,97,112]) (za (pv' 3) (za (pv' 4) (za (zx G_law_words (hr.mono (by decide)) (za (zk zaN (pv' 2) zd) zb)) zb))))))))) zn)
  (zc (zB (zo (zbh (zaE hr)) (zk zbl (pv' 1) zd) zd) (ze (zh (zw (za (zD [114,101,97,100]) (za (pv' 3) (za (zx G_law_words (hr.mono (by decide)) (za (pv' 2) zb)) zb)))))) zn)
  (zc (zB (zo (zbh (zaE hr)) (zk zbl (pv' 1) zd) zd) (zc (zm 5 zam.nd (zw (za (zx G_law_label (hr.mono (by decide)) (za (pv' 2) zb)) (za (zx G_law_words (hr.mono (by decide)) (za (zk zaN (pv' 2) zd) zb)) (za (zw zb) zb)))))
  (zc (zch (zc3 z_range (za (zl (i_A (zr hr)) (zbB (zdY (za zd (za zd (za zd (za zd zb)))))) (zk zbl (zk zaN (pv' 2) zd) zd)) zb)) (zY 6 zam.nd)
   (ze (zm 5 zam.nd (zw (za (zx G_law_label (hr.mono (by decide)) (za (zk zR (zk zaN (pv' 2) zd) (pv' 6)) zb)) (za (zw zb) (za (zw (za (pv' 5) zb)) zb)))))))
  (ze (zh (zw (za (zD [112,117,116]) (za (pv' 3) (za (pv' 5) zb)))))))) zn)
  (zc (zB (zo (zbh (zaE hr)) (zk zbl (pv' 1) zd) zd) (ze (zh (zw (za (zD [111,117,116]) (za (pv' 3) zb))))) zn)
  (ze (zh (zw (za (zD [97,110,101,119]) (za (pv' 3) zb)))))))))),?_⟩)
 ·obtain ⟨es,c,m,rfl,_⟩:=h
  rfl
 obtain ⟨es,c,m,rfl,hes,hq⟩:=h; simp [rds,zL,zak,zbG,zni]
 refine ⟨hes,fun p hp=>?_⟩
 by_cases h0:c % 5=0
 ·refine .inr ⟨h0,⟨zct p,zbX p⟩,?_⟩
  have hv:∃ ws:Pl,(zbm es (plc p)).getD (plc [])=plc ws:=by
   cases e:zbm es (plc p) with
   | none=>exact ⟨[],rfl⟩
   | some v =>
    obtain ⟨p',ws,e2,_⟩:=hes.2.2 _ (ziJ e)
    injection e2 with _ e2
    exact ⟨ws,e2⟩
  obtain ⟨wo,hv⟩:=hv; rw [hv,zj4,znV]
  by_cases he:zdt wo (some (m % 3)) (some (m % 3+1+m / 3 % 2))=[]
  ·refine .inr ⟨by simp [he],fun ws hws=>⟨small (by have:=zm3 ws none (some 2); omega),fun ws1 hws1=>?_⟩⟩
   exact hq (.swap p _ ws1) ⟨hp,nofun,nofun,fun _ _ _ z=>by cases z; exact ⟨by have:=zm3 ws none (some 2); simp; omega,by omega⟩⟩
  ·refine .inl ⟨by simp [he],fun ws hws=>?_⟩
   exact hq (.swap p _ ws) ⟨hp,nofun,nofun,fun _ _ _ z=>by cases z; exact ⟨by have:=zwH wo m; omega,by omega⟩⟩
 ·refine .inl ⟨h0,?_⟩
  by_cases h1:c % 5=1
  ·exact .inr ⟨h1,fun ws hws=>hq (.read p ws) ⟨hp,nofun,fun _ _ z=>by cases z; omega,nofun⟩⟩
  ·refine .inl ⟨h1,?_⟩
   by_cases h2:c % 5=2
   ·refine .inr ⟨h2,fun l hlab ws hws=>?_⟩
    obtain ⟨d,e2,m2⟩:=zeH [D.int 0,D.int 0,D.int 1,D.int 7] (md (i:=m / 5) (n:=4) (by decide)).1 (md (i:=m / 5) (n:=4) (by decide)).2
    have hd:∃ n:Int,d=.int n/\0<=n/\n<=7:=by
     simp only [List.mem_cons,List.not_mem_nil,or_false] at m2
     rcases m2 with rfl | rfl | rfl | rfl <;> exact ⟨_,rfl,by omega,by omega⟩
    obtain ⟨n,rfl,hn0,hn1⟩:=hd
    refine ⟨_,e2,n,rfl,by omega,by omega,?_⟩
    refine zfS (fun i Γ=>∃ (k:Tr) (s6:Slot),Γ=[.val (.dit es),.val (.int c),.val (.int m),.val (plc p),.emp,.val (trD k),s6]/\zy k.lab=true/\Wf 1 (i+1) k/\cnt k<=i+1) ⟨.node l ws [],_,by rw [zaj]; rfl,hlab,zmw (by omega),by rw [zkj]; simp⟩ ?_ ?_
    ·rintro i d Γ hd ⟨k0,s6,rfl,k1,k2,k3⟩
     rw [List.getElem?_map] at hd
     cases hc:(List.range n.toNat)[i]? with
     | none=>rw [hc] at hd; cases hd
     | some k =>
      rw [hc] at hd; cases hd; simp [rds,zni,zL]; intro l' hl'
      exact ⟨.node l' [] [k0],by rw [zaj (.node l' [] [k0])]; rfl,hl',.mk' (fun x hx=>by rw [List.mem_singleton.mp hx]; exact k2) (fun x hx=>by rw [List.mem_singleton.mp hx]; exact k1) (List.pairwise_singleton _ _) (by show 1<=_; omega) (by show 0<=_; omega),by rw [zkj]; simp; omega⟩
    ·rintro Γ ⟨k0,s6,rfl,k1,k2,k3⟩
     simp [rds]; rw [List.length_map,List.length_range] at k2 k3
     exact hq (.put p k0) ⟨hp,fun _ _ z=>by cases z; exact ⟨k1,⟨_,by omega,k2⟩,by omega⟩,nofun,nofun⟩
   ·refine .inl ⟨h2,?_⟩
    by_cases h3:c % 5=3
    ·exact .inr ⟨h3,hq (.out p) ⟨hp,nofun,nofun,nofun⟩⟩
    ·exact .inl ⟨h3,hq (.anew p) ⟨hp,nofun,nofun,nofun⟩⟩
end
end K25
namespace K25
open PySem L2 Lb PL MT M04 MS M70 M71 M72 M74 M76 M25
def zt9:M24.Knd->List Nat
 | .W=>[119,111,114,100,115]
 | .F=>[102,114,111,109,32,111,110]
 | .B=>[98,101,110,101,97,116,104]
def zmm (k:M24.Knd) (p:Pl):D:=.tup [.str (zt9 k),plc p]
def zcY (T:Cs):Sp':=fun ds Q=>∃ ch,ds=[chD T ch]/\(zsA ch).length<=9/\Q (.val (zmm (kd' ch) (gl' ch)))
def za8:Sp':=fun ds Q=>∃ k1 p1 k2 p2,ds=[zmm k1 p1,zmm k2 p2]/\Q (.val (.bl (M24.common k1 p1 k2 p2)))
def zaQ:Sp':=fun ds Q=>∃ k p q,ds=[zmm k p,plc q]/\Q (.val (.bl (M24.hasWords k p q)))
def zS:Sp':=fun ds Q=>∃ p q,ds=[plc p,plc q]/\Q (.val (.bl (M24.above p q)))
def zbH (T:Cs):Sp':=fun ds Q=>∃ c1 c2,ds=[chD T c1,chD T c2]/\(zsA c1).length<=9/\(zsA c2).length<=9/\Q (.val (.bl (!M24.common (kd' c1) (gl' c1) (kd' c2) (gl' c2))))
instance {T:Cs}:MSp (zbH T):=⟨fun _ _ _ h ⟨a,b,e,x,y,q⟩=>⟨a,b,e,x,y,h _ q⟩⟩
@[simp] theorem zuZ (k k':M24.Knd) (p p':Pl):zmm k p=zmm k' p'↔k=k'/\p=p':=by
 constructor
 ·intro h
  unfold zmm at h
  injection h with h
  injection h with h1 h2
  injection h2 with h2 _
  refine ⟨?_,zfq h2⟩
  injection h1 with h1
  cases k <;> cases k' <;> first | rfl | (exact absurd h1 (by decide))
 ·rintro ⟨rfl,rfl⟩
  rfl
@[simp] theorem zv3 (k:M24.Knd) (p:Pl) (Q:D->Prop):zeU (zmm k p) (.int 0) Q↔Q (.str (zt9 k)):=by simp [zmm]
@[simp] theorem zv2 (k:M24.Knd) (p:Pl) (Q:D->Prop):zeU (zmm k p) (.int 1) Q↔Q (plc p):=by simp [zmm]
@[simp] theorem zwS {α β γ:Type} {x:α} {y:β} {z:γ} {P:α->β->γ->Prop}:(∃ a b c,((x=a/\y=b)/\z=c)/\P a b c)↔P x y z:=⟨fun ⟨_,_,_,⟨⟨e1,e2⟩,e3⟩,h⟩=>e1 ▸ e2 ▸ e3 ▸ h,fun h=>⟨x,y,z,⟨⟨rfl,rfl⟩,rfl⟩,h⟩⟩
@[simp] theorem zwR {α β γ δ:Type} {x:α} {y:β} {z:γ} {u:δ} {P:α->β->γ->δ->Prop}:(∃ a b c d,((x=a/\y=b)/\z=c/\u=d)/\P a b c d)↔P x y z u:=⟨fun ⟨_,_,_,_,⟨⟨e1,e2⟩,e3,e4⟩,h⟩=>e1 ▸ e2 ▸ e3 ▸ e4 ▸ h,fun h=>⟨x,y,z,u,⟨⟨rfl,rfl⟩,rfl,rfl⟩,h⟩⟩
@[simp] theorem zs8 (x y:D):List.lookup ("node":Str) [(("place":Str),x),(("node":Str),y)]=some y:=by
 have h:(("node":Str) == "place")=false:=by decide +kernel
 simp [List.lookup,h]
section
variable {P:Program} {w:World} {K:W.Frag} {mg:Str->Option Value} {base:Heap} {T:Cs}
theorem zek:FnScope ["place","lower"] ["place","lower"] (zf zbk):=sc0
theorem zeu (d:Df K mg "is_at_or_above" zbk ["place","lower"]) (z_len:mg "len"=none):Fn P w K mg base 1 "is_at_or_above" ["place","lower"] zS:=by
 refine d.ok zek (fun ds Q h=>?_) (fun f cdv A outer s H E hr ds Q h=>⟨_,(ze (zh (zg7 (zbh (zaE hr)) (zbg s_A (pv' 1) zd2 (zb0 (zt zaF z_len PySem.boot_len (za (pv' 0) zb)))) (pv' 0)))),?_⟩)
 ·obtain ⟨p,q,rfl,_⟩:=h
  rfl
 obtain ⟨p,q,rfl,hq⟩:=h; simp [rds]; rw [zjK]; exact hq
theorem zfj:FnScope ["part","place"] ["part","place"] (zf zbW):=sc0
theorem zfx (d:Df K mg "has_words_of" zbW ["part","place"]) (G_is_at_or_above:Fn P w K mg base 1 "is_at_or_above" ["place","lower"] zS) {t_FROM_ON:Tok} (g_FROM_ON:mg "FROM_ON"=some (.str (st [102,114,111,109,32,111,110]) t_FROM_ON)) {t_WORDS:Tok} (g_WORDS:mg "WORDS"=some (.str (st [119,111,114,100,115]) t_WORDS)):Fn P w K mg base 2 "has_words_of" ["part","place"] zaQ:=by
 refine d.ok zfj (fun ds Q h=>?_) (fun f cdv A outer s H E hr ds Q h=>⟨_,(zc (zB (zo (zbh (zaE hr)) (zl (i_A (zr hr)) (pv' 0) zd) (zd1 g_WORDS)) (ze (zh (zg7 (zbh (zaE hr)) (zl (i_A (zr hr)) (pv' 0) zd) (pv' 1)))) zn)
  (zc (zB (zo (zbh (zaE hr)) (zl (i_A (zr hr)) (pv' 0) zd) (zd1 g_FROM_ON)) (ze (zh (zx G_is_at_or_above (hr.mono (by decide)) (za (zl (i_A (zr hr)) (pv' 0) zd) (za (pv' 1) zb))))) zn)
  (ze (zh (zqL (zg7 (zop (zaE hr)) (zl (i_A (zr hr)) (pv' 0) zd) (pv' 1)) (zmi (zx G_is_at_or_above (hr.mono (by decide)) (za (zl (i_A (zr hr)) (pv' 0) zd) (za (pv' 1) zb))))))))),?_⟩)
 ·obtain ⟨k,p,q,rfl,_⟩:=h
  rfl
 obtain ⟨k,p,q,rfl,hq⟩:=h; simp [rds,zS]
 cases k <;> simp [zt9]
 ·exact hq
 ·exact hq
 ·by_cases e:p=q
  ·exact .inl ⟨e,by simpa [M24.hasWords,e] using hq⟩
  ·exact .inr ⟨e,by simpa [M24.hasWords,e] using hq⟩
theorem zf8:FnScope ["one","other"] ["one","other"] (zf zcg):=sc0
theorem zge (d:Df K mg "have_common" zcg ["one","other"]) (G_has_words_of:Fn P w K mg base 2 "has_words_of" ["part","place"] zaQ) (G_is_at_or_above:Fn P w K mg base 1 "is_at_or_above" ["place","lower"] zS) {t_WORDS:Tok} (g_WORDS:mg "WORDS"=some (.str (st [119,111,114,100,115]) t_WORDS)):Fn P w K mg base 3 "have_common" ["one","other"] za8:=by
 refine d.ok zf8 (fun ds Q h=>?_) (fun f cdv A outer s H E hr ds Q h=>⟨_,(zc (zB (zo (zbh (zaE hr)) (zl (i_A (zr hr)) (pv' 0) zd) (zd1 g_WORDS)) (ze (zh (zx G_has_words_of (hr.mono (by decide)) (za (pv' 1) (za (zl (i_A (zr hr)) (pv' 0) zd) zb))))) zn)
  (zc (zB (zo (zbh (zaE hr)) (zl (i_A (zr hr)) (pv' 1) zd) (zd1 g_WORDS)) (ze (zh (zx G_has_words_of (hr.mono (by decide)) (za (pv' 0) (za (zl (i_A (zr hr)) (pv' 1) zd) zb))))) zn)
  (ze (zh (zsG (zx G_is_at_or_above (hr.mono (by decide)) (za (zl (i_A (zr hr)) (pv' 0) zd) (za (zl (i_A (zr hr)) (pv' 1) zd) zb))) (zmi (zx G_is_at_or_above (hr.mono (by decide)) (za (zl (i_A (zr hr)) (pv' 1) zd) (za (zl (i_A (zr hr)) (pv' 0) zd) zb))))))))),?_⟩)
 ·obtain ⟨k1,p1,k2,p2,rfl,_⟩:=h
  rfl
 obtain ⟨k1,p1,k2,p2,rfl,hq⟩:=h; simp [zdN,zbQ,zda,zdx,zac,zJ,tC',zf6,zcX,tB',zgN,zff,zlN,zdn,zf2,zdf,zjV,zbx,zad,zeJ,zf5,zjW,znj,zkP,zeK,zkR,zf7,zfQ,zdr,zdq,zcq,zbe,zi1,zbn,zdg,zdi,zfb,zcx,zfe,zcz,zdm,zdd,zdk,zfc,zcQ,zlK,zds,zcy,zf3,zdj,zc9,zeO,zb2,zeP,zf4,zdh,zdP,zgO,zb5,zde,zbP,zfd,zkQ,zaG,zcv,zcw,zbo,zfa,zdl,zgk,zcB,zf1,zcA,zf6,znl,zS,zaQ]
 have two:∀ a b:Bool,Q (.val (.bl (a || b)))->if a=true then Q (.val (.bl true)) else Q (.val (.bl b)):=fun a b z=>by cases a <;> simpa using z
 cases k1 <;> cases k2 <;> simp [zt9] <;> first | exact hq | exact two _ _ hq
theorem zkY:FnScope ["change"] ["change"] (zf zfl):=sc0
theorem zk9 (d:Df K mg "part_of" zfl ["change"]) (cf:CF K T) (z_isinstance:mg "isinstance"=none) {t_BENEATH:Tok} (g_BENEATH:mg "BENEATH"=some (.str (st [98,101,110,101,97,116,104]) t_BENEATH)) {t_FROM_ON:Tok} (g_FROM_ON:mg "FROM_ON"=some (.str (st [102,114,111,109,32,111,110]) t_FROM_ON)) {t_WORDS:Tok} (g_WORDS:mg "WORDS"=some (.str (st [119,111,114,100,115]) t_WORDS)) (m_Anew:mg "Anew"=some (.ref T.Anew)) (m_LeaveOut:mg "LeaveOut"=some (.ref T.LeaveOut)) (m_PutIn:mg "PutIn"=some (.ref T.PutIn)):Fn P w K mg base 1 "part_of" ["change"] (zcY T):=by
 refine d.ok zkY (fun ds Q h=>?_) (fun f cdv A outer s H E hr ds Q h=>⟨_,(zc (zB (zer (zt (zkF K rfl) z_isinstance PyProof.Rows.boot_isinstance (za (pv' 0) (za (zjl m_PutIn) zb)))) (ze (zh (zw (za (zd1 g_FROM_ON) (za (zk zR (zA (pv' 0)) (zw (za (zl (i_A (zr hr)) (zA (pv' 0)) zd) zb))) zb))))) zn)
  (zc (zB (zer (zt (zkF K rfl) z_isinstance PyProof.Rows.boot_isinstance (za (pv' 0) (za (zjl m_LeaveOut) zb)))) (ze (zh (zw (za (zd1 g_FROM_ON) (za (zA (pv' 0)) zb))))) zn)
  (zc (zB (zer (zt (zkF K rfl) z_isinstance PyProof.Rows.boot_isinstance (za (pv' 0) (za (zjl m_Anew) zb)))) (ze (zh (zw (za (zd1 g_BENEATH) (za (zA (pv' 0)) zb))))) zn)
  (ze (zh (zw (za (zd1 g_WORDS) (za (zA (pv' 0)) zb)))))))),?_⟩)
 ·obtain ⟨ch,rfl,_⟩:=h
  rfl
 obtain ⟨ch,rfl,hl,hq⟩:=h
 cases ch <;> simp [rds,chD,cf.iS,cf.iS.cl,cf.iR,cf.iR.cl,cf.iP,cf.iP.cl,cf.iL,cf.iL.cl,cf.iA,cf.iA.cl,cf.nS1,cf.nR1,cf.nP1,cf.nP2,cf.nL1,cf.nA1,cf.kSP,cf.kSL,cf.kSA,cf.kRP,cf.kRL,cf.kRA,cf.kPP,cf.kLP,cf.kLL,cf.kAP,cf.kAL,cf.kAA]
 ·exact hq
 ·exact hq
 ·exact ⟨small (by have:=hl; simp [zsA] at this; omega),hq⟩
 ·exact hq
 ·exact hq
theorem zhS:FnScope ["one","other"] ["one","other"] (zf zdF):=sc0
theorem zii (d:Df K mg "are_apart" zdF ["one","other"]) (cf:CF K T) (G_part_of:Fn P w K mg base 1 "part_of" ["change"] (zcY T)) (G_have_common:Fn P w K mg base 3 "have_common" ["one","other"] za8):Fn P w K mg base 4 "are_apart" ["one","other"] (zbH T):=by
 refine d.ok zhS (fun ds Q h=>?_) (fun f cdv A outer s H E hr ds Q h=>⟨_,(ze (zh (zqz (zx G_have_common (hr.mono (by decide)) (za (zx G_part_of (hr.mono (by decide)) (za (pv' 0) zb)) (za (zx G_part_of (hr.mono (by decide)) (za (pv' 1) zb)) zb)))))),?_⟩)
 ·obtain ⟨c1,c2,rfl,_⟩:=h
  rfl
 obtain ⟨c1,c2,rfl,h1,h2,hq⟩:=h; simp [zdN,zbQ,zda,zdx,zac,zJ,tC',zf6,zcX,tB',zgN,zff,zlN,zdn,zf2,zdf,zjV,zbx,zad,zeJ,zf5,zjW,znj,zkP,zeK,zkR,zf7,zfQ,zdr,zdq,zcq,zbe,zi1,zbn,zdg,zdi,zfb,zcx,zfe,zcz,zdm,zdd,zdk,zfc,zcQ,zlK,zds,zcy,zf3,zdj,zc9,zeO,zb2,zeP,zf4,zdh,zdP,zgO,zb5,zde,zbP,zfd,zkQ,zaG,zcv,zcw,zbo,zfa,zdl,zgk,zcB,zf1,zcA,zf6,znl,zcY,za8]; refine ⟨c1,rfl,h1,c2,rfl,h2,hq⟩
end
end K25
namespace K25
open PySem L2 Lb PL MT M04 MS M70 M71 M72 M74 M76 M25
def Kk (q:D × D):Prop:=∃ p ws:Pl,q=(plc p,plc ws)/\p.length<=8
def zbf:Nat->SpA
 | 0=>fun _ _ _ _=>False
 | n+1=>fun b o ds Q=>∃ t p c es,o=.dit es/\ds=[trD t,plc p]/\Wf c (n+1) t/\c<=500/\p.length+dpt t<=9/\es.length+cnt t<=900/\(∀ q ∈ es,Kk q)/\∀ es',es'≠[]->es'.length<=es.length+cnt t->(∀ q ∈ es',Kk q)->Q (.adr b) (.dit es')
instance {n:Nat}:MSpA (zbf n):=⟨fun _ _ _ _ _ h q=>by
 cases n with
 | zero=>exact q
 | succ n =>
  obtain ⟨t,p,c,es,a1,a2,a3,a4,a5,a6,a7,q⟩:=q
  exact ⟨t,p,c,es,a1,a2,a3,a4,a5,a6,a7,fun es' x y z=>h _ _ (q es' x y z)⟩⟩
def zb6 (T:Cs):Sp':=fun ds Q=>∃ t ch,ds=[chD T ch,trD t]/\Sm t/\Ok ch/\Q (.val (rD (rs t ch)))
def zb8 (T:Cs):Sp':=fun ds Q=>∃ t a b c,ds=[trD t,chD T a,chD T b]/\Wf c 9 t/\1<=c/\c<=140/\cnt t<=2900/\Ok a/\Ok b/\Apart a b/\∀ t',Wf (c+4) 9 t'->cnt t'<=cnt t+18->Q (.val (trD t'))
instance {T:Cs}:MSp (zb8 T):=⟨fun _ _ _ h ⟨t,a,b,c,e,a1,a2,a3,a4,a5,a6,a7,q⟩=>⟨t,a,b,c,e,a1,a2,a3,a4,a5,a6,a7,fun t' x y=>h _ (q t' x y)⟩⟩
theorem zmX (es:List (D × D)) (k v:D):zhE es k v≠[]:=by
 by_cases e:es=[]
 ·subst e
  simp [zhE,zbm]
 ·exact zrs es k v e
theorem zhU {K:W.Frag} {o:Option (List Nat)} {Q:Res->Prop} (q:Q (.val (rD o))):(fun r:Res=>zeE false r.toD D.non fun d=>(d=D.bl false/\zjg K [r.toD,D.ty "str"] fun d=>d=D.bl false/\Q (Res.val (D.int 0))\/d=D.bl true/\Q (Res.val r.toD))\/d=D.bl true/\Q (Res.val r.toD)) (Res.val (rD o)):=by
 cases o with
 | none=>simpa [zeE,Res.toD,rD] using q
 | some l=>simpa [zeE,Res.toD,rD] using q
section
variable {P:Program} {w:World} {K:W.Frag} {mg:Str->Option Value} {base:Heap} {T:Cs}
theorem zcG:FnScope ["_law_tree_here","_law_place_here","_law_found","_law_kid"] ["_law_tree_here","_law_place_here","_law_found"] (zf zdB):=sc0
theorem zie (d:Df K mg "_law_noted" zdB ["_law_tree_here","_law_place_here","_law_found"]):∀ n:Nat,FnA P w K mg base (n+1) "_law_noted" ["_law_tree_here","_law_place_here","_law_found"] 2 (zbf n):=by
 intro n
 induction n with
 | zero=>exact d.okA (k:=0) zcG (fun b o ds Q h=>(show False from h).elim) (fun f cdv A outer s H E hr b o ds Q h=>(show False from h).elim)
 | succ n ih =>
 have G_law_noted:FnA P w K mg base (n+1) "_law_noted" ["_law_tree_here","_law_place_here","_law_found"] 2 (zbf n):=ih
 refine d.okA (k:=n+1) zcG (fun b o ds Q h=>?_) (fun f cdv A outer s H E hr b o ds Q h=>⟨_,(zc (zn0 (zr hr) 2 (pv' 1) (zl (i_A (zr hr)) (pv' 0) zd))
  (zc (zch (zcj (zl (i_A (zr hr)) (pv' 0) zd)) (zY 3 zcG.nd)
   (ze (zci (zoi G_law_noted (hr.mono (by omega)) (zme (pv' 3) (zme (zk zR (pv' 1) (zw (za (zl (i_A (zr hr)) (pv' 3) zd) zb))) (zqr 2 zb)))))))
  (ze (zh (zqy 2))))),?_⟩)
 ·obtain ⟨t,p,c,es,rfl,rfl,_⟩:=h
  rfl
 obtain ⟨t,p,c,es,rfl,rfl,w,hc,hd,hl,hk,hq⟩:=h; have hcp:=zdu t
 have hp8:p.length<=8:=by have:=zfV t; omega
 simp [rds,zbo]
 refine ⟨⟨zct p,zbX p⟩,zbz (by omega),?_⟩
 refine zfS (fun i Γ=>∃ es2 s3,Γ=[.val (trD t),.val (plc p),.bk (fun z=>z) b (.dit es2),s3]/\es2≠[]/\es2.length<=es.length+1+((t.kds.take i).map cnt).sum/\∀ q ∈ es2,Kk q) ⟨_,_,rfl,zmX _ _ _,zo3 _ _ _,fun q hqq=>?_⟩ ?_ ?_
 ·rcases zo2 hqq with z | z
  ·exact hk q z
  ·exact ⟨p,t.wds,z,hp8⟩
 ·rintro i d0 Γ hd0 ⟨es2,s3,rfl,e1,e2,e3⟩
  rw [List.getElem?_map] at hd0
  cases hci:t.kds[i]? with
  | none=>rw [hci] at hd0; cases hd0
  | some k =>
   rw [hci] at hd0; cases hd0; have hm:=List.mem_of_getElem? hci; have wk:=w.kid k hm; obtain ⟨m,rfl⟩:=wk.pos
   have hdk:dpt k+1<=dpt t:=by
    have:=zhu.mpr (Nat.le_refl (zhv t.kds)) k hm
    rw [zfV t]; omega
   have hsum:((t.kds.take (i+1)).map cnt).sum=((t.kds.take i).map cnt).sum+cnt k:=by
    rw [List.take_succ,hci,List.map_append,List.sum_append]; simp
   have hsub:((t.kds.take (i+1)).map cnt).sum<=(t.kds.map cnt).sum:=zjX cnt (List.take_sublist _ _)
   simp [rds]
   refine ⟨small (by omega),k,p ++ [k.lab],c,es2,rfl,rfl,wk,hc,by simp; omega,by omega,e3,fun es' x1 x2 x3=>⟨es',rfl,x1,by rw [<- List.map_take]; omega,fun a b z=>x3 (a,b) z⟩⟩
 ·rintro Γ ⟨es2,s3,rfl,e1,e2,e3⟩
  rw [List.length_map,List.take_of_length_le (Nat.le_refl _)] at e2; simp [rds]
  exact hq es2 e1 (by omega) e3
theorem zdR:FnScope ["_law_change_here","_law_tree_here","_law_found"] ["_law_change_here","_law_tree_here"] (zf zcK):=sc0
theorem zha (d:Df K mg "_law_reason" zcK ["_law_change_here","_law_tree_here"]) (cf:CF K T) (z_isinstance:mg "isinstance"=none) (z_str:mg "str"=none) (M_Anew_reason:Mth P w K mg base 4 T.Anew "reason" ["self","tree"] (zbb T)) (M_LeaveOut_reason:Mth P w K mg base 4 T.LeaveOut "reason" ["self","tree"] (zar T)) (M_PutIn_reason:Mth P w K mg base 4 T.PutIn "reason" ["self","tree"] (zaR T)) (M_Read_reason:Mth P w K mg base 4 T.Read "reason" ["self","tree"] (zba T)) (M_Swap_reason:Mth P w K mg base 3 T.Swap "reason" ["self","tree"] (za9 T)):Fn P w K mg base 5 "_law_reason" ["_law_change_here","_law_tree_here"] (zb6 T):=by
 refine d.ok zdR (fun ds Q h=>?_) (fun f cdv A outer s H E hr ds Q h=>⟨_,(zc (zm 2 zdR.nd (pe_or (zF M_Swap_reason (hr.mono (by decide)) (pv' 0) (za (pv' 1) zb)) (pe_or (zF M_Read_reason (hr.mono (by decide)) (pv' 0) (za (pv' 1) zb)) (pe_or (zF M_PutIn_reason (hr.mono (by decide)) (pv' 0) (za (pv' 1) zb)) (pe_or (zF M_LeaveOut_reason (hr.mono (by decide)) (pv' 0) (za (pv' 1) zb)) (zF M_Anew_reason (hr.mono (by decide)) (pv' 0) (za (pv' 1) zb)))))))
  (zc (zB (PW'.pt (zj6 (zo zfA (pv' 2) zaa) (zg2 (zer (zt (zkF K rfl) z_isinstance PyProof.Rows.boot_isinstance (za (pv' 2) (za (zsD z_str PyProof.Rows.boot_str) zb))))))) (ze (zh (pv' 2))) zn)
  (ze (zh zd)))),?_⟩)
 ·obtain ⟨t,ch,rfl,_⟩:=h
  rfl
 obtain ⟨t,ch,rfl,sm,ok,q⟩:=h; simp [rds,zc9]
 cases ch with
 | swap p o n=>exact .inl ⟨_,rfl,nof rfl,t,p,o,n,rfl,sm,ok,zhU q⟩
 | read p ws=>exact .inr (.inl ⟨_,rfl,nof rfl,t,p,ws,rfl,sm,ok,zhU q⟩)
 | put p k=>exact .inr (.inr (.inl ⟨_,rfl,nof rfl,t,p,k,rfl,sm,ok,zhU q⟩))
 | out p=>exact .inr (.inr (.inr (.inl ⟨_,rfl,nof rfl,t,p,rfl,sm,ok,zhU q⟩)))
 | anew p=>exact .inr (.inr (.inr (.inr ⟨_,rfl,nof rfl,t,p,rfl,sm,ok,zhU q⟩)))
end
end K25
namespace K25
open PySem L2 Lb PL MT M04 MS M70 M71 M72 M74 M76 M25
theorem zeG {T:Cs} {i j:Nat} {t:Tr} {ch:Cg} {Γ:Sts} {Q:D->Sts->Prop} (e1:Γ[i]?=some (.val (chD T ch))) (e2:Γ[j]?=some (.val (trD t))) (sm:Sm t) (ok:Ok ch) (hf:rs t ch=none) (q:Q (trD (dnC t ch)) Γ) :
  zkQ (zc9 T.Swap "done" (zbI T) (zJ i) (zad (zJ j) zbx)) (zkQ (zc9 T.Read "done" (zbJ T) (zJ i) (zad (zJ j) zbx)) (zkQ (zc9 T.PutIn "done" (zbs T) (zJ i) (zad (zJ j) zbx)) (zkQ (zc9 T.LeaveOut "done" (zaH T) (zJ i) (zad (zJ j) zbx)) (zc9 T.Anew "done" (zbK T) (zJ i) (zad (zJ j) zbx))))) Γ Q:=by
 have var:∀ {k:Nat} {d:D} {R:D->Sts->Prop},Γ[k]?=some (.val d)->R d Γ->zJ k Γ R:=fun e r=>by unfold zJ; simpa [e] using r
 cases ch with
 | swap p o n=>exact .inl (var e1 ⟨_,rfl,rfl,var e2 ⟨t,p,o,n,rfl,sm,ok,hf,q⟩⟩)
 | read p ws=>exact .inr (.inl (var e1 ⟨_,rfl,rfl,var e2 ⟨t,p,ws,rfl,sm,ok,hf,q⟩⟩))
 | put p k=>exact .inr (.inr (.inl (var e1 ⟨_,rfl,rfl,var e2 ⟨t,p,k,rfl,sm,ok,hf,q⟩⟩)))
 | out p=>exact .inr (.inr (.inr (.inl (var e1 ⟨_,rfl,rfl,var e2 ⟨t,p,rfl,sm,ok,hf,q⟩⟩))))
 | anew p=>exact .inr (.inr (.inr (.inr (var e1 ⟨_,rfl,rfl,var e2 ⟨t,p,rfl,sm,ok,hf,q⟩⟩))))
theorem zhs {f:D->D->Option Bool}:∀ {xs:List D},(∀ x ∈ xs,f x x=some true)->eqL f xs xs=some true
 | [],_=>rfl
 | x :: xs,h=>by simp [eqL,h x List.mem_cons_self,zhs fun y hy=>h y (List.mem_cons_of_mem _ hy)]
theorem ztr {n:Nat} {t:Tr} (h:Dp n t):∀ m,2 * n+1<=m->eqD m (trD t) (trD t)=some true:=by
 induction h with
 | @mk n l ws ks h ih =>
  intro m hm
  obtain ⟨m,rfl⟩:∃ k,m=k+3:=⟨m-3,by omega⟩
  rw [zaj]
  show eqL (eqD (m+2)) _ _=_
  refine zhs fun x hx=>?_
  simp only [List.mem_cons,List.not_mem_nil,or_false] at hx
  rcases hx with rfl | rfl | rfl
  ·rw [zmN]; simp
  ·rw [zjH]; simp
  ·show eqL (eqD (m+1)) _ _=_
   refine zhs fun y hy=>?_
   obtain ⟨k,hk,rfl⟩:=List.mem_map.mp hy
   exact ih k hk (m+1) (by omega)
theorem zpq (o:Option (List Nat)) {Q:D->Prop} (q:Q (.bl false)):zuL (rD o) (rD o) Q:=by
 cases o with
 | none=>exact .inl ⟨true,rfl,q⟩
 | some l=>exact .inl ⟨true,by simp [rD,eqD,eqS],q⟩
theorem zt8 {c:Nat} {t:Tr} (w:Wf c 9 t) {Q:D->Prop} (q:Q (.bl false)):zuL (trD t) (trD t) Q:=.inl ⟨true,ztr (M84.wf_dp w) 100 (by omega),q⟩
section
variable {P:Program} {w:World} {K:W.Frag} {mg:Str->Option Value} {base:Heap} {T:Cs}
theorem zax:FnScope ["_law_tree_here","_law_one","_law_other","_law_whys","_law_ahead","_law_behind"] ["_law_tree_here","_law_one","_law_other"] (zf zeo):=sc0
theorem zjt (d:Df K mg "_law_both" zeo ["_law_tree_here","_law_one","_law_other"]) (cf:CF K T) (G_law_reason:Fn P w K mg base 5 "_law_reason" ["_law_change_here","_law_tree_here"] (zb6 T)) (M_Anew_done:Mth P w K mg base 6 T.Anew "done" ["self","tree"] (zbK T)) (M_LeaveOut_done:Mth P w K mg base 6 T.LeaveOut "done" ["self","tree"] (zaH T)) (M_PutIn_done:Mth P w K mg base 6 T.PutIn "done" ["self","tree"] (zbs T)) (M_Read_done:Mth P w K mg base 6 T.Read "done" ["self","tree"] (zbJ T)) (M_Swap_done:Mth P w K mg base 6 T.Swap "done" ["self","tree"] (zbI T)):Fn P w K mg base 7 "_law_both" ["_law_tree_here","_law_one","_law_other"] (zb8 T):=by
 refine d.ok zax (fun ds Q h=>?_) (fun f cdv A outer s H E hr ds Q h=>⟨_,(zc (zm 3 zax.nd (zbB (zdY (za (zx G_law_reason (hr.mono (by decide)) (za (pv' 1) (za (pv' 0) zb))) (za (zx G_law_reason (hr.mono (by decide)) (za (pv' 2) (za (pv' 0) zb))) zb)))))
  (zc (zB (zo zvb zd (pv' 3)) (ze (zh zaa)) zn)
  (zc (zm 4 zax.nd (pv' 0))
  (zc (zm 5 zax.nd (pv' 0))
  (zc (zB (zo zfA (zl (i_A (zr hr)) (pv' 3) zd) zaa) (ze (zm 4 zax.nd (pe_or (zF M_Swap_done (hr.mono (by decide)) (pv' 1) (za (pv' 0) zb)) (pe_or (zF M_Read_done (hr.mono (by decide)) (pv' 1) (za (pv' 0) zb)) (pe_or (zF M_PutIn_done (hr.mono (by decide)) (pv' 1) (za (pv' 0) zb)) (pe_or (zF M_LeaveOut_done (hr.mono (by decide)) (pv' 1) (za (pv' 0) zb)) (zF M_Anew_done (hr.mono (by decide)) (pv' 1) (za (pv' 0) zb)))))))) zn)
  (zc (zB (zo zfA (zl (i_A (zr hr)) (pv' 3) zd) zaa) (ze (zm 5 zax.nd (pe_or (zF M_Swap_done (hr.mono (by decide)) (pv' 2) (za (pv' 0) zb)) (pe_or (zF M_Read_done (hr.mono (by decide)) (pv' 2) (za (pv' 0) zb)) (pe_or (zF M_PutIn_done (hr.mono (by decide)) (pv' 2) (za (pv' 0) zb)) (pe_or (zF M_LeaveOut_done (hr.mono (by decide)) (pv' 2) (za (pv' 0) zb)) (zF M_Anew_done (hr.mono (by decide)) (pv' 2) (za (pv' 0) zb)))))))) zn)
  (zc (zB (PW'.pt (zj6 (zo (zqX (zaE hr)) (zx G_law_reason (hr.mono (by decide)) (za (pv' 2) (za (pv' 4) zb))) (zl (i_A (zr hr)) (pv' 3) zd)) (zg2 (zo (zqX (zaE hr)) (zx G_law_reason (hr.mono (by decide)) (za (pv' 1) (za (pv' 5) zb))) (zl (i_A (zr hr)) (pv' 3) zd))))) (ze (zh zaa)) zn)
  (zc (zB (zo zfA (zl (i_A (zr hr)) (pv' 3) zd) zaa) (ze (zm 4 zax.nd (pe_or (zF M_Swap_done (hr.mono (by decide)) (pv' 2) (za (pv' 4) zb)) (pe_or (zF M_Read_done (hr.mono (by decide)) (pv' 2) (za (pv' 4) zb)) (pe_or (zF M_PutIn_done (hr.mono (by decide)) (pv' 2) (za (pv' 4) zb)) (pe_or (zF M_LeaveOut_done (hr.mono (by decide)) (pv' 2) (za (pv' 4) zb)) (zF M_Anew_done (hr.mono (by decide)) (pv' 2) (za (pv' 4) zb)))))))) zn)
  (zc (zB (zo zfA (zl (i_A (zr hr)) (pv' 3) zd) zaa) (ze (zm 5 zax.nd (pe_or (zF M_Swap_done (hr.mono (by decide)) (pv' 1) (za (pv' 5) zb)) (pe_or (zF M_Read_done (hr.mono (by decide)) (pv' 1) (za (pv' 5) zb)) (pe_or (zF M_PutIn_done (hr.mono (by decide)) (pv' 1) (za (pv' 5) zb)) (pe_or (zF M_LeaveOut_done (hr.mono (by decide)) (pv' 1) (za (pv' 5) zb)) (zF M_Anew_done (hr.mono (by decide)) (pv' 1) (za (pv' 5) zb)))))))) zn)
  (zc (zB (zo (zqX (zaE hr)) (pv' 4) (pv' 5)) (ze (zh zaa)) zn)
  (ze (zh (pv' 4))))))))))))),?_⟩)
 ·obtain ⟨t,a,b,c,rfl,_⟩:=h
  rfl
 obtain ⟨t,a,b,c,rfl,w,c1,c2,cn,oa,ob,ap,q⟩:=h
 have sm:Sm t:=⟨⟨c,w,c1,by omega⟩,by omega⟩
 simp [zdN,zbQ,zda,zdx,zac,zJ,tC',zf6,zcX,tB',zgN,zff,zlN,zdn,zf2,zdf,zjV,zbx,zad,zeJ,zf5,zjW,znj,zkP,zeK,zkR,zf7,zfQ,zdr,zdq,zcq,zbe,zi1,zbn,zdg,zdi,zfb,zcx,zfe,zcz,zdm,zdd,zdk,zfc,zcQ,zlK,zds,zcy,zf3,zdj,zeO,zb2,zeP,zf4,zdh,zdP,zgO,zb5,zde,zbP,zfd,zaG,zcv,zcw,zbo,zfa,zdl,zgk,zcB,zf1,zcA,zf6,znl]; refine ⟨t,a,rfl,sm,oa,t,b,rfl,sm,ob,?_⟩
 have wA:=fun ha:rs t a=none=>zfW w c1 (by omega) ha oa
 have wB:=fun hb:rs t b=none=>zfW w c1 (by omega) hb ob
 have cA:=fun ha:rs t a=none=>zjJ w ha oa
 have cB:=fun hb:rs t b=none=>zjJ w hb ob
 have sA:rs t a=none->Sm (dnC t a):=fun ha=>⟨⟨c+2,wA ha,by omega,by omega⟩,by have:=cA ha; omega⟩
 have sB:rs t b=none->Sm (dnC t b):=fun hb=>⟨⟨c+2,wB hb,by omega,by omega⟩,by have:=cB hb; omega⟩
 have rB:rs t a=none->rs (dnC t a) b=rs t b:=fun ha=>zeS w ha oa ap.symm
 have rA:rs t b=none->rs (dnC t b) a=rs t a:=fun hb=>zeS w hb ob ap
 cases ha:rs t a with
 | none =>
  cases hb:rs t b with
  | none =>
   simp [ha,hb,rD,zeE,Res.toD]; refine zeG rfl rfl sm oa ha ?_; simp; refine zeG rfl rfl sm ob hb ?_; simp; refine ⟨dnC t a,b,rfl,sA ha,ob,?_⟩; rw [rB ha,hb]; refine zpq none (.inl ⟨rfl,?_⟩); refine ⟨dnC t b,a,rfl,sB hb,oa,?_⟩; rw [rA hb,ha]; refine zpq none (.inl ⟨rfl,?_⟩)
   refine zeG rfl rfl (sA ha) ob (by rw [rB ha,hb]) ?_
   simp
   refine zeG rfl rfl (sB hb) oa (by rw [rA hb,ha]) ?_
   simp
   have e:=zlO w c1 (by omega) ha hb oa ob ap
   have w2:=zfW (wA ha) (by omega) (by omega) (by rw [rB ha,hb]) ob
   have k2:=zjJ (wA ha) (by rw [rB ha,hb]) ob
   have k1:=cA ha; rw [<- e]
   exact zt8 w2 (.inl ⟨rfl,q _ w2 (by omega)⟩)
  | some lb =>
   simp [ha,hb,rD,zeE,Res.toD]; refine zeG rfl rfl sm oa ha ?_; simp; refine ⟨dnC t a,b,rfl,sA ha,ob,?_⟩; rw [rB ha,hb]; refine zpq (some lb) (.inl ⟨rfl,?_⟩); refine ⟨t,a,rfl,sm,oa,?_⟩; rw [ha]; refine zpq none (.inl ⟨rfl,?_⟩); refine zeG rfl rfl sm oa ha ?_; simp; have k1:=cA ha
   exact zt8 (wA ha) (.inl ⟨rfl,q _ ((wA ha).up (by omega) (Nat.le_refl _)) (by omega)⟩)
 | some la =>
  cases hb:rs t b with
  | none =>
   simp [ha,hb,rD,zeE,Res.toD]; refine zeG rfl rfl sm ob hb ?_; simp; refine ⟨t,b,rfl,sm,ob,?_⟩; rw [hb]; refine zpq none (.inl ⟨rfl,?_⟩); refine ⟨dnC t b,a,rfl,sB hb,oa,?_⟩; rw [rA hb,ha]; refine zpq (some la) (.inl ⟨rfl,?_⟩); refine zeG rfl rfl sm ob hb ?_; simp; have k1:=cB hb
   exact zt8 (wB hb) (.inl ⟨rfl,q _ ((wB hb).up (by omega) (Nat.le_refl _)) (by omega)⟩)
  | some lb =>
   simp [ha,hb,rD,zeE,Res.toD]; refine ⟨t,b,rfl,sm,ob,?_⟩; rw [hb]; refine zpq (some lb) (.inl ⟨rfl,?_⟩); refine ⟨t,a,rfl,sm,oa,?_⟩; rw [ha]; refine zpq (some la) (.inl ⟨rfl,?_⟩)
   exact zt8 w (.inl ⟨rfl,q _ (w.up (by omega) (Nat.le_refl _)) (by omega)⟩)
end
end K25
namespace K25
open PySem L2 Lb PL MT M04 MS M70 M71 M72 M74 M76 M25
theorem zru {α:Type} (xs:List α) (lo hi:Option Int):(zdt xs lo hi).Sublist xs:=by
 unfold zdt; exact (List.take_sublist _ _).trans (List.drop_sublist _ _)
theorem zgy {α β:Type} {f:α->β}:∀ {l:List α},l.Nodup->(∀ a ∈ l,∀ b ∈ l,f a=f b->a=b)->(l.map f).Nodup
 | [],_,_=>List.nodup_nil
 | x :: l,h,hi=>by
  rw [List.nodup_cons] at h; rw [List.map_cons,List.nodup_cons]
  refine ⟨fun z=>?_,zgy h.2 fun a ha b hb=>hi a (List.mem_cons_of_mem _ ha) b (List.mem_cons_of_mem _ hb)⟩
  obtain ⟨y,hy,e⟩:=List.mem_map.mp z; rw [hi y (List.mem_cons_of_mem _ hy) x List.mem_cons_self e] at hy; exact h.1 hy
theorem zsd {H:Int} {i:Nat} (h:i<(Builtin.Range.rangeSize 6 H 4).toNat):6+4 * (i:Int)<H:=by
 unfold Builtin.Range.rangeSize at h; split at h
 ·split at h
  ·omega
  ·simp at h
 ·split at h
  ·omega
  ·simp at h
theorem zkI (ms:List Int) {k:Int} (h0:0<=k) (h1:k<ms.length):∃ z:Int,atI (ms.map D.int) k=some (.int z):=by
 obtain ⟨n,rfl⟩:=Int.eq_ofNat_of_zero_le h0
 have hn:n<ms.length:=by omega
 exact ⟨ms[n],zcU (by rw [List.getElem?_map,List.getElem?_eq_getElem hn]; rfl)⟩
theorem zmE {ns:Nd} (o:NOk ns) (p:Pl):(zb1 ns p).length<=60:=by
 have h1:=List.length_filter_le (fun q:Pl=>decide (q.length=p.length+1) && decide (q.dropLast=p)) (keys ns)
 have h2:(keys ns).length<=60:=by unfold keys; rw [List.length_map]; exact o.many
 unfold zb1; omega
def zdz:Sp':=fun ds Q=>∃ ns:List Int,ds=[.lst (ns.map .int)]/\ns.length<=63/\∀ (ms:List Int) (r:Res),r.toD=.lst (ms.map .int)->Q r
theorem zjS (a b:D) (Q:Res->Prop):zau 10 [a,b] Q↔∃ ns p,(a=.dit (ndD ns)/\b=plc p)/\NOk ns/\p ∈ keys ns/\8<=p.length+9/\Q (.val (trD (zbd 9 ns p))):=by
 constructor
 ·rintro ⟨ns,p,h,r⟩
  cases h; exact ⟨ns,p,⟨rfl,rfl⟩,r⟩
 ·rintro ⟨ns,p,⟨rfl,rfl⟩,r⟩
  exact ⟨ns,p,rfl,r⟩
theorem znD {α β:Type} (f:α->β) (lt:Nat->Nat->Bool) (d:α) (ps:List α):(srt lt d ps).map f=srt lt (f d) (ps.map f):=by
 unfold srt; rw [List.length_map]; split
 ·rfl
 ·rw [List.map_map]
  refine List.map_congr_left fun i _=>?_
  simp [List.getD,List.getElem?_map]
theorem zmD (ns:Nd) (n:Nat) (p:Pl):zaD ((zbt ns p).map (zbd n ns))=znI ((zb1 ns p).map zaO):=by
 unfold zaD; rw [List.map_map]
 have e:(Tr.lab ∘ zbd n ns)=zaO:=by funext q; exact zgM n ns q
 rw [e]; unfold zbt znI; rw [znD,List.map_map]; rfl
theorem zjN {ns:Nd} (o:NW ns) (p:Pl):(zhG ns p).length<=4:=by
 unfold zhG
 cases h:ns.lookup p with
 | none=>simp
 | some ws =>
  have:(p,ws) ∈ ns:=by
   clear o
   induction ns with
   | nil=>cases h
   | cons x r ih =>
    obtain ⟨a,b⟩:=x; rw [List.lookup_cons] at h
    by_cases e:p=a
    ·subst e
     simp at h
     subst h; exact List.mem_cons_self
    ·rw [show (p == a)=false from beq_eq_false_iff_ne.mpr e] at h
     exact List.mem_cons_of_mem _ (ih h)
  exact o.wd _ this
theorem zlI {ns:Nd} (o:NW ns):∀ (n:Nat) (p:Pl),p ∈ keys ns->8<=p.length+n->Wf 60 (9-p.length) (zbd n ns p)
 | 0,p,hp,h8=>by
  have:=o.ok.len p hp
  rw [show 9-p.length=1 by omega]
  have:=zjN o p
  exact zmw (by omega)
 | n+1,p,hp,h8=>by
  have hl8:=o.ok.len p hp
  rw [show 9-p.length=(8-p.length)+1 by omega]
  have hf:∀ q ∈ zb1 ns p,q ∈ keys ns/\q=p ++ [zaO q]:=fun q hq=>zfE.mp hq
  have hw:=zjN o p; have hkl:=zmE o.ok p
  have hsl:(zbt ns p).length=(zb1 ns p).length:=zlS (zh6 _) _ _
  refine .mk' (fun k hk=>?_) (fun k hk=>?_) ?_ (by show ((zbt ns p).map _).length<=_; rw [List.length_map]; omega) (by show (zhG ns p).length<=_; omega)
  ·obtain ⟨q,hq,rfl⟩:=List.mem_map.mp hk
   have hm:=zbc.mp hq; have hl:=zfK hq; have hq8:=o.ok.len q hm.1
   have:=zlI o n q hm.1 (by omega)
   rw [hl,show 9-(p.length+1)=8-p.length by omega] at this
   exact this
  ·obtain ⟨q,hq,rfl⟩:=List.mem_map.mp hk
   have hm:=zbc.mp hq; rw [zgM]
   exact o.ok.lab q hm.1 (zaO q) (by rw [hm.2,zex]; simp)
  ·show Ris (zaD ((zbt ns p).map (zbd n ns)))
   rw [zmD]
   refine zhN ?_ fun l hl=>?_
   ·refine zgy (o.ok.nd.sublist List.filter_sublist) fun a ha b hb e=>?_
    rw [(hf a ha).2,(hf b hb).2,e]
   ·obtain ⟨q,hq,rfl⟩:=List.mem_map.mp hl
    exact o.ok.lab q (hf q hq).1 (zaO q) (by rw [(hf q hq).2,zex]; simp)
theorem znB {ns:Nd} (o:NW ns) (n:Nat) {p:Pl} (hp:p ∈ keys ns):M71.cnt (zbd n ns p)<=60:=by
 rw [<- zkc _ p,zka]; exact znv o.ok n hp
def zby (T:Cs):Sp':=fun ds Q=>∃ ms:List Int,ds=[.lst (ms.map .int)]/\Q (.val (.bl true))
def zpe:Sp':=zkT
theorem zvu (xs:List Int):(zdt xs (some 6) (some 36)).length<=50:=by
 unfold zdt; rw [List.length_take,List.length_drop]
 have e1:HT.sIx xs.length 0 (some 6)=min 6 xs.length:=by unfold HT.sIx; simp
 have e2:HT.sIx xs.length xs.length (some 36)=min 36 xs.length:=by unfold HT.sIx; simp
 rw [e1,e2]; omega
section
variable {P:Program} {w:World} {K:W.Frag} {mg:Str->Option Value} {base:Heap} {T:Cs}
theorem zcc:FnScope ["_law_script","_law_found","_law_number"] ["_law_script"] (zf zem):=sc0
theorem zjq (d:Df K mg "_law_wide" zem ["_law_script"]) (z_abs:mg "abs"=none) (z_len:mg "len"=none):Fn P w K mg base 1 "_law_wide" ["_law_script"] zdz:=by
 refine d.ok zcc (fun ds Q h=>?_) (fun f cdv A outer s H E hr ds Q h=>⟨_,(zc (zB (PW'.pt (zj6 (zo zs1 (zt zaF z_len PySem.boot_len (za (pv' 0) zb)) zd) (zg2 (zo zs1 (zt ztF z_abs zkG (za (zl (i_A (zr hr)) (pv' 0) zd) zb)) (zk zqW zd zd))))) (ze (zh (pv' 0))) zn)
  (zc (zeY 1 zcc.nd (zdY zb))
  (zc (zm 2 zcc.nd (zt ztF z_abs zkG (za (zl (i_A (zr hr)) (pv' 0) zd) zb)))
  (zc (zfp (zma (PW'.pt (zg3 (zo zs2 (pv' 2) zd) (zeV (zo zs1 (zt zaF z_len PySem.boot_len (za (pv' 1) zb)) zd)))))
   (zc (zgv 1 (zk zbl (pv' 2) (zk zqW zd zd)))
  (ze (zm 2 zcc.nd (zk zaN (pv' 2) (zk zqW zd zd))))))
  (ze (znY (zqq (zsz zs5 (pv' 1) (zbg s_A (pv' 0) (zb0 zd) zd2))))))))),?_⟩)
 ·obtain ⟨ns,rfl,_⟩:=h
  rfl
 obtain ⟨ns,rfl,h63,hq⟩:=h; simp [zdN,zbQ,zda,zdx,zac,zJ,tC',zf6,zcX,tB',zgN,zff,zlN,zdn,zf2,zdf,zjV,zbx,zad,zeJ,zf5,zjW,znj,zkP,zeK,zkR,zf7,zfQ,zdr,zdq,zcq,zbe,zi1,zbn,zdg,zdi,zfb,zcx,zfe,zcz,zdm,zdd,zdk,zfc,zcQ,zlK,zds,zcy,zf3,zdj,zc9,zeO,zb2,zeP,zf4,zdh,zdP,zgO,zb5,zde,zbP,zfd,zkQ,zaG,zcv,zcw,zbo,zfa,zdl,zgk,zcB,zf1,zcA,zf6,znl]
 rcases Nat.lt_or_ge ns.length 2 with h2 | h2
 ·exact .inr ⟨by omega,hq ns _ rfl⟩
 refine .inl ⟨by omega,?_⟩
 obtain ⟨z,hz⟩:∃ z,ns[1]?=some z:=⟨_,List.getElem?_eq_getElem (by omega)⟩
 have ha:atI (ns.map D.int) 1=some (.int z):=show atI _ ((1:Nat):Int)=_ from zcU (by rw [List.getElem?_map,hz]; rfl)
 refine ⟨.int z,ha,?_⟩; rw [znW]
 refine ⟨by simp [ztM],?_⟩
 simp; rw [ha]; simp
 generalize (if z<0 then -z else z)=N
 by_cases hN:N<1000000000000000000
 ·exact .inr ⟨hN,hq ns _ rfl⟩
 refine .inl ⟨by omega,?_⟩
 refine ze8 (fun Γ=>∃ (fs:List Int) (M:Int),Γ=[.val (.lst (ns.map .int)),.own (.lst (fs.map .int)),.val (.int M)]/\fs.length<=63) (fun Γ=>match Γ with | [_,.own (.lst l),_]=>63-l.length | _=>0) ⟨[],N,rfl,by simp⟩ ?_
 rintro Γ ⟨fs,M,rfl,hf⟩
 simp [zdN,zbQ,zda,zdx,zac,zJ,tC',zf6,zcX,tB',zgN,zff,zlN,zdn,zf2,zdf,zjV,zbx,zad,zeJ,zf5,zjW,znj,zkP,zeK,zkR,zf7,zfQ,zdr,zdq,zcq,zbe,zi1,zbn,zdg,zdi,zfb,zcx,zfe,zcz,zdm,zdd,zdk,zfc,zcQ,zlK,zds,zcy,zf3,zdj,zc9,zeO,zb2,zeP,zf4,zdh,zdP,zgO,zb5,zde,zbP,zfd,zkQ,zaG,zcv,zcw,zbo,zfa,zdl,zgk,zcB,zf1,zcA,zf6,znl,OD.toD]
 have hadd:zsr (.lst (fs.map .int)) (.lst (zdt (ns.map .int) (some 2) none)) fun o=>zwd o/\Q (.own o):=by
  rw [ze7]; have hl:=(zru ns (some 2) none).length_le
  refine ⟨_,_,rfl,rfl,small (by simp; omega),?_⟩
  rw [<- List.map_append]
  exact ⟨fun d hd=>by obtain ⟨i,_,rfl⟩:=List.mem_map.mp hd; exact .int i,hq _ _ rfl⟩
 by_cases hM:M<=0
 ·exact .inl ⟨hM,hadd⟩
 refine .inr ⟨by omega,?_⟩
 by_cases h6:fs.length<63
 ·exact .inr ⟨by omega,by simp [ztM],zbz (by omega),by simp [ztM],by simp [zni],⟨fs ++ [M % 1000000],by simp,by simp; omega⟩,by omega⟩
 ·exact .inl ⟨by omega,hadd⟩
theorem zX:FnScope ["_law_script","_law_tree_here","_law_k","_law_nodes_here","_law_one","_law_other"] ["_law_script"] (zf zbU):=sc0
theorem zfv (d:Df K mg "_law_asked_so" zbU ["_law_script"]) (cf:CF K T) (G_are_apart:Fn P w K mg base 4 "are_apart" ["one","other"] (zbH T)) (G_law_nodes:Fn P w K mg base 3 "_law_nodes" ["_law_cells"] zcC) (G_law_tree:Fn P w K mg base 15 "_law_tree" ["_law_nodes_here","_law_place_here"] (zau 10)) (G_law_change:Fn P w K mg base 3 "_law_change" ["_law_nodes_here","_law_cell","_law_more"] zbq) (G_law_made:Fn P w K mg base 3 "_law_made" ["_law_one"] (zb7 T)) (G_law_noted:FnA P w K mg base 11 "_law_noted" ["_law_tree_here","_law_place_here","_law_found"] 2 (zbf 10)) (G_law_both:Fn P w K mg base 7 "_law_both" ["_law_tree_here","_law_one","_law_other"] (zb8 T)) (z_len:mg "len"=none) (z_min:mg "min"=none) (z_range:mg "range"=none):Fn P w K mg base 16 "_law_asked_so" ["_law_script"] (zby T):=by
 refine d.ok zX (fun ds Q h=>?_) (fun f cdv A outer s H E hr ds Q h=>⟨_,(zc (zm 1 zX.nd (zx G_law_tree (hr.mono (by decide)) (za (zx G_law_nodes (hr.mono (by decide)) (za (zbg s_A (pv' 0) (zb0 zd) (zb0 zd)) zb)) (za (zw zb) zb))))
  (zc (zch (zgx z_range (za zd (za (zk zqV (zt (ztz rfl) z_min PyProof.Rows.boot_min (za (zt zaF z_len PySem.boot_len (za (pv' 0) zb)) (za zd zb))) zd) (za zd zb)))) (zY 2 zX.nd)
   (zc (zm 3 zX.nd (zbB (zn5 G_law_noted (hr.mono (by decide)) (pv' 1) (zw zb) zqp)))
  (zc (zm 4 zX.nd (zx G_law_made (hr.mono (by decide)) (za (zx G_law_change (hr.mono (by decide)) (za (pv' 3) (za (zl (i_A (zr hr)) (pv' 0) (pv' 2)) (za (zl (i_A (zr hr)) (pv' 0) (zk zR (pv' 2) zd)) zb)))) zb)))
  (zc (zm 5 zX.nd (zx G_law_made (hr.mono (by decide)) (za (zx G_law_change (hr.mono (by decide)) (za (pv' 3) (za (zl (i_A (zr hr)) (pv' 0) (zk zR (pv' 2) zd)) (za (zl (i_A (zr hr)) (pv' 0) (zk zR (pv' 2) zd)) zb)))) zb)))
  (ze (zB (zer (zx G_are_apart (hr.mono (by decide)) (za (pv' 4) (za (pv' 5) zb)))) (zc (zm 1 zX.nd (zx G_law_both (hr.mono (by decide)) (za (pv' 1) (za (pv' 4) (za (pv' 5) zb)))))
  (ze (zB (zo zfA (pv' 1) zaa) (ze (zh zpn)) zn))) zn))))))
  (ze (zh zpn)))),?_⟩)
 ·obtain ⟨ns,rfl,_⟩:=h
  rfl
 obtain ⟨ms,rfl,q⟩:=h; simp [rds,zjS]
 refine ⟨zdt ms (some 6) (some 36),by rw [ze7],zvu ms,fun ns o=>?_⟩
 simp [Res.toD,zjS]
 refine ⟨ns,[],⟨rfl,rfl⟩,o.ok,o.ok.nil,by split <;> omega,?_⟩
 have wt:=zlI o 9 [] o.ok.nil (by simp)
 have ct:=znB o 9 o.ok.nil
 refine zfS (fun i Γ=>∃ t s2 s3 s4 s5,Γ=[.val (.lst (ms.map .int)),.val (trD t),s2,s3,s4,s5]/\Wf (60+4 * i) 9 t/\M71.cnt t<=60+18 * i) ⟨_,_,_,_,_,rfl,wt,ct⟩ ?_ ?_
 ·rintro i d0 Γ hd0 ⟨t,s2,s3,s4,s5,rfl,w,hcn⟩
  unfold zse at hd0; rw [List.getElem?_map] at hd0; obtain ⟨k,hk,rfl⟩:=Option.map_eq_some_iff.mp hd0; have hk1:=(List.getElem?_eq_some_iff.mp hk).1; rw [List.length_range] at hk1; rw [List.getElem?_range hk1] at hk; cases hk; have hup:=zsd hk1
  have hlen:6+4 * (i:Int)+3<ms.length/\6+4 * (i:Int)+3<62:=by split at hup <;> omega
  have hdp:=zlE w; simp [rds]; intro b
  refine ⟨t,[],60+4 * i,[],rfl,rfl,w.up (m:=10) (Nat.le_refl _) (by decide),by omega,by simp; omega,by simp; omega,by simp,fun es h1 h2 h3=>⟨rfl,?_⟩⟩
  have ge:GE es:=⟨h1,by simp at h2; omega,h3⟩
  obtain ⟨z0,e0⟩:=zkI ms (k:=6+(i:Int) * 4) (by omega) (by omega)
  obtain ⟨z1,e1⟩:=zkI ms (k:=6+(i:Int) * 4+1) (by omega) (by omega)
  obtain ⟨z2,e2⟩:=zkI ms (k:=6+(i:Int) * 4+2) (by omega) (by omega)
  obtain ⟨z3,e3⟩:=zkI ms (k:=6+(i:Int) * 4+3) (by omega) (by omega)
  simp [OD.toD]
  refine ⟨_,e0,_,e1,es,z0,z1,rfl,ge,fun a oa=>⟨a,rfl,_,e2,_,e3,es,z2,z3,rfl,ge,fun b' ob=>⟨b',rfl,a,b',rfl,oa.len,ob.len,?_⟩⟩⟩
  cases hap:M24.common (kd' a) (gl' a) (kd' b') (gl' b') with
  | true=>exact .inl ⟨rfl,t,rfl,w.up (by omega) (Nat.le_refl _),by omega⟩
  | false =>
   refine .inr ⟨rfl,t,a,b',60+4 * i,rfl,w,by omega,by omega,by omega,oa,ob,hap,fun t' w' c'=>?_⟩
   simp [zeE,Res.toD,zaX]
   exact ⟨t',rfl,w'.up (by omega) (Nat.le_refl _),by omega⟩
 ·rintro Γ ⟨t,s2,s3,s4,s5,rfl,_⟩
  simp [rds]; exact q
theorem zsa:FnScope ["_law_script"] ["_law_script"] (zf zgb):=sc0
theorem zsY (d:Df K mg "law" zgb ["_law_script"]) (G_law_asked_so:Fn P w K mg base 16 "_law_asked_so" ["_law_script"] (zby T)) (G_law_wide:Fn P w K mg base 1 "_law_wide" ["_law_script"] zdz):Fn P w K mg base 17 "law" ["_law_script"] zpe:=by
 refine d.ok zsa (fun ds Q h=>?_) (fun f cdv A outer s H E hr ds Q h=>⟨_,(ze (zh (zx G_law_asked_so (hr.mono (by decide)) (za (zx G_law_wide (hr.mono (by decide)) (za (pv' 0) zb)) zb)))),?_⟩)
 ·obtain ⟨ns,rfl,_⟩:=h
  rfl
 obtain ⟨cs,rfl,hl,hq⟩:=h; simp [rds]
 exact ⟨cs,rfl,hl,fun ms r e=>⟨ms,by rw [e],hq⟩⟩
end
end K25
namespace PL
open PySem L2
theorem ar1 {A B C D E F:Sort _} {p:A->B->C->D->E->F->List Value->Prop} (h:∀ a b c d e f x0,p a b c d e f [x0]):∀ a b c d e f us,us.length=1->p a b c d e f us:=fun a b c d e f us hl=>match us,hl with | [x0],_=>h a b c d e f x0
theorem ar2 {A B C D E F:Sort _} {p:A->B->C->D->E->F->List Value->Prop} (h:∀ a b c d e f x0 x1,p a b c d e f [x0,x1]):∀ a b c d e f us,us.length=2->p a b c d e f us:=fun a b c d e f us hl=>match us,hl with | [x0,x1],_=>h a b c d e f x0 x1
theorem ar3 {A B C D E F:Sort _} {p:A->B->C->D->E->F->List Value->Prop} (h:∀ a b c d e f x0 x1 x2,p a b c d e f [x0,x1,x2]):∀ a b c d e f us,us.length=3->p a b c d e f us:=fun a b c d e f us hl=>match us,hl with | [x0,x1,x2],_=>h a b c d e f x0 x1 x2
theorem ar4 {A B C D E F:Sort _} {p:A->B->C->D->E->F->List Value->Prop} (h:∀ a b c d e f x0 x1 x2 x3,p a b c d e f [x0,x1,x2,x3]):∀ a b c d e f us,us.length=4->p a b c d e f us:=fun a b c d e f us hl=>match us,hl with | [x0,x1,x2,x3],_=>h a b c d e f x0 x1 x2 x3
def Dn (K:W.Frag) (x:Str) (st:Stmt):Prop:=∃ f fd,Fun K x x st f fd/\W.nsIn K mainGlobals x=some (some (.ref f))
section
variable {K:W.Frag} {x:Str} {st:Stmt}
theorem Dn.mk {f:Addr} {oc:Value} {od an:Option Addr} {osl:Array (Option Value)} {kV doc pm cdv ct:Value} (a:W.nsIn K mainGlobals x=some (some (.ref f))) (l:K.lookup f=some ⟨oc,od,.func (W.fnOf x x (zP st) (zG st) (zf st) .none kV doc pm an cdv ct),osl⟩) (c:W.codeIn K cdv x=true) (k:W.keepIn K (.ref f)=true):Dn K x st:=⟨f,_,zaW l c k,a⟩
theorem Dn.df {h:Heap} {mg:Str->Option Value} (D:Dn K x st) (X:K.In h) (G:h.Ns mainGlobals mg) (ps:List Str) (hb:∀ (kV doc pm:Value) (an:Option Addr) (cdv ct:Value) (us:List Value),us.length=ps.length->bindArgs (W.fnOf x x (zP st) (zG st) (zf st) .none kV doc pm an cdv ct) ⟨us,[]⟩=pure (ps.zip us)):Df K mg x st ps:=by
 obtain ⟨f,fd,F,a⟩:=D; exact ⟨f,fd,F,F.binds hb,W.mg_of X G a⟩
end
end PL
namespace K25
open PySem L2 Lb PL MT M04 MS M70 M71 M72 M74 M76 M25
section
variable {P:Program} {w:World} {K:W.Frag} {mg:Str->Option Value} {base:Heap}
theorem zp4:FnScope ["self","place","old","new"] ["self","place","old","new"] (zf za1):=sc0
theorem zmJ {f C:Addr} {fd:FuncData} (F:Fun K "__init__" "Swap.__init__" za1 f fd) (cl:Cls K C) (n1:zai K C "place") (n2:zai K C "old") (n3:zai K C "new"):FnOk P w K mg base CX0 1 f fd ["self","place","old","new"] (zgo C ["place","old","new"]):=by
 refine F.ok zp4 (fun vs H Q E h=>?_) (fun cdv A outer s H vs Q E hr h=>?_)
 ·obtain ⟨a,dx,us,rfl,hl,_⟩:=h
  simpa using hl
 ·obtain ⟨a,dx,us,rfl,hl,ha,k⟩:=h
  obtain ⟨v1,v2,v3,rfl⟩:∃ v1 v2 v3,us=[v1,v2,v3]:=by
   match us,hl with
   | [v1,v2,v3],_=>exact ⟨v1,v2,v3,rfl⟩
  refine ⟨_,(zdW (zdX (pv 0) (pv 1) rfl) (zdW (zdX (pv 0) (pv 2) rfl) (zes (zdX (pv 0) (pv 3) rfl)))),?_⟩
  refine ⟨_,rfl,_,rfl,a,C,dx,_,rfl,ha,cl,n1,(by show 0<1000; decide),_,rfl,_,rfl,a,C,dx,_,rfl,zj,cl,n2,(by show 1<1000; decide),_,rfl,_,rfl,a,C,dx,_,rfl,zj,cl,n3,(by show 2<1000; decide),?_⟩
  have e:zee "new" v3 (zee "old" v2 (zee "place" v1 ([])))=List.zip (["place","old","new"]:List Str) [v1,v2,v3]:=by
   have q1:¬ ("place":Str)="old":=by decide +kernel
   have q2:¬ ("place":Str)="new":=by decide +kernel
   have q3:¬ ("old":Str)="new":=by decide +kernel
   simp only [zee,if_neg q1,if_neg q2,if_neg q3]; rfl
  simp only [zeg]; exact e ▸ k
theorem zp5:FnScope ["self","place","words"] ["self","place","words"] (zf za3):=sc0
theorem zmK {f C:Addr} {fd:FuncData} (F:Fun K "__init__" "Read.__init__" za3 f fd) (cl:Cls K C) (n1:zai K C "place") (n2:zai K C "words"):FnOk P w K mg base CX0 1 f fd ["self","place","words"] (zgo C ["place","words"]):=by
 refine F.ok zp5 (fun vs H Q E h=>?_) (fun cdv A outer s H vs Q E hr h=>?_)
 ·obtain ⟨a,dx,us,rfl,hl,_⟩:=h
  simpa using hl
 ·obtain ⟨a,dx,us,rfl,hl,ha,k⟩:=h
  obtain ⟨v1,v2,rfl⟩:∃ v1 v2,us=[v1,v2]:=by
   match us,hl with
   | [v1,v2],_=>exact ⟨v1,v2,rfl⟩
  refine ⟨_,(zdW (zdX (pv 0) (pv 1) rfl) (zes (zdX (pv 0) (pv 2) rfl))),?_⟩
  refine ⟨_,rfl,_,rfl,a,C,dx,_,rfl,ha,cl,n1,(by show 0<1000; decide),_,rfl,_,rfl,a,C,dx,_,rfl,zj,cl,n2,(by show 1<1000; decide),?_⟩
  have e:zee "words" v2 (zee "place" v1 ([]))=List.zip (["place","words"]:List Str) [v1,v2]:=by
   have q1:¬ ("place":Str)="words":=by decide +kernel
   simp only [zee,if_neg q1]; rfl
  simp only [zeg]; exact e ▸ k
theorem znL:FnScope ["self","place","node"] ["self","place","node"] (zf zaL):=sc0
theorem zlk {f C:Addr} {fd:FuncData} (F:Fun K "__init__" "PutIn.__init__" zaL f fd) (cl:Cls K C) (n1:zai K C "place") (n2:zai K C "node"):FnOk P w K mg base CX0 1 f fd ["self","place","node"] (zgo C ["place","node"]):=by
 refine F.ok znL (fun vs H Q E h=>?_) (fun cdv A outer s H vs Q E hr h=>?_)
 ·obtain ⟨a,dx,us,rfl,hl,_⟩:=h
  simpa using hl
 ·obtain ⟨a,dx,us,rfl,hl,ha,k⟩:=h
  obtain ⟨v1,v2,rfl⟩:∃ v1 v2,us=[v1,v2]:=by
   match us,hl with
   | [v1,v2],_=>exact ⟨v1,v2,rfl⟩
  refine ⟨_,(zdW (zdX (pv 0) (pv 1) rfl) (zes (zdX (pv 0) (pv 2) rfl))),?_⟩
  refine ⟨_,rfl,_,rfl,a,C,dx,_,rfl,ha,cl,n1,(by show 0<1000; decide),_,rfl,_,rfl,a,C,dx,_,rfl,zj,cl,n2,(by show 1<1000; decide),?_⟩
  have e:zee "node" v2 (zee "place" v1 ([]))=List.zip (["place","node"]:List Str) [v1,v2]:=by
   have q1:¬ ("place":Str)="node":=by decide +kernel
   simp only [zee,if_neg q1]; rfl
  simp only [zeg]; exact e ▸ k
theorem zja:FnScope ["self","place"] ["self","place"] (zf zaf):=sc0
theorem zhq {f C:Addr} {fd:FuncData} (F:Fun K "__init__" "LeaveOut.__init__" zaf f fd) (cl:Cls K C) (n1:zai K C "place"):FnOk P w K mg base CX0 1 f fd ["self","place"] (zgo C ["place"]):=by
 refine F.ok zja (fun vs H Q E h=>?_) (fun cdv A outer s H vs Q E hr h=>?_)
 ·obtain ⟨a,dx,us,rfl,hl,_⟩:=h
  simpa using hl
 ·obtain ⟨a,dx,us,rfl,hl,ha,k⟩:=h
  obtain ⟨v1,rfl⟩:∃ v1,us=[v1]:=by
   match us,hl with
   | [v1],_=>exact ⟨v1,rfl⟩
  refine ⟨_,(zes (zdX (pv 0) (pv 1) rfl)),?_⟩
  refine ⟨_,rfl,_,rfl,a,C,dx,_,rfl,ha,cl,n1,(by show 0<1000; decide),?_⟩
  have e:zee "place" v1 ([])=List.zip (["place"]:List Str) [v1]:=by
   rfl
  simp only [zeg]; exact e ▸ k
theorem zp6:FnScope ["self","place"] ["self","place"] (zf za5):=sc0
theorem zmL {f C:Addr} {fd:FuncData} (F:Fun K "__init__" "Anew.__init__" za5 f fd) (cl:Cls K C) (n1:zai K C "place"):FnOk P w K mg base CX0 1 f fd ["self","place"] (zgo C ["place"]):=by
 refine F.ok zp6 (fun vs H Q E h=>?_) (fun cdv A outer s H vs Q E hr h=>?_)
 ·obtain ⟨a,dx,us,rfl,hl,_⟩:=h
  simpa using hl
 ·obtain ⟨a,dx,us,rfl,hl,ha,k⟩:=h
  obtain ⟨v1,rfl⟩:∃ v1,us=[v1]:=by
   match us,hl with
   | [v1],_=>exact ⟨v1,rfl⟩
  refine ⟨_,(zes (zdX (pv 0) (pv 1) rfl)),?_⟩
  refine ⟨_,rfl,_,rfl,a,C,dx,_,rfl,ha,cl,n1,(by show 0<1000; decide),?_⟩
  have e:zee "place" v1 ([])=List.zip (["place"]:List Str) [v1]:=by
   rfl
  simp only [zeg]; exact e ▸ k
end
theorem tab_mem {T:List (Addr × Str)} {b:Addr} {q:Str} (h:T.lookup b=some q):b ∈ T.map (·.1):=by
 induction T with
 | nil=>cases h
 | cons x r ih =>
  obtain ⟨a,s⟩:=x
  by_cases e:b=a
  ·subst e; simp
  ·have e':(b == a)=false:=beq_eq_false_iff_ne.mpr e
   rw [List.lookup_cons,e'] at h; exact List.mem_cons_of_mem _ (ih h)
theorem all_mk {l:W.OpenLaw} {w:World} {K:W.Frag} {h:Heap} {mg:Str->Option Value} {fa f34 f36 j_Swap C_Swap j_Read C_Read j_PutIn C_PutIn j_LeaveOut C_LeaveOut j_Anew C_Anew w_Swap_reason w_Swap_done w_Read_reason w_Read_done w_PutIn_reason w_PutIn_done w_LeaveOut_reason w_LeaveOut_done w_Anew_reason w_Anew_done:Addr} (X:K.In h) (G:h.Ns mainGlobals mg) (hfa:mg "law"=some (.ref fa))
  {od34 an34 od36 an36:Option Addr} {sl34 sl36:Array (Option Value)} {oc34 kV34 dc34 pm34 ct34 oc36 kV36 dc36 pm36 cd36 ct36:Value}
  {jd_Swap jn_Swap:Option Addr} {js_Swap:Array (Option Value)} {jk_Swap jo_Swap jm_Swap je_Swap jt_Swap:Value}
  {jd_Read jn_Read:Option Addr} {js_Read:Array (Option Value)} {jk_Read jo_Read jm_Read je_Read jt_Read:Value}
  {jd_PutIn jn_PutIn:Option Addr} {js_PutIn:Array (Option Value)} {jk_PutIn jo_PutIn jm_PutIn je_PutIn jt_PutIn:Value}
  {jd_LeaveOut jn_LeaveOut:Option Addr} {js_LeaveOut:Array (Option Value)} {jk_LeaveOut jo_LeaveOut jm_LeaveOut je_LeaveOut jt_LeaveOut:Value}
  {jd_Anew jn_Anew:Option Addr} {js_Anew:Array (Option Value)} {jk_Anew jo_Anew jm_Anew je_Anew jt_Anew:Value}
  {jd_Swap_reason jn_Swap_reason:Option Addr} {js_Swap_reason:Array (Option Value)} {jk_Swap_reason jo_Swap_reason jm_Swap_reason je_Swap_reason jt_Swap_reason:Value}
  {jd_Swap_done jn_Swap_done:Option Addr} {js_Swap_done:Array (Option Value)} {jk_Swap_done jo_Swap_done jm_Swap_done je_Swap_done jt_Swap_done:Value}
  {jd_Read_reason jn_Read_reason:Option Addr} {js_Read_reason:Array (Option Value)} {jk_Read_reason jo_Read_reason jm_Read_reason je_Read_reason jt_Read_reason:Value}
  {jd_Read_done jn_Read_done:Option Addr} {js_Read_done:Array (Option Value)} {jk_Read_done jo_Read_done jm_Read_done je_Read_done jt_Read_done:Value}
  {jd_PutIn_reason jn_PutIn_reason:Option Addr} {js_PutIn_reason:Array (Option Value)} {jk_PutIn_reason jo_PutIn_reason jm_PutIn_reason je_PutIn_reason jt_PutIn_reason:Value}
  {jd_PutIn_done jn_PutIn_done:Option Addr} {js_PutIn_done:Array (Option Value)} {jk_PutIn_done jo_PutIn_done jm_PutIn_done je_PutIn_done jt_PutIn_done:Value}
  {jd_LeaveOut_reason jn_LeaveOut_reason:Option Addr} {js_LeaveOut_reason:Array (Option Value)} {jk_LeaveOut_reason jo_LeaveOut_reason jm_LeaveOut_reason je_LeaveOut_reason jt_LeaveOut_reason:Value}
  {jd_LeaveOut_done jn_LeaveOut_done:Option Addr} {js_LeaveOut_done:Array (Option Value)} {jk_LeaveOut_done jo_LeaveOut_done jm_LeaveOut_done je_LeaveOut_done jt_LeaveOut_done:Value}
  {jd_Anew_reason jn_Anew_reason:Option Addr} {js_Anew_reason:Array (Option Value)} {jk_Anew_reason jo_Anew_reason jm_Anew_reason je_Anew_reason jt_Anew_reason:Value}
  {jd_Anew_done jn_Anew_done:Option Addr} {js_Anew_done:Array (Option Value)} {jk_Anew_done jo_Anew_done jm_Anew_done je_Anew_done jt_Anew_done:Value}
  {x1:Str} {t1:Tok} {x2:Str} {t2:Tok} {x3:Int} {t3:Tok} {x4:Str} {t4:Tok} {x5:Str} {t5:Tok}
  {cc34 PT34:Addr}
  (D1:Dn K "figures_of" zcN)
  (D2:Dn K "kids_of_all" zcf)
  (D3:Dn K "kid_with" zep)
  (D4:Dn K "spots" zgV)
  (D5:Dn K "part_of" zfl)
  (D6:Dn K "is_at_or_above" zbk)
  (D7:Dn K "_law_label" zdD)
  (D8:Dn K "_law_word" zel)
  (D9:Dn K "_law_key" zfn)
  (D10:Dn K "_law_wide" zem)
  (D11:Dn K "label_rank" zcM)
  (D12:Dn K "deep" zlZ)
  (D13:Dn K "node_at" zfm)
  (D14:Dn K "has_words_of" zbW)
  (D15:Dn K "_law_words" zce)
  (D16:Dn K "_law_place" zdA)
  (D17:Dn K "label_before" zbV)
  (D18:Dn K "node_or_refusal" za0)
  (D19:Dn K "with_node" zcd)
  (D20:Dn K "place_reason" zbT)
  (D21:Dn K "deep_with" zdE)
  (D22:Dn K "have_common" zcg)
  (D23:Dn K "_law_nodes" zdC)
  (D24:Dn K "_law_change" zcL)
  (D25:Dn K "_law_made" zen)
  (D26:Dn K "with_words" zcJ)
  (D27:Dn K "with_kid" zc1)
  (D28:Dn K "without" zdU)
  (D29:Dn K "are_apart" zdF)
  (D30:Dn K "refuse_unfit" zbS)
  (D31:Dn K "_law_reason" zcK)
  (D32:Dn K "_law_both" zeo)
  (D33:Dn K "_law_noted" zdB)
  (a34:W.nsIn K mainGlobals "_law_tree"=some (some (.ref f34)))
  (l34:K.lookup f34=some ⟨oc34,od34,.func (W.fnOf "_law_tree" "_law_tree" (zP zaz) (zG zaz) (zf zaz) .none kV34 dc34 pm34 an34 (.ref cc34) ct34),sl34⟩)
  (c34:W.codeIn K (.ref cc34) "_law_tree"=true)
  (k34:W.keepIn K (.ref f34)=true)
  (D35:Dn K "_law_asked_so" zbU)
  (a36:W.nsIn K mainGlobals "law"=some (some (.ref f36)))
  (l36:K.lookup f36=some ⟨oc36,od36,.func (W.fnOf "law" "law" (zP zgb) (zG zgb) (zf zgb) .none kV36 dc36 pm36 an36 cd36 ct36),sl36⟩)
  (c36:W.codeIn K cd36 "law"=true)
  (k36:W.keepIn K (.ref f36)=true)
  (z1:W.nsIn K mainGlobals "abs"=some none)
  (z2:W.nsIn K mainGlobals "enumerate"=some none)
  (z3:W.nsIn K mainGlobals "int"=some none)
  (z4:W.nsIn K mainGlobals "isinstance"=some none)
  (z5:W.nsIn K mainGlobals "len"=some none)
  (z6:W.nsIn K mainGlobals "list"=some none)
  (z7:W.nsIn K mainGlobals "max"=some none)
  (z8:W.nsIn K mainGlobals "min"=some none)
  (z9:W.nsIn K mainGlobals "range"=some none)
  (z10:W.nsIn K mainGlobals "sorted"=some none)
  (z11:W.nsIn K mainGlobals "str"=some none)
  (z12:W.nsIn K mainGlobals "tuple"=some none)
  (g1:W.nsIn K mainGlobals "BENEATH"=some (some (.str x1 t1)))
  (e1:x1=st [98,101,110,101,97,116,104])
  (g2:W.nsIn K mainGlobals "FROM_ON"=some (some (.str x2 t2)))
  (e2:x2=st [102,114,111,109,32,111,110])
  (g3:W.nsIn K mainGlobals "MOST_DEEP"=some (some (.int x3 t3)))
  (e3:x3=9)
  (g4:W.nsIn K mainGlobals "SMALL_LETTERS"=some (some (.str x4 t4)))
  (e4:x4=st zs9)
  (g5:W.nsIn K mainGlobals "WORDS"=some (some (.str x5 t5)))
  (e5:x5=st [119,111,114,100,115])
  (aC_Swap:W.nsIn K mainGlobals "Swap"=some (some (.ref C_Swap)))
  (hdC_Swap:W.hasDictIn K C_Swap=true)
  (aI_Swap:W.findIn K (.ref C_Swap) "__init__"=some (some (.ref j_Swap)))
  (iI_Swap:W.isFn K (.ref j_Swap)=true)
  (lI_Swap:K.lookup j_Swap=some ⟨.type "function",jd_Swap,.func (W.fnOf "__init__" "Swap.__init__" (zP za1) (zG za1) (zf za1) .none jk_Swap jo_Swap jm_Swap jn_Swap je_Swap jt_Swap),js_Swap⟩)
  (cI_Swap:W.codeIn K je_Swap "Swap.__init__"=true)
  (kI_Swap:W.keepIn K (.ref j_Swap)=true)
  (pg_Swap:W.plainGet K C_Swap Str.empty=true)
  (po_Swap:W.plainOver K C_Swap=true)
  (sa_Swap:W.findIn K (.ref C_Swap) "__setattr__"=some (some (.builtin "object.__setattr__")))
  (mk_Swap:W.makesIn K C_Swap=true)
  (kc_Swap:W.keepIn K (.ref C_Swap)=true)
  (n_Swap_place:W.findIn K (.ref C_Swap) "place"=some none)
  (n_Swap_old:W.findIn K (.ref C_Swap) "old"=some none)
  (n_Swap_new:W.findIn K (.ref C_Swap) "new"=some none)
  (aC_Read:W.nsIn K mainGlobals "Read"=some (some (.ref C_Read)))
  (hdC_Read:W.hasDictIn K C_Read=true)
  (aI_Read:W.findIn K (.ref C_Read) "__init__"=some (some (.ref j_Read)))
  (iI_Read:W.isFn K (.ref j_Read)=true)
  (lI_Read:K.lookup j_Read=some ⟨.type "function",jd_Read,.func (W.fnOf "__init__" "Read.__init__" (zP za3) (zG za3) (zf za3) .none jk_Read jo_Read jm_Read jn_Read je_Read jt_Read),js_Read⟩)
  (cI_Read:W.codeIn K je_Read "Read.__init__"=true)
  (kI_Read:W.keepIn K (.ref j_Read)=true)
  (pg_Read:W.plainGet K C_Read Str.empty=true)
  (po_Read:W.plainOver K C_Read=true)
  (sa_Read:W.findIn K (.ref C_Read) "__setattr__"=some (some (.builtin "object.__setattr__")))
  (mk_Read:W.makesIn K C_Read=true)
  (kc_Read:W.keepIn K (.ref C_Read)=true)
  (n_Read_place:W.findIn K (.ref C_Read) "place"=some none)
  (n_Read_words:W.findIn K (.ref C_Read) "words"=some none)
  (aC_PutIn:W.nsIn K mainGlobals "PutIn"=some (some (.ref C_PutIn)))
  (hdC_PutIn:W.hasDictIn K C_PutIn=true)
  (aI_PutIn:W.findIn K (.ref C_PutIn) "__init__"=some (some (.ref j_PutIn)))
  (iI_PutIn:W.isFn K (.ref j_PutIn)=true)
  (lI_PutIn:K.lookup j_PutIn=some ⟨.type "function",jd_PutIn,.func (W.fnOf "__init__" "PutIn.__init__" (zP zaL) (zG zaL) (zf zaL) .none jk_PutIn jo_PutIn jm_PutIn jn_PutIn je_PutIn jt_PutIn),js_PutIn⟩)
  (cI_PutIn:W.codeIn K je_PutIn "PutIn.__init__"=true)
  (kI_PutIn:W.keepIn K (.ref j_PutIn)=true)
  (pg_PutIn:W.plainGet K C_PutIn Str.empty=true)
  (po_PutIn:W.plainOver K C_PutIn=true)
  (sa_PutIn:W.findIn K (.ref C_PutIn) "__setattr__"=some (some (.builtin "object.__setattr__")))
  (mk_PutIn:W.makesIn K C_PutIn=true)
  (kc_PutIn:W.keepIn K (.ref C_PutIn)=true)
  (n_PutIn_place:W.findIn K (.ref C_PutIn) "place"=some none)
  (n_PutIn_node:W.findIn K (.ref C_PutIn) "node"=some none)
  (aC_LeaveOut:W.nsIn K mainGlobals "LeaveOut"=some (some (.ref C_LeaveOut)))
  (hdC_LeaveOut:W.hasDictIn K C_LeaveOut=true)
  (aI_LeaveOut:W.findIn K (.ref C_LeaveOut) "__init__"=some (some (.ref j_LeaveOut)))
  (iI_LeaveOut:W.isFn K (.ref j_LeaveOut)=true)
  (lI_LeaveOut:K.lookup j_LeaveOut=some ⟨.type "function",jd_LeaveOut,.func (W.fnOf "__init__" "LeaveOut.__init__" (zP zaf) (zG zaf) (zf zaf) .none jk_LeaveOut jo_LeaveOut jm_LeaveOut jn_LeaveOut je_LeaveOut jt_LeaveOut),js_LeaveOut⟩)
  (cI_LeaveOut:W.codeIn K je_LeaveOut "LeaveOut.__init__"=true)
  (kI_LeaveOut:W.keepIn K (.ref j_LeaveOut)=true)
  (pg_LeaveOut:W.plainGet K C_LeaveOut Str.empty=true)
  (po_LeaveOut:W.plainOver K C_LeaveOut=true)
  (sa_LeaveOut:W.findIn K (.ref C_LeaveOut) "__setattr__"=some (some (.builtin "object.__setattr__")))
  (mk_LeaveOut:W.makesIn K C_LeaveOut=true)
  (kc_LeaveOut:W.keepIn K (.ref C_LeaveOut)=true)
  (n_LeaveOut_place:W.findIn K (.ref C_LeaveOut) "place"=some none)
  (aC_Anew:W.nsIn K mainGlobals "Anew"=some (some (.ref C_Anew)))
  (hdC_Anew:W.hasDictIn K C_Anew=true)
  (aI_Anew:W.findIn K (.ref C_Anew) "__init__"=some (some (.ref j_Anew)))
  (iI_Anew:W.isFn K (.ref j_Anew)=true)
  (lI_Anew:K.lookup j_Anew=some ⟨.type "function",jd_Anew,.func (W.fnOf "__init__" "Anew.__init__" (zP za5) (zG za5) (zf za5) .none jk_Anew jo_Anew jm_Anew jn_Anew je_Anew jt_Anew),js_Anew⟩)
  (cI_Anew:W.codeIn K je_Anew "Anew.__init__"=true)
  (kI_Anew:W.keepIn K (.ref j_Anew)=true)
  (pg_Anew:W.plainGet K C_Anew Str.empty=true)
  (po_Anew:W.plainOver K C_Anew=true)
  (sa_Anew:W.findIn K (.ref C_Anew) "__setattr__"=some (some (.builtin "object.__setattr__")))
  (mk_Anew:W.makesIn K C_Anew=true)
  (kc_Anew:W.keepIn K (.ref C_Anew)=true)
  (n_Anew_place:W.findIn K (.ref C_Anew) "place"=some none)
  (aM_Swap_reason:W.findIn K (.ref C_Swap) "reason"=some (some (.ref w_Swap_reason)))
  (iM_Swap_reason:W.isFn K (.ref w_Swap_reason)=true)
  (lI_Swap_reason:K.lookup w_Swap_reason=some ⟨.type "function",jd_Swap_reason,.func (W.fnOf "reason" "Swap.reason" (zP zaA) (zG zaA) (zf zaA) .none jk_Swap_reason jo_Swap_reason jm_Swap_reason jn_Swap_reason je_Swap_reason jt_Swap_reason),js_Swap_reason⟩)
  (cI_Swap_reason:W.codeIn K je_Swap_reason "Swap.reason"=true)
  (kI_Swap_reason:W.keepIn K (.ref w_Swap_reason)=true)
  (aM_Swap_done:W.findIn K (.ref C_Swap) "done"=some (some (.ref w_Swap_done)))
  (iM_Swap_done:W.isFn K (.ref w_Swap_done)=true)
  (lI_Swap_done:K.lookup w_Swap_done=some ⟨.type "function",jd_Swap_done,.func (W.fnOf "done" "Swap.done" (zP za2) (zG za2) (zf za2) .none jk_Swap_done jo_Swap_done jm_Swap_done jn_Swap_done je_Swap_done jt_Swap_done),js_Swap_done⟩)
  (cI_Swap_done:W.codeIn K je_Swap_done "Swap.done"=true)
  (kI_Swap_done:W.keepIn K (.ref w_Swap_done)=true)
  (aM_Read_reason:W.findIn K (.ref C_Read) "reason"=some (some (.ref w_Read_reason)))
  (iM_Read_reason:W.isFn K (.ref w_Read_reason)=true)
  (lI_Read_reason:K.lookup w_Read_reason=some ⟨.type "function",jd_Read_reason,.func (W.fnOf "reason" "Read.reason" (zP zaB) (zG zaB) (zf zaB) .none jk_Read_reason jo_Read_reason jm_Read_reason jn_Read_reason je_Read_reason jt_Read_reason),js_Read_reason⟩)
  (cI_Read_reason:W.codeIn K je_Read_reason "Read.reason"=true)
  (kI_Read_reason:W.keepIn K (.ref w_Read_reason)=true)
  (aM_Read_done:W.findIn K (.ref C_Read) "done"=some (some (.ref w_Read_done)))
  (iM_Read_done:W.isFn K (.ref w_Read_done)=true)
  (lI_Read_done:K.lookup w_Read_done=some ⟨.type "function",jd_Read_done,.func (W.fnOf "done" "Read.done" (zP za4) (zG za4) (zf za4) .none jk_Read_done jo_Read_done jm_Read_done jn_Read_done je_Read_done jt_Read_done),js_Read_done⟩)
  (cI_Read_done:W.codeIn K je_Read_done "Read.done"=true)
  (kI_Read_done:W.keepIn K (.ref w_Read_done)=true)
  (aM_PutIn_reason:W.findIn K (.ref C_PutIn) "reason"=some (some (.ref w_PutIn_reason)))
  (iM_PutIn_reason:W.isFn K (.ref w_PutIn_reason)=true)
  (lI_PutIn_reason:K.lookup w_PutIn_reason=some ⟨.type "function",jd_PutIn_reason,.func (W.fnOf "reason" "PutIn.reason" (zP zap) (zG zap) (zf zap) .none jk_PutIn_reason jo_PutIn_reason jm_PutIn_reason jn_PutIn_reason je_PutIn_reason jt_PutIn_reason),js_PutIn_reason⟩)
  (cI_PutIn_reason:W.codeIn K je_PutIn_reason "PutIn.reason"=true)
  (kI_PutIn_reason:W.keepIn K (.ref w_PutIn_reason)=true)
  (aM_PutIn_done:W.findIn K (.ref C_PutIn) "done"=some (some (.ref w_PutIn_done)))
  (iM_PutIn_done:W.isFn K (.ref w_PutIn_done)=true)
  (lI_PutIn_done:K.lookup w_PutIn_done=some ⟨.type "function",jd_PutIn_done,.func (W.fnOf "done" "PutIn.done" (zP zaM) (zG zaM) (zf zaM) .none jk_PutIn_done jo_PutIn_done jm_PutIn_done jn_PutIn_done je_PutIn_done jt_PutIn_done),js_PutIn_done⟩)
  (cI_PutIn_done:W.codeIn K je_PutIn_done "PutIn.done"=true)
  (kI_PutIn_done:W.keepIn K (.ref w_PutIn_done)=true)
  (aM_LeaveOut_reason:W.findIn K (.ref C_LeaveOut) "reason"=some (some (.ref w_LeaveOut_reason)))
  (iM_LeaveOut_reason:W.isFn K (.ref w_LeaveOut_reason)=true)
  (lI_LeaveOut_reason:K.lookup w_LeaveOut_reason=some ⟨.type "function",jd_LeaveOut_reason,.func (W.fnOf "reason" "LeaveOut.reason" (zP zT) (zG zT) (zf zT) .none jk_LeaveOut_reason jo_LeaveOut_reason jm_LeaveOut_reason jn_LeaveOut_reason je_LeaveOut_reason jt_LeaveOut_reason),js_LeaveOut_reason⟩)
  (cI_LeaveOut_reason:W.codeIn K je_LeaveOut_reason "LeaveOut.reason"=true)
  (kI_LeaveOut_reason:W.keepIn K (.ref w_LeaveOut_reason)=true)
  (aM_LeaveOut_done:W.findIn K (.ref C_LeaveOut) "done"=some (some (.ref w_LeaveOut_done)))
  (iM_LeaveOut_done:W.isFn K (.ref w_LeaveOut_done)=true)
  (lI_LeaveOut_done:K.lookup w_LeaveOut_done=some ⟨.type "function",jd_LeaveOut_done,.func (W.fnOf "done" "LeaveOut.done" (zP zag) (zG zag) (zf zag) .none jk_LeaveOut_done jo_LeaveOut_done jm_LeaveOut_done jn_LeaveOut_done je_LeaveOut_done jt_LeaveOut_done),js_LeaveOut_done⟩)
  (cI_LeaveOut_done:W.codeIn K je_LeaveOut_done "LeaveOut.done"=true)
  (kI_LeaveOut_done:W.keepIn K (.ref w_LeaveOut_done)=true)
  (aM_Anew_reason:W.findIn K (.ref C_Anew) "reason"=some (some (.ref w_Anew_reason)))
  (iM_Anew_reason:W.isFn K (.ref w_Anew_reason)=true)
  (lI_Anew_reason:K.lookup w_Anew_reason=some ⟨.type "function",jd_Anew_reason,.func (W.fnOf "reason" "Anew.reason" (zP zaC) (zG zaC) (zf zaC) .none jk_Anew_reason jo_Anew_reason jm_Anew_reason jn_Anew_reason je_Anew_reason jt_Anew_reason),js_Anew_reason⟩)
  (cI_Anew_reason:W.codeIn K je_Anew_reason "Anew.reason"=true)
  (kI_Anew_reason:W.keepIn K (.ref w_Anew_reason)=true)
  (aM_Anew_done:W.findIn K (.ref C_Anew) "done"=some (some (.ref w_Anew_done)))
  (iM_Anew_done:W.isFn K (.ref w_Anew_done)=true)
  (lI_Anew_done:K.lookup w_Anew_done=some ⟨.type "function",jd_Anew_done,.func (W.fnOf "done" "Anew.done" (zP zaI) (zG zaI) (zf zaI) .none jk_Anew_done jo_Anew_done jm_Anew_done jn_Anew_done je_Anew_done jt_Anew_done),js_Anew_done⟩)
  (cI_Anew_done:W.codeIn K je_Anew_done "Anew.done"=true)
  (kI_Anew_done:W.keepIn K (.ref w_Anew_done)=true)
  (hn:W.specialIn K (.builtin "object.__class__") "__get__"=some (some (.builtin "getset_descriptor.__get__")))
  (htk:W.takesIn K (.builtin "object.__class__")=some true)
  (ty_Swap:W.typeIn K (.ref C_Swap)=some (.type "type"))
  (ha_Swap:W.findIn K (.ref C_Swap) "__class__"=some (some (.builtin "object.__class__")))
  (hm_Swap:W.mroIn K C_Swap (.type "object")=some true)
  (ty_Read:W.typeIn K (.ref C_Read)=some (.type "type"))
  (ha_Read:W.findIn K (.ref C_Read) "__class__"=some (some (.builtin "object.__class__")))
  (hm_Read:W.mroIn K C_Read (.type "object")=some true)
  (ty_PutIn:W.typeIn K (.ref C_PutIn)=some (.type "type"))
  (ha_PutIn:W.findIn K (.ref C_PutIn) "__class__"=some (some (.builtin "object.__class__")))
  (hm_PutIn:W.mroIn K C_PutIn (.type "object")=some true)
  (ty_LeaveOut:W.typeIn K (.ref C_LeaveOut)=some (.type "type"))
  (ha_LeaveOut:W.findIn K (.ref C_LeaveOut) "__class__"=some (some (.builtin "object.__class__")))
  (hm_LeaveOut:W.mroIn K C_LeaveOut (.type "object")=some true)
  (ty_Anew:W.typeIn K (.ref C_Anew)=some (.type "type"))
  (ha_Anew:W.findIn K (.ref C_Anew) "__class__"=some (some (.builtin "object.__class__")))
  (hm_Anew:W.mroIn K C_Anew (.type "object")=some true)
  (q_Swap_PutIn:W.mroIn K C_Swap (.ref C_PutIn)=some false)
  (r_Swap_PutIn:(Value.ref C_Swap == Value.ref C_PutIn)=false)
  (q_Swap_LeaveOut:W.mroIn K C_Swap (.ref C_LeaveOut)=some false)
  (r_Swap_LeaveOut:(Value.ref C_Swap == Value.ref C_LeaveOut)=false)
  (q_Swap_Anew:W.mroIn K C_Swap (.ref C_Anew)=some false)
  (r_Swap_Anew:(Value.ref C_Swap == Value.ref C_Anew)=false)
  (q_Read_PutIn:W.mroIn K C_Read (.ref C_PutIn)=some false)
  (r_Read_PutIn:(Value.ref C_Read == Value.ref C_PutIn)=false)
  (q_Read_LeaveOut:W.mroIn K C_Read (.ref C_LeaveOut)=some false)
  (r_Read_LeaveOut:(Value.ref C_Read == Value.ref C_LeaveOut)=false)
  (q_Read_Anew:W.mroIn K C_Read (.ref C_Anew)=some false)
  (r_Read_Anew:(Value.ref C_Read == Value.ref C_Anew)=false)
  (q_LeaveOut_PutIn:W.mroIn K C_LeaveOut (.ref C_PutIn)=some false)
  (r_LeaveOut_PutIn:(Value.ref C_LeaveOut == Value.ref C_PutIn)=false)
  (q_Anew_PutIn:W.mroIn K C_Anew (.ref C_PutIn)=some false)
  (r_Anew_PutIn:(Value.ref C_Anew == Value.ref C_PutIn)=false)
  (q_Anew_LeaveOut:W.mroIn K C_Anew (.ref C_LeaveOut)=some false)
  (r_Anew_LeaveOut:(Value.ref C_Anew == Value.ref C_LeaveOut)=false)
  (hL34:W.codeHdIn K cc34 PT34=true)
  (nL34:K.lookup PT34=none)
  (tL34:([(PT34,"_law_tree.<locals>.<lambda>")]:List (Addr × Str)).lookup PT34=some "_law_tree.<locals>.<lambda>")
  :
  (∀ b q,([(PT34,"_law_tree.<locals>.<lambda>")]:List (Addr × Str)).lookup b=some q->(∃ c,W.codeHdIn K c b=true)/\K.lookup b=none) /\
  ∃ fd:FuncData,(∀ (s:Shared) (v:Value),BindsTo s fd ⟨[v],[]⟩ [("_law_script",v)])/\∀ base:Heap,K.In base->base.Ns mainGlobals mg->(∀ b q,([(PT34,"_law_tree.<locals>.<lambda>")]:List (Addr × Str)).lookup b=some q->base.objs[b]?=some (zeI q))->FnOk l.prog w K mg base CX0 17 fa fd ["_law_script"] (zlU K zkT):=by
 subst e1; subst e2; subst e3; subst e4; subst e5
 have d1:=D1.df X G ["label"] <| ar1 fun _ _ _ _ _ _ _=>rfl
 have d2:=D2.df X G ["nodes"] <| ar1 fun _ _ _ _ _ _ _=>rfl
 have d3:=D3.df X G ["node","label"] <| ar2 fun _ _ _ _ _ _ _ _=>rfl
 have d4:=D4.df X G ["words","old"] <| ar2 fun _ _ _ _ _ _ _ _=>rfl
 have d5:=D5.df X G ["change"] <| ar1 fun _ _ _ _ _ _ _=>rfl
 have d6:=D6.df X G ["place","lower"] <| ar2 fun _ _ _ _ _ _ _ _=>rfl
 have d7:=D7.df X G ["_law_cell"] <| ar1 fun _ _ _ _ _ _ _=>rfl
 have d8:=D8.df X G ["_law_cell"] <| ar1 fun _ _ _ _ _ _ _=>rfl
 have d9:=D9.df X G ["_law_label_here"] <| ar1 fun _ _ _ _ _ _ _=>rfl
 have d10:=D10.df X G ["_law_script"] <| ar1 fun _ _ _ _ _ _ _=>rfl
 have d11:=D11.df X G ["label"] <| ar1 fun _ _ _ _ _ _ _=>rfl
 have d12:=D12.df X G ["node"] <| ar1 fun _ _ _ _ _ _ _=>rfl
 have d13:=D13.df X G ["tree","place"] <| ar2 fun _ _ _ _ _ _ _ _=>rfl
 have d14:=D14.df X G ["part","place"] <| ar2 fun _ _ _ _ _ _ _ _=>rfl
 have d15:=D15.df X G ["_law_cell"] <| ar1 fun _ _ _ _ _ _ _=>rfl
 have d16:=D16.df X G ["_law_nodes_here","_law_cell"] <| ar2 fun _ _ _ _ _ _ _ _=>rfl
 have d17:=D17.df X G ["one","other"] <| ar2 fun _ _ _ _ _ _ _ _=>rfl
 have d18:=D18.df X G ["tree","place"] <| ar2 fun _ _ _ _ _ _ _ _=>rfl
 have d19:=D19.df X G ["tree","place","node"] <| ar3 fun _ _ _ _ _ _ _ _ _=>rfl
 have d20:=D20.df X G ["tree","place"] <| ar2 fun _ _ _ _ _ _ _ _=>rfl
 have d21:=D21.df X G ["tree","place","node"] <| ar3 fun _ _ _ _ _ _ _ _ _=>rfl
 have d22:=D22.df X G ["one","other"] <| ar2 fun _ _ _ _ _ _ _ _=>rfl
 have d23:=D23.df X G ["_law_cells"] <| ar1 fun _ _ _ _ _ _ _=>rfl
 have d24:=D24.df X G ["_law_nodes_here","_law_cell","_law_more"] <| ar3 fun _ _ _ _ _ _ _ _ _=>rfl
 have d25:=D25.df X G ["_law_one"] <| ar1 fun _ _ _ _ _ _ _=>rfl
 have d26:=D26.df X G ["tree","place","words"] <| ar3 fun _ _ _ _ _ _ _ _ _=>rfl
 have d27:=D27.df X G ["tree","place","node"] <| ar3 fun _ _ _ _ _ _ _ _ _=>rfl
 have d28:=D28.df X G ["tree","place"] <| ar2 fun _ _ _ _ _ _ _ _=>rfl
 have d29:=D29.df X G ["one","other"] <| ar2 fun _ _ _ _ _ _ _ _=>rfl
 have d30:=D30.df X G ["change","tree"] <| ar2 fun _ _ _ _ _ _ _ _=>rfl
 have d31:=D31.df X G ["_law_change_here","_law_tree_here"] <| ar2 fun _ _ _ _ _ _ _ _=>rfl
 have d32:=D32.df X G ["_law_tree_here","_law_one","_law_other"] <| ar3 fun _ _ _ _ _ _ _ _ _=>rfl
 have d33:=D33.df X G ["_law_tree_here","_law_place_here","_law_found"] <| ar3 fun _ _ _ _ _ _ _ _ _=>rfl
 have F34:=zaW (st:=zaz) l34 c34 k34; have m34:=W.mg_of X G a34
 have b34:=F34.binds (ps:=["_law_nodes_here","_law_place_here"]) <| ar2 fun _ _ _ _ _ _ _ _=>rfl
 have d34:Df K mg "_law_tree" zaz ["_law_nodes_here","_law_place_here"]:=⟨f34,_,F34,b34,m34⟩
 have d35:=D35.df X G ["_law_script"] <| ar1 fun _ _ _ _ _ _ _=>rfl
 have F36:=zaW (st:=zgb) l36 c36 k36; have m36:=W.mg_of X G a36
 have b36:=F36.binds (ps:=["_law_script"]) <| ar1 fun _ _ _ _ _ _ _=>rfl
 have d36:Df K mg "law" zgb ["_law_script"]:=⟨f36,_,F36,b36,m36⟩
 have z_abs:=W.mg_none_of X G z1; have z_enumerate:=W.mg_none_of X G z2; have z_int:=W.mg_none_of X G z3; have z_isinstance:=W.mg_none_of X G z4; have z_len:=W.mg_none_of X G z5; have z_list:=W.mg_none_of X G z6; have z_max:=W.mg_none_of X G z7; have z_min:=W.mg_none_of X G z8; have z_range:=W.mg_none_of X G z9; have z_sorted:=W.mg_none_of X G z10; have z_str:=W.mg_none_of X G z11; have z_tuple:=W.mg_none_of X G z12; have g_BENEATH:=W.mg_of X G g1; have g_FROM_ON:=W.mg_of X G g2; have g_MOST_DEEP:=W.mg_of X G g3; have g_SMALL_LETTERS:=W.mg_of X G g4; have g_WORDS:=W.mg_of X G g5; have m_Swap:=W.mg_of X G aC_Swap
 have cl_Swap:Cls K C_Swap:=⟨pg_Swap,hdC_Swap,po_Swap,sa_Swap⟩
 have FI_Swap:=zaW (st:=za1) lI_Swap cI_Swap kI_Swap
 have bI_Swap:=FI_Swap.binds (ps:=["self","place","old","new"]) <| ar4 fun _ _ _ _ _ _ _ _ _ _=>rfl
 have m_Read:=W.mg_of X G aC_Read
 have cl_Read:Cls K C_Read:=⟨pg_Read,hdC_Read,po_Read,sa_Read⟩
 have FI_Read:=zaW (st:=za3) lI_Read cI_Read kI_Read
 have bI_Read:=FI_Read.binds (ps:=["self","place","words"]) <| ar3 fun _ _ _ _ _ _ _ _ _=>rfl
 have m_PutIn:=W.mg_of X G aC_PutIn
 have cl_PutIn:Cls K C_PutIn:=⟨pg_PutIn,hdC_PutIn,po_PutIn,sa_PutIn⟩
 have FI_PutIn:=zaW (st:=zaL) lI_PutIn cI_PutIn kI_PutIn
 have bI_PutIn:=FI_PutIn.binds (ps:=["self","place","node"]) <| ar3 fun _ _ _ _ _ _ _ _ _=>rfl
 have m_LeaveOut:=W.mg_of X G aC_LeaveOut
 have cl_LeaveOut:Cls K C_LeaveOut:=⟨pg_LeaveOut,hdC_LeaveOut,po_LeaveOut,sa_LeaveOut⟩
 have FI_LeaveOut:=zaW (st:=zaf) lI_LeaveOut cI_LeaveOut kI_LeaveOut
 have bI_LeaveOut:=FI_LeaveOut.binds (ps:=["self","place"]) <| ar2 fun _ _ _ _ _ _ _ _=>rfl
 have m_Anew:=W.mg_of X G aC_Anew
 have cl_Anew:Cls K C_Anew:=⟨pg_Anew,hdC_Anew,po_Anew,sa_Anew⟩
 have FI_Anew:=zaW (st:=za5) lI_Anew cI_Anew kI_Anew
 have bI_Anew:=FI_Anew.binds (ps:=["self","place"]) <| ar2 fun _ _ _ _ _ _ _ _=>rfl
 have FI_Swap_reason:=zaW (st:=zaA) lI_Swap_reason cI_Swap_reason kI_Swap_reason
 have bI_Swap_reason:=FI_Swap_reason.binds (ps:=["self","tree"]) <| ar2 fun _ _ _ _ _ _ _ _=>rfl
 have FI_Swap_done:=zaW (st:=za2) lI_Swap_done cI_Swap_done kI_Swap_done
 have bI_Swap_done:=FI_Swap_done.binds (ps:=["self","tree"]) <| ar2 fun _ _ _ _ _ _ _ _=>rfl
 have FI_Read_reason:=zaW (st:=zaB) lI_Read_reason cI_Read_reason kI_Read_reason
 have bI_Read_reason:=FI_Read_reason.binds (ps:=["self","tree"]) <| ar2 fun _ _ _ _ _ _ _ _=>rfl
 have FI_Read_done:=zaW (st:=za4) lI_Read_done cI_Read_done kI_Read_done
 have bI_Read_done:=FI_Read_done.binds (ps:=["self","tree"]) <| ar2 fun _ _ _ _ _ _ _ _=>rfl
 have FI_PutIn_reason:=zaW (st:=zap) lI_PutIn_reason cI_PutIn_reason kI_PutIn_reason
 have bI_PutIn_reason:=FI_PutIn_reason.binds (ps:=["self","tree"]) <| ar2 fun _ _ _ _ _ _ _ _=>rfl
 have FI_PutIn_done:=zaW (st:=zaM) lI_PutIn_done cI_PutIn_done kI_PutIn_done
 have bI_PutIn_done:=FI_PutIn_done.binds (ps:=["self","tree"]) <| ar2 fun _ _ _ _ _ _ _ _=>rfl
 have FI_LeaveOut_reason:=zaW (st:=zT) lI_LeaveOut_reason cI_LeaveOut_reason kI_LeaveOut_reason
 have bI_LeaveOut_reason:=FI_LeaveOut_reason.binds (ps:=["self","tree"]) <| ar2 fun _ _ _ _ _ _ _ _=>rfl
 have FI_LeaveOut_done:=zaW (st:=zag) lI_LeaveOut_done cI_LeaveOut_done kI_LeaveOut_done
 have bI_LeaveOut_done:=FI_LeaveOut_done.binds (ps:=["self","tree"]) <| ar2 fun _ _ _ _ _ _ _ _=>rfl
 have FI_Anew_reason:=zaW (st:=zaC) lI_Anew_reason cI_Anew_reason kI_Anew_reason
 have bI_Anew_reason:=FI_Anew_reason.binds (ps:=["self","tree"]) <| ar2 fun _ _ _ _ _ _ _ _=>rfl
 have FI_Anew_done:=zaW (st:=zaI) lI_Anew_done cI_Anew_done kI_Anew_done
 have bI_Anew_done:=FI_Anew_done.binds (ps:=["self","tree"]) <| ar2 fun _ _ _ _ _ _ _ _=>rfl
 have cf:CF K ⟨C_Swap,C_Read,C_PutIn,C_LeaveOut,C_Anew⟩:=⟨⟨cl_Swap,ha_Swap,hn,htk,hm_Swap⟩,⟨cl_Read,ha_Read,hn,htk,hm_Read⟩,⟨cl_PutIn,ha_PutIn,hn,htk,hm_PutIn⟩,⟨cl_LeaveOut,ha_LeaveOut,hn,htk,hm_LeaveOut⟩,⟨cl_Anew,ha_Anew,hn,htk,hm_Anew⟩,n_Swap_place,n_Swap_old,n_Swap_new,n_Read_place,n_Read_words,n_PutIn_place,n_PutIn_node,n_LeaveOut_place,n_Anew_place,zcn hdC_PutIn ty_PutIn q_Swap_PutIn (.inr r_Swap_PutIn),zcn hdC_LeaveOut ty_LeaveOut q_Swap_LeaveOut (.inr r_Swap_LeaveOut),zcn hdC_Anew ty_Anew q_Swap_Anew (.inr r_Swap_Anew),zcn hdC_PutIn ty_PutIn q_Read_PutIn (.inr r_Read_PutIn),zcn hdC_LeaveOut ty_LeaveOut q_Read_LeaveOut (.inr r_Read_LeaveOut),zcn hdC_Anew ty_Anew q_Read_Anew (.inr r_Read_Anew),zhn,zcn hdC_PutIn ty_PutIn q_LeaveOut_PutIn (.inr r_LeaveOut_PutIn),zhn,zcn hdC_PutIn ty_PutIn q_Anew_PutIn (.inr r_Anew_PutIn),zcn hdC_LeaveOut ty_LeaveOut q_Anew_LeaveOut (.inr r_Anew_LeaveOut),zhn⟩
 have e:=hfa.symm.trans m36; cases e
 refine ⟨fun b q e=>?_,?_⟩
 ·have:=tab_mem e
  simp only [List.map_cons,List.map_nil,List.mem_cons,List.not_mem_nil,or_false] at this
  rcases this with rfl
  ·exact ⟨⟨_,hL34⟩,nL34⟩
 refine ⟨W.fnOf "law" "law" (zP zgb) (zG zgb) (zf zgb) .none kV36 dc36 pm36 an36 cd36 ct36,fun s v=>.of_eq rfl,fun base _ _ hmk=>?_⟩
 have lo_law_tree:LamOf K mg base "_law_tree" "_law_tree.<locals>.<lambda>":=⟨⟨cc34,PT34,fun f fd oc od sl m lk=>by
  rw [m34] at m; cases m; rw [l34] at lk; cases lk
  rfl,hL34,hmk _ _ tL34⟩,by decide +kernel⟩
 have M_Swap:Mak l.prog w K mg base 1 "Swap" C_Swap ["place","old","new"]:=⟨j_Swap,_,["self","place","old","new"],⟨mk_Swap,aI_Swap,iI_Swap,kc_Swap⟩,zmJ FI_Swap cl_Swap n_Swap_place n_Swap_old n_Swap_new,bI_Swap,m_Swap⟩
 have M_Read:Mak l.prog w K mg base 1 "Read" C_Read ["place","words"]:=⟨j_Read,_,["self","place","words"],⟨mk_Read,aI_Read,iI_Read,kc_Read⟩,zmK FI_Read cl_Read n_Read_place n_Read_words,bI_Read,m_Read⟩
 have M_PutIn:Mak l.prog w K mg base 1 "PutIn" C_PutIn ["place","node"]:=⟨j_PutIn,_,["self","place","node"],⟨mk_PutIn,aI_PutIn,iI_PutIn,kc_PutIn⟩,zlk FI_PutIn cl_PutIn n_PutIn_place n_PutIn_node,bI_PutIn,m_PutIn⟩
 have M_LeaveOut:Mak l.prog w K mg base 1 "LeaveOut" C_LeaveOut ["place"]:=⟨j_LeaveOut,_,["self","place"],⟨mk_LeaveOut,aI_LeaveOut,iI_LeaveOut,kc_LeaveOut⟩,zhq FI_LeaveOut cl_LeaveOut n_LeaveOut_place,bI_LeaveOut,m_LeaveOut⟩
 have M_Anew:Mak l.prog w K mg base 1 "Anew" C_Anew ["place"]:=⟨j_Anew,_,["self","place"],⟨mk_Anew,aI_Anew,iI_Anew,kc_Anew⟩,zmL FI_Anew cl_Anew n_Anew_place,bI_Anew,m_Anew⟩
 have G_figures_of:Fn l.prog w K mg base 1 "figures_of" ["label"] zbr:=zhd d1 g_SMALL_LETTERS
 have G_kids_of_all:Fn l.prog w K mg base 1 "kids_of_all" ["nodes"] za7:=zgd d2 
 have G_kid_with:Fn l.prog w K mg base 1 "kid_with" ["node","label"] zal:=zju d3 
 have G_spots:Fn l.prog w K mg base 1 "spots" ["words","old"] zeR:=zok d4 z_len z_range
 have G_part_of:Fn l.prog w K mg base 1 "part_of" ["change"] (zcY ⟨C_Swap,C_Read,C_PutIn,C_LeaveOut,C_Anew⟩):=zk9 d5 cf z_isinstance g_BENEATH g_FROM_ON g_WORDS m_Anew m_LeaveOut m_PutIn
 have G_is_at_or_above:Fn l.prog w K mg base 1 "is_at_or_above" ["place","lower"] zS:=zeu d6 z_len
 have G_law_label:Fn l.prog w K mg base 1 "_law_label" ["_law_cell"] zL:=zig d7 z_str
 have G_law_word:Fn l.prog w K mg base 1 "_law_word" ["_law_cell"] zaY:=zjp d8 z_range
 have G_law_key:Fn l.prog w K mg base 1 "_law_key" ["_law_label_here"] zcZ:=zlb d9 z_int z_len
 have G_law_wide:Fn l.prog w K mg base 1 "_law_wide" ["_law_script"] zdz:=zjq d10 z_abs z_len
 have G_label_rank:Fn l.prog w K mg base 2 "label_rank" ["label"] zb9:=zhc d11 G_figures_of z_int z_len
 have G_deep:Fn l.prog w K mg base 2 "deep" ["node"] zi8:=zqU d12 G_kids_of_all z_len
 have G_node_at:Fn l.prog w K mg base 2 "node_at" ["tree","place"] zH:=zla d13 G_kid_with
 have G_has_words_of:Fn l.prog w K mg base 2 "has_words_of" ["part","place"] zaQ:=zfx d14 G_is_at_or_above g_FROM_ON g_WORDS
 have G_law_words:Fn l.prog w K mg base 2 "_law_words" ["_law_cell"] zak:=zic d15 G_law_word z_range z_tuple
 have G_law_place:Fn l.prog w K mg base 2 "_law_place" ["_law_nodes_here","_law_cell"] zbG:=zid d16 G_law_label z_len z_list
 have G_label_before:Fn l.prog w K mg base 3 "label_before" ["one","other"] zav:=zfw d17 G_label_rank
 have G_node_or_refusal:Fn l.prog w K mg base 3 "node_or_refusal" ["tree","place"] zab:=zd3 d18 G_node_at
 have G_with_node:Fn l.prog w K mg base 3 "with_node" ["tree","place","node"] zas:=zib d19 G_node_at z_len z_range z_tuple
 have G_place_reason:Fn l.prog w K mg base 3 "place_reason" ["tree","place"] zat:=zfu d20 G_node_at
 have G_deep_with:Fn l.prog w K mg base 3 "deep_with" ["tree","place","node"] zcD:=zih d21 G_deep z_len z_max
 have G_have_common:Fn l.prog w K mg base 3 "have_common" ["one","other"] za8:=zge d22 G_has_words_of G_is_at_or_above g_WORDS
 have G_law_nodes:Fn l.prog w K mg base 3 "_law_nodes" ["_law_cells"] zcC:=zif d23 G_law_label G_law_words z_len
 have G_law_change:Fn l.prog w K mg base 3 "_law_change" ["_law_nodes_here","_law_cell","_law_more"] zbq:=zhb d24 G_law_label G_law_words G_law_place z_range
 have G_law_made:Fn l.prog w K mg base 3 "_law_made" ["_law_one"] (zb7 ⟨C_Swap,C_Read,C_PutIn,C_LeaveOut,C_Anew⟩):=zjs d25 cf M_Anew M_LeaveOut M_PutIn M_Read M_Swap
 have M_Swap_reason:Mth l.prog w K mg base 3 C_Swap "reason" ["self","tree"] (za9 ⟨C_Swap,C_Read,C_PutIn,C_LeaveOut,C_Anew⟩):=zgf FI_Swap_reason bI_Swap_reason ⟨aM_Swap_reason,iM_Swap_reason,kI_Swap_reason⟩ cl_Swap cf G_node_at G_spots z_len
 have G_with_words:Fn l.prog w K mg base 4 "with_words" ["tree","place","words"] zbp:=zg8 d26 G_node_or_refusal G_with_node
 have G_with_kid:Fn l.prog w K mg base 4 "with_kid" ["tree","place","node"] zdy:=zjo d27 G_label_before G_kid_with G_node_or_refusal G_with_node z_len z_tuple
 have G_without:Fn l.prog w K mg base 4 "without" ["tree","place"] zeh:=zk8 d28 G_node_at G_node_or_refusal G_with_node z_tuple
 have G_are_apart:Fn l.prog w K mg base 4 "are_apart" ["one","other"] (zbH ⟨C_Swap,C_Read,C_PutIn,C_LeaveOut,C_Anew⟩):=zii d29 cf G_part_of G_have_common
 have M_Read_reason:Mth l.prog w K mg base 4 C_Read "reason" ["self","tree"] (zba ⟨C_Swap,C_Read,C_PutIn,C_LeaveOut,C_Anew⟩):=zgg FI_Read_reason bI_Read_reason ⟨aM_Read_reason,iM_Read_reason,kI_Read_reason⟩ cl_Read cf G_place_reason
 have M_PutIn_reason:Mth l.prog w K mg base 4 C_PutIn "reason" ["self","tree"] (zaR ⟨C_Swap,C_Read,C_PutIn,C_LeaveOut,C_Anew⟩):=zfz FI_PutIn_reason bI_PutIn_reason ⟨aM_PutIn_reason,iM_PutIn_reason,kI_PutIn_reason⟩ cl_PutIn cf G_node_at G_kid_with G_deep_with g_MOST_DEEP
 have M_LeaveOut_reason:Mth l.prog w K mg base 4 C_LeaveOut "reason" ["self","tree"] (zar ⟨C_Swap,C_Read,C_PutIn,C_LeaveOut,C_Anew⟩):=zd4 FI_LeaveOut_reason bI_LeaveOut_reason ⟨aM_LeaveOut_reason,iM_LeaveOut_reason,kI_LeaveOut_reason⟩ cl_LeaveOut cf G_place_reason
 have M_Anew_reason:Mth l.prog w K mg base 4 C_Anew "reason" ["self","tree"] (zbb ⟨C_Swap,C_Read,C_PutIn,C_LeaveOut,C_Anew⟩):=zgh FI_Anew_reason bI_Anew_reason ⟨aM_Anew_reason,iM_Anew_reason,kI_Anew_reason⟩ cl_Anew cf G_place_reason
 have G_refuse_unfit:Fn l.prog w K mg base 5 "refuse_unfit" ["change","tree"] (zW ⟨C_Swap,C_Read,C_PutIn,C_LeaveOut,C_Anew⟩):=zft d30 cf M_Anew_reason M_LeaveOut_reason M_PutIn_reason M_Read_reason M_Swap_reason
 have G_law_reason:Fn l.prog w K mg base 5 "_law_reason" ["_law_change_here","_law_tree_here"] (zb6 ⟨C_Swap,C_Read,C_PutIn,C_LeaveOut,C_Anew⟩):=zha d31 cf z_isinstance z_str M_Anew_reason M_LeaveOut_reason M_PutIn_reason M_Read_reason M_Swap_reason
 have M_Swap_done:Mth l.prog w K mg base 6 C_Swap "done" ["self","tree"] (zbI ⟨C_Swap,C_Read,C_PutIn,C_LeaveOut,C_Anew⟩):=zij FI_Swap_done bI_Swap_done ⟨aM_Swap_done,iM_Swap_done,kI_Swap_done⟩ cl_Swap cf G_node_at G_with_words G_refuse_unfit G_spots z_len
 have M_Read_done:Mth l.prog w K mg base 6 C_Read "done" ["self","tree"] (zbJ ⟨C_Swap,C_Read,C_PutIn,C_LeaveOut,C_Anew⟩):=zik FI_Read_done bI_Read_done ⟨aM_Read_done,iM_Read_done,kI_Read_done⟩ cl_Read cf G_with_words G_refuse_unfit
 have M_PutIn_done:Mth l.prog w K mg base 6 C_PutIn "done" ["self","tree"] (zbs ⟨C_Swap,C_Read,C_PutIn,C_LeaveOut,C_Anew⟩):=zhf FI_PutIn_done bI_PutIn_done ⟨aM_PutIn_done,iM_PutIn_done,kI_PutIn_done⟩ cl_PutIn cf G_with_kid G_refuse_unfit
 have M_LeaveOut_done:Mth l.prog w K mg base 6 C_LeaveOut "done" ["self","tree"] (zaH ⟨C_Swap,C_Read,C_PutIn,C_LeaveOut,C_Anew⟩):=zeN FI_LeaveOut_done bI_LeaveOut_done ⟨aM_LeaveOut_done,iM_LeaveOut_done,kI_LeaveOut_done⟩ cl_LeaveOut cf G_without G_refuse_unfit
 have M_Anew_done:Mth l.prog w K mg base 6 C_Anew "done" ["self","tree"] (zbK ⟨C_Swap,C_Read,C_PutIn,C_LeaveOut,C_Anew⟩):=zil FI_Anew_done bI_Anew_done ⟨aM_Anew_done,iM_Anew_done,kI_Anew_done⟩ cl_Anew cf G_node_at G_with_node G_refuse_unfit z_enumerate z_str z_tuple
 have G_law_both:Fn l.prog w K mg base 7 "_law_both" ["_law_tree_here","_law_one","_law_other"] (zb8 ⟨C_Swap,C_Read,C_PutIn,C_LeaveOut,C_Anew⟩):=zjt d32 cf G_law_reason M_Anew_done M_LeaveOut_done M_PutIn_done M_Read_done M_Swap_done
 have G_law_noted:FnA l.prog w K mg base 11 "_law_noted" ["_law_tree_here","_law_place_here","_law_found"] 2 (zbf 10):=zie d33  10
 have G_law_tree:Fn l.prog w K mg base 15 "_law_tree" ["_law_nodes_here","_law_place_here"] (zau 10):=zjr d34 G_law_key z_len z_sorted z_tuple lo_law_tree 10
 have G_law_asked_so:Fn l.prog w K mg base 16 "_law_asked_so" ["_law_script"] (zby ⟨C_Swap,C_Read,C_PutIn,C_LeaveOut,C_Anew⟩):=zfv d35 cf G_are_apart G_law_nodes G_law_tree G_law_change G_law_made G_law_noted G_law_both z_len z_min z_range
 have G_law:Fn l.prog w K mg base 17 "law" ["_law_script"] zpe:=zsY (T:=⟨C_Swap,C_Read,C_PutIn,C_LeaveOut,C_Anew⟩) d36 G_law_asked_so G_law_wide
 exact zta m36 l36 base G_law
end K25
namespace PySem.W.Fast
def tw9815581129534804242:=0
def tw17004558536508321626:=0
def tw13549373016108576899:=0
def tw15356275013144142706:=0
def tw12888280593220267011:=0
def tw4837590340055098095:=0
def tw15161154029755015907:=0
def tw12931501484885156536:=0
def tw6022306800024111948:=0
def tw8097862884809545996:=0
def tw2656012721358264608:=0
def tw16992813704693341833:=0
def tw16101389028728098410:=0
def tw13103805302791423242:=0
def tw12497916414043634283:=0
def tw10400751561490941985:=0
def tw12469398533218239096:=0
def tw893831090555139825:=0
def tw17731292124685966721:=0
def tw12703790967736869294:=0
def tw4049530526232833405:=0
def tw4504774505113621652:=0
def tw8166578178148757911:=0
def tw7562690115732249659:=0
def tw8025878413368864207:=0
def tw4412581099305957715:=0
def tw17046009049418956017:=0
def tw16261411272090678165:=0
def tw6139902960246692377:=0
def tw5758960788589248832:=0
def tw14193319989026272721:=0
def tw5544210314644893676:=0
def tw5140934471992669105:=0
def tw14363682318562444075:=0
def tw12382297959814429492:=0
def tw4407283727495426419:=0
def tw1439106908240549910:=0
def tw1895264542875002833:=0
def tw15807952032971532890:=0
def tw11358903561238651508:=0
def tw5636063678063909155:=0
def tw12852485870726557532:=0
def tw9580494021969424208:=0
def tw3120732352285457673:=0
def tw16926594654889324020:=0
def tw9231776081113533421:=0
def tw4632219005111514631:=0
def tw9583084862304605120:=0
def tw1245291693656759972:=0
def tw4697378074968244768:=0
def tw6462128027623778779:=0
def tw4352421044698147908:=0
def tw7031383303815944575:=0
def tw12084483430290751407:=0
def tw14179998734518890411:=0
def tw16964865385747729654:=0
def tw17170884586954952549:=0
def tw11876079030585824725:=0
def tw12409600534461415147:=0
def tw993001250934457167:=0
def tw7883457585676714210:=0
def tw10172283528380056078:=0
def tw9333063271189583199:=0
def tw8998298314175998493:=0
def tw10748962028779682174:=0
def tw7273386962990188103:=0
def tw11427752401411819887:=0
def tw1561683698468222189:=0
def tw1934024923108066679:=0
def tw10507682779736129114:=0
def tw4794041346783419486:=0
def tw4615527793462340398:=0
def tw12722883224528390514:=0
def tw8649933860793718454:=0
def tw7837855150779357567:=0
def tw14951475928181173359:=0
def tw8716966776535513967:=0
def tw7383239574532766158:=0
def tw7337449363688070870:=0
def tw10252702661664564174:=0
def tw10313255967427485669:=0
def tw5126091127315031239:=0
def tw4852377401954677065:=0
def tw1885906126109876208:=0
def tw15048171779620089957:=0
def tw8087239435476541952:=0
def tw8749420285616168669:=0
def tw17280551548871728909:=0
def tw12147489708899258239:=0
def tw8067144166519045005:=0
def tw9269571753185117790:=0
def tw9335224089598302816:=0
def tw11696956687658462381:=0
def tw4784878488177070454:=0
def tw8036694436861940077:=0
def tw935296519879802649:=0
def tw8427337191872815464:=0
def tw11191734382591963453:=0
def tw16664979087776276010:=0
def tw13009033538929415307:=0
def tw18354914786178572230:=0
def tw82267751324385567:=0
def tw17964573430707658671:=0
def tw11323304014480261763:=0
def tw6805303296965774308:=0
def tw10863317010915076441:=0
def tw4725635756565010519:=0
def tw10338019178158003197:=0
def tw6445367666631302074:=0
def tw14214523776298315903:=0
def tw5275924553465382344:=0
def tw487799003370150684:=0
def tw10067805221598303997:=0
def tw14102116828898152982:=0
def tw18118021865317804792:=0
def tw8725425526461724505:=0
def tw11489081432185163907:=0
def tw5349918006841660567:=0
def tw14151518339075078912:=0
def tw16425583864846480921:=0
def tw6578767259916395757:=0
def tw4100624401108177513:=0
def tw16894566916161441175:=0
def tw13480017287328444972:=0
def tw13976659253258207748:=0
def tw5354252492320340769:=0
def tw3822711403275839040:=0
def tw15649855198673731178:=0
def tw6260243115999366607:=0
def tw187281192466940732:=0
def tw8892964518442262242:=0
def tw10604328667720304588:=0
def tw11387160017407647970:=0
def tw3789383339475339566:=0
def tw17823212806902039830:=0
def tw16884206038181784594:=0
def tw6638449599417250493:=0
def tw1107264257511793641:=0
def tw8651990195972429932:=0
def tw698908269089097605:=0
def tw7206812641889422696:=0
def tw1199748401320559097:=0
def tw4466458629010976713:=0
def tw1516647289569178892:=0
def tw12902420840248919110:=0
def tw3493867761227321089:=0
def tw7395374136638195882:=0
def tw13441505629535543257:=0
def tw9681637232123021521:=0
def tw5589110756968445039:=0
def tw11246808632570342243:=0
def tw12009731273398180867:=0
def tw4923584040203717897:=0
def tw15476601790795538280:=0
def tw309683267472929633:=0
def tw11462808141729657959:=0
def tw7949784811666415012:=0
def tw5299242355566916546:=0
def tw12849393102093165378:=0
def tw15411157324763409658:=0
def tw1904162737783961320:=0
def tw6838863727150655758:=0
def tw12360717282501261767:=0
def tw3403500772799276134:=0
def tw15706801304004536419:=0
def tw5734723739139843955:=0
def tw3419771406394450968:=0
def tw8535916203325872499:=0
def tw16328127185981653754:=0
def tw7624091810999387535:=0
def tw12839292650838347360:=0
def tw16722052432116096950:=0
def tw5311787904674425714:=0
def tw14415414530461122500:=0
def tw1490853409211318157:=0
def tw7512214659781742985:=0
def tw12769247029289426838:=0
def tw454950446354769598:=0
def tw14339368220752110090:=0
def tw4926421565308732214:=0
def tw17377530100620309329:=0
def tw3561468167727461425:=0
def tw8103530832388642830:=0
def tw4797867274290333299:=0
def tw5666510949405132187:=0
def tw1405710620280380016:=0
def tw7666433283569901711:=0
def tw11351925067019175556:=0
def tw16285345578169305911:=0
def tw10039957094407176922:=0
def tw15869861565417297476:=0
def tw499285079096140818:=0
def tw16610211143446954491:=0
def tw1501449013397907699:=0
def tw7121546877835123178:=0
def tw10609648716082851619:=0
def tw9605699786038403799:=0
def tw8455186617122531398:=0
def tw15474030780453895910:=0
def tw13755755565438932275:=0
def tw6525211757521334618:=0
def tw7146857160717714783:=0
def tw14136929296254717780:=0
def tw16895070905423422135:=0
def tw11325240157308662982:=0
def tw3866595312805644152:=0
def tw3885236907888102543:=0
def tw13551343841618116174:=0
def tw18027537370644742951:=0
def tw17610064013891781608:=0
def tw9866809151999278250:=0
def tw8756952018368669612:=0
def tw9070604024833764959:=0
def tw15509694003352624040:=0
def tw10349356906168727799:=0
def tw5434725799210228856:=0
def tw3091193535750795360:=0
def tw9813223119288279450:=0
def tw35121057133375781:=0
def tw4288139969893132726:=0
def tw16569330716882797174:=0
def tw14573069821688325411:=0
def tw4744075663185932395:=0
def tw6105448692560365128:=0
def tw4050921126369944996:=0
def tw12979686684990849560:=0
def tw7083297243884160295:=0
def tw13691262207499320670:=0
def tw5473045991701727236:=0
def tw7047201034547533954:=0
def tw13370186894355006764:=0
def tw9249111555339069282:=0
def tw10801583543572639848:=0
def tw9880912907446080781:=0
def tw7659373678070984216:=0
def tw8399337412008551813:=0
def tw12060663343381618792:=0
def tw5603260501148181719:=0
def tw4542362521441351232:=0
def tw18261037673659687130:=0
def tw4710202118799348566:=0
def tw17927200089793713674:=0
def tw12976017751313479714:=0
def tw2884992245652720735:=0
def tw7064020600832646432:=0
def tw72534569356163832:=0
def tw16385154582847749520:=0
def tw16302133735520297547:=0
def tw492771215355084293:=0
def tw15873727762962865732:=0
def tw15228222197512843291:=0
def tw1609725898355929539:=0
def tw3523525576987631663:=0
def tw17669998984119866238:=0
def tw2857068390150902665:=0
def tw8306547455449894531:=0
def tw4992461039380919932:=0
def tw3205628037096329874:=0
def tw12903774128753061063:=0
def tw3564148479208714037:=0
def tw15353519833217484447:=0
def tw9676251698051121948:=0
def tw6980063040069545565:=0
def tw981395258417420414:=0
def tw18081532840401756625:=0
def tw9174359956648020840:=0
def tw2715734281790157564:=0
def tw4207018684332008710:=0
def tw14924837765903391727:=0
def tw5540408418283984950:=0
def tw3669558582966388435:=0
def tw9375849879310268039:=0
def tw7693392712488247299:=0
def tw5641059501526667577:=0
def tw8436268023386878895:=0
def tw4098446408143372256:=0
def tw5159583219704499303:=0
def tw15846709788398666748:=0
def tw14141618485648791765:=0
def tw1433896262234730641:=0
def tw6036015477192643421:=0
def tw3494784493517927143:=0
def tw14843341849994296378:=0
def tw12049918909046910682:=0
def tw5131635236040129680:=0
def tw16555129573920497589:=0
def tw16420025747040239264:=0
def tw16029749776057572875:=0
def tw2579159702077981149:=0
def tw8554626351799893487:=0
def tw3882443459755186164:=0
def tw2799557350776633978:=0
def tw5540919425950303438:=0
def tw2227295937244738388:=0
def tw507451976793099426:=0
def tw8811077889500294389:=0
def tw11185007658392719793:=0
def tw11196956703057902002:=0
def tw1949233087525037712:=0
def tw6389596820087680621:=0
def tw3044777726503126384:=0
def tw3974601751584640908:=0
def tw15915331939862411341:=0
def tw10611069014928185758:=0
def tw6519369597561865134:=0
def tw12531805593897273452:=0
def tw4057739673883510095:=0
def tw12272464795890210666:=0
def tw14324527342408284229:=0
def tw14435187154766830211:=0
def tw1979672664398527965:=0
def tw10469320792137234855:=0
def tw8047977239747485897:=0
def tw5459853154164953706:=0
def tw1549368669316116648:=0
def tw5215315278375811188:=0
def tw3926617475772456210:=0
def tw14634189404824338459:=0
def tw12134727969424273674:=0
def tw6904494889329413223:=0
def tw17507740680511695386:=0
def tw14291668657763556064:=0
def tw7533759215810741303:=0
def tw11694901544772597560:=0
def tw1374391404486388904:=0
def tw872839643978517186:=0
def tw299931187614207666:=0
def tw8556802699177714382:=0
def tw5681495433711325936:=0
def tw7127529701517374083:=0
def tw13993681682273974663:=0
def tw1216892990063645769:=0
def tw7469333652640921201:=0
def tw10544884565820278644:=0
def tw12914296223578767:=0
def tw15381340184035035201:=0
def tw7018139078413944550:=0
def tw4445947966222268489:=0
def tw18235269503068311741:=0
def tw5421114838078361701:=0
def tw9843168634686807006:=0
def tw3554051970780791657:=0
def tw13603143490419726339:=0
def tw12514282512655098905:=0
def tw17054289426025504249:=0
def tw15988714876484377955:=0
def tw8843581551047821178:=0
def tw14339547324142821450:=0
def tw4799325777455000451:=0
def tw8687372963536018681:=0
def tw14568631638257666692:=0
def tw16776304045810778041:=0
def tw9319104574600792414:=0
def tw16327093992764027599:=0
def tw5212012454844185345:=0
def tw16435896162503597434:=0
def tw12408068279570885400:=0
def tw6267562667795218074:=0
def tw16518703851500327160:=0
def tw1752869249278084413:=0
def tw1359028502426949714:=0
def tw8537293147051817074:=0
def tw4383057862944350327:=0
def tw16044015315617728718:=0
def tw8905303382050479268:=0
def tw14833033373498514942:=0
def tw6863379585992758758:=0
def tw5530361040081602901:=0
def tw2819505809860560357:=0
def tw13181385161771328942:=0
def tw3000842761374757101:=0
def tw1548307178440300910:=0
def tw18212444887120716974:=0
def tw4723069137699520686:=0
def tw15268178576705966787:=0
def tw2881214451590431084:=0
def tw16989279327597645118:=0
def tw4471103171384267044:=0
def tw10810451238519787286:=0
def tw3525337111652045546:=0
def tw1130677358356699297:=0
def tw13601338707948063420:=0
def tw3145514802063261465:=0
def tw13244106390135646916:=0
def tw4593933103792144305:=0
def tw6626626874771947964:=0
def tw3614813641446869078:=0
def tw18436029557277968021:=0
def tw15743087108896283869:=0
def tw4555798423989441764:=0
def tw10825242850029287401:=0
def tw17307576125451217372:=0
def tw9265146015317192946:=0
def tw7420509383152838043:=0
def tw12808307419447099189:=0
def tw13230783890982449654:=0
def tw6760005332642258020:=0
def tw15519309923468771263:=0
def tw8589473444942586165:=0
def tw7132002504060195724:=0
def tw15151174205747782578:=0
def tw4225880506303847764:=0
def tw11915509625736632701:=0
def tw9944775660609642071:=0
def tw6493489593368634574:=0
def tw11631787177614241106:=0
def tw16800373989264179013:=0
def tw14913967393455806143:=0
def tw12523754201531109576:=0
def tw17995143364385766654:=0
def tw304078437705931417:=0
def tw2164958662432177374:=0
def tw6208424253990690388:=0
def tw5791164544699419077:=0
def tw16804988506701492358:=0
def tw3745939799028291260:=0
def tw233544507877459592:=0
def tw2118716948669953494:=0
def tw15095443604250073179:=0
def tw13236280072936835868:=0
def tw16059481366722150431:=0
def tw14597332118329125326:=0
def tw16382698362482474616:=0
def tw14241837210203864154:=0
def tw4659550536789224689:=0
def tw17949357517151313438:=0
def tw8514112203892338970:=0
def tw3244626284179716608:=0
def tw17762223737965698431:=0
def tw15436090067320247444:=0
def tw1319794649735337061:=0
def tw8544558931309557398:=0
def tw16210185636018850577:=0
def tw8470004059261022945:=0
def tw4182807072526540623:=0
def tw6226675761132346973:=0
def tw5949009311108422409:=0
def tw10818623120012583782:=0
def tw12842837662563575647:=0
def tw3157856937220905835:=0
def tw16534215283599444856:=0
def tw111407481558556105:=0
def tw897158184996275722:=0
def tw5113661079709833491:=0
def tw9678440554153374241:=0
def tw8066401487125923049:=0
def tw4201153254591191558:=0
def tw15694847468912874692:=0
def tw5229631607662610557:=0
def tw12289429831880508275:=0
def tw4336829847277239291:=0
def tw5451336482762607398:=0
def tw13125901083973883038:=0
def tw11099781383819806250:=0
def tw11556500453767348839:=0
def tw10539666591711455626:=0
def tw11441345283868972822:=0
def tw18188657181324303206:=0
def tw4581954977821920199:=0
def tw2338591712933707903:=0
end PySem.W.Fast
open PySem PySem.W PyProof.Rows
set_option maxRecDepth 100000 in
set_option maxHeartbeats 0 in
theorem PySem.Challenge.cw_codemend_k25_whole_apart_ones_holds : PySem.Challenge.rw_codemend_k25_whole_apart_ones.Holds := by
 w_on; o_law; k_head; (case hw=>w_witness2)
 k_fill
 refine PL.walk_lawT (l:=PySem.Challenge.rw_codemend_k25_whole_apart_ones) (k:=17) (x:="_law_script") [(416,"_law_tree.<locals>.<lambda>")] rfl rfl ⟨rfl,by decide,by decide⟩ (fun w h Y=>PySem.W.km_in_of Y) (fun w h Y b q e=>PySem.W.km_tabs_of Y b (K25.tab_mem e)) ?F
 case F =>
  intro w mg fa h KX G hmg
  refine' K25.all_mk KX G hmg ?D1 ?D2 ?D3 ?D4 ?D5 ?D6 ?D7 ?D8 ?D9 ?D10 ?D11 ?D12 ?D13 ?D14 ?D15 ?D16 ?D17 ?D18 ?D19 ?D20 ?D21 ?D22 ?D23 ?D24 ?D25 ?D26 ?D27 ?D28 ?D29 ?D30 ?D31 ?D32 ?D33 ?a34 ?l34 ?c34 ?k34 ?D35 ?a36 ?l36 ?c36 ?k36 ?z1 ?z2 ?z3 ?z4 ?z5 ?z6 ?z7 ?z8 ?z9 ?z10 ?z11 ?z12 ?g1 ?e1 ?g2 ?e2 ?g3 ?e3 ?g4 ?e4 ?g5 ?e5 ?aC_Swap ?hdC_Swap ?aI_Swap ?iI_Swap ?lI_Swap ?cI_Swap ?kI_Swap ?pg_Swap ?po_Swap ?sa_Swap ?mk_Swap ?kc_Swap ?n_Swap_place ?n_Swap_old ?n_Swap_new ?aC_Read ?hdC_Read ?aI_Read ?iI_Read ?lI_Read ?cI_Read ?kI_Read ?pg_Read ?po_Read ?sa_Read ?mk_Read ?kc_Read ?n_Read_place ?n_Read_words ?aC_PutIn ?hdC_PutIn ?aI_PutIn ?iI_PutIn ?lI_PutIn ?cI_PutIn ?kI_PutIn ?pg_PutIn ?po_PutIn ?sa_PutIn ?mk_PutIn ?kc_PutIn ?n_PutIn_place ?n_PutIn_node ?aC_LeaveOut ?hdC_LeaveOut ?aI_LeaveOut ?iI_LeaveOut ?lI_LeaveOut ?cI_LeaveOut ?kI_LeaveOut ?pg_LeaveOut ?po_LeaveOut ?sa_LeaveOut ?mk_LeaveOut ?kc_LeaveOut ?n_LeaveOut_place ?aC_Anew ?hdC_Anew ?aI_Anew ?iI_Anew ?lI_Anew ?cI_Anew ?kI_Anew ?pg_Anew ?po_Anew ?sa_Anew ?mk_Anew ?kc_Anew ?n_Anew_place ?aM_Swap_reason ?iM_Swap_reason ?lI_Swap_reason ?cI_Swap_reason ?kI_Swap_reason ?aM_Swap_done ?iM_Swap_done ?lI_Swap_done ?cI_Swap_done ?kI_Swap_done ?aM_Read_reason ?iM_Read_reason ?lI_Read_reason ?cI_Read_reason ?kI_Read_reason ?aM_Read_done ?iM_Read_done ?lI_Read_done ?cI_Read_done ?kI_Read_done ?aM_PutIn_reason ?iM_PutIn_reason ?lI_PutIn_reason ?cI_PutIn_reason ?kI_PutIn_reason ?aM_PutIn_done ?iM_PutIn_done ?lI_PutIn_done ?cI_PutIn_done ?kI_PutIn_done ?aM_LeaveOut_reason ?iM_LeaveOut_reason ?lI_LeaveOut_reason ?cI_LeaveOut_reason ?kI_LeaveOut_reason ?aM_LeaveOut_done ?iM_LeaveOut_done ?lI_LeaveOut_done ?cI_LeaveOut_done ?kI_LeaveOut_done ?aM_Anew_reason ?iM_Anew_reason ?lI_Anew_reason ?cI_Anew_reason ?kI_Anew_reason ?aM_Anew_done ?iM_Anew_done ?lI_Anew_done ?cI_Anew_done ?kI_Anew_done ?hn ?htk ?ty_Swap ?ha_Swap ?hm_Swap ?ty_Read ?ha_Read ?hm_Read ?ty_PutIn ?ha_PutIn ?hm_PutIn ?ty_LeaveOut ?ha_LeaveOut ?hm_LeaveOut ?ty_Anew ?ha_Anew ?hm_Anew ?q_Swap_PutIn ?r_Swap_PutIn ?q_Swap_LeaveOut ?r_Swap_LeaveOut ?q_Swap_Anew ?r_Swap_Anew ?q_Read_PutIn ?r_Read_PutIn ?q_Read_LeaveOut ?r_Read_LeaveOut ?q_Read_Anew ?r_Read_Anew ?q_LeaveOut_PutIn ?r_LeaveOut_PutIn ?q_Anew_PutIn ?r_Anew_PutIn ?q_Anew_LeaveOut ?r_Anew_LeaveOut ?hL34 ?nL34 ?tL34
  (case D1=>apply PL.Dn.mk <;> k_is)
  (case D2=>apply PL.Dn.mk <;> k_is)
  (case D3=>apply PL.Dn.mk <;> k_is)
  (case D4=>apply PL.Dn.mk <;> k_is)
  (case D5=>apply PL.Dn.mk <;> k_is)
  (case D6=>apply PL.Dn.mk <;> k_is)
  (case D7=>apply PL.Dn.mk <;> k_is)
  (case D8=>apply PL.Dn.mk <;> k_is)
  (case D9=>apply PL.Dn.mk <;> k_is)
  (case D10=>apply PL.Dn.mk <;> k_is)
  (case D11=>apply PL.Dn.mk <;> k_is)
  (case D12=>apply PL.Dn.mk <;> k_is)
  (case D13=>apply PL.Dn.mk <;> k_is)
  (case D14=>apply PL.Dn.mk <;> k_is)
  (case D15=>apply PL.Dn.mk <;> k_is)
  (case D16=>apply PL.Dn.mk <;> k_is)
  (case D17=>apply PL.Dn.mk <;> k_is)
  (case D18=>apply PL.Dn.mk <;> k_is)
  (case D19=>apply PL.Dn.mk <;> k_is)
  (case D20=>apply PL.Dn.mk <;> k_is)
  (case D21=>apply PL.Dn.mk <;> k_is)
  (case D22=>apply PL.Dn.mk <;> k_is)
  (case D23=>apply PL.Dn.mk <;> k_is)
  (case D24=>apply PL.Dn.mk <;> k_is)
  (case D25=>apply PL.Dn.mk <;> k_is)
  (case D26=>apply PL.Dn.mk <;> k_is)
  (case D27=>apply PL.Dn.mk <;> k_is)
  (case D28=>apply PL.Dn.mk <;> k_is)
  (case D29=>apply PL.Dn.mk <;> k_is)
  (case D30=>apply PL.Dn.mk <;> k_is)
  (case D31=>apply PL.Dn.mk <;> k_is)
  (case D32=>apply PL.Dn.mk <;> k_is)
  (case D33=>apply PL.Dn.mk <;> k_is)
  (case a34=>k_is)
  (case l34=>k_is)
  (case c34=>k_is)
  (case k34=>k_is)
  (case D35=>apply PL.Dn.mk <;> k_is)
  (case a36=>k_is)
  (case l36=>k_is)
  (case c36=>k_is)
  (case k36=>k_is)
  (case z1=>k_is)
  (case z2=>k_is)
  (case z3=>k_is)
  (case z4=>k_is)
  (case z5=>k_is)
  (case z6=>k_is)
  (case z7=>k_is)
  (case z8=>k_is)
  (case z9=>k_is)
  (case z10=>k_is)
  (case z11=>k_is)
  (case z12=>k_is)
  (case g1=>k_is)
  (case e1=>decide +kernel)
  (case g2=>k_is)
  (case e2=>decide +kernel)
  (case g3=>k_is)
  (case e3=>decide +kernel)
  (case g4=>k_is)
  (case e4=>decide +kernel)
  (case g5=>k_is)
  (case e5=>decide +kernel)
  (case aC_Swap=>k_is)
  (case hdC_Swap=>k_is)
  (case aI_Swap=>k_is)
  (case iI_Swap=>k_is)
  (case lI_Swap=>k_is)
  (case cI_Swap=>k_is)
  (case kI_Swap=>k_is)
  (case pg_Swap=>k_is)
  (case po_Swap=>k_is)
  (case sa_Swap=>k_is)
  (case mk_Swap=>k_is)
  (case kc_Swap=>k_is)
  (case n_Swap_place=>k_is)
  (case n_Swap_old=>k_is)
  (case n_Swap_new=>k_is)
  (case aC_Read=>k_is)
  (case hdC_Read=>k_is)
  (case aI_Read=>k_is)
  (case iI_Read=>k_is)
  (case lI_Read=>k_is)
  (case cI_Read=>k_is)
  (case kI_Read=>k_is)
  (case pg_Read=>k_is)
  (case po_Read=>k_is)
  (case sa_Read=>k_is)
  (case mk_Read=>k_is)
  (case kc_Read=>k_is)
  (case n_Read_place=>k_is)
  (case n_Read_words=>k_is)
  (case aC_PutIn=>k_is)
  (case hdC_PutIn=>k_is)
  (case aI_PutIn=>k_is)
  (case iI_PutIn=>k_is)
  (case lI_PutIn=>k_is)
  (case cI_PutIn=>k_is)
  (case kI_PutIn=>k_is)
  (case pg_PutIn=>k_is)
  (case po_PutIn=>k_is)
  (case sa_PutIn=>k_is)
  (case mk_PutIn=>k_is)
  (case kc_PutIn=>k_is)
  (case n_PutIn_place=>k_is)
  (case n_PutIn_node=>k_is)
  (case aC_LeaveOut=>k_is)
  (case hdC_LeaveOut=>k_is)
  (case aI_LeaveOut=>k_is)
  (case iI_LeaveOut=>k_is)
  (case lI_LeaveOut=>k_is)
  (case cI_LeaveOut=>k_is)
  (case kI_LeaveOut=>k_is)
  (case pg_LeaveOut=>k_is)
  (case po_LeaveOut=>k_is)
  (case sa_LeaveOut=>k_is)
  (case mk_LeaveOut=>k_is)
  (case kc_LeaveOut=>k_is)
  (case n_LeaveOut_place=>k_is)
  (case aC_Anew=>k_is)
  (case hdC_Anew=>k_is)
  (case aI_Anew=>k_is)
  (case iI_Anew=>k_is)
  (case lI_Anew=>k_is)
  (case cI_Anew=>k_is)
  (case kI_Anew=>k_is)
  (case pg_Anew=>k_is)
  (case po_Anew=>k_is)
  (case sa_Anew=>k_is)
  (case mk_Anew=>k_is)
  (case kc_Anew=>k_is)
  (case n_Anew_place=>k_is)
  (case aM_Swap_reason=>k_is)
  (case iM_Swap_reason=>k_is)
  (case lI_Swap_reason=>k_is)
  (case cI_Swap_reason=>k_is)
  (case kI_Swap_reason=>k_is)
  (case aM_Swap_done=>k_is)
  (case iM_Swap_done=>k_is)
  (case lI_Swap_done=>k_is)
  (case cI_Swap_done=>k_is)
  (case kI_Swap_done=>k_is)
  (case aM_Read_reason=>k_is)
  (case iM_Read_reason=>k_is)
  (case lI_Read_reason=>k_is)
  (case cI_Read_reason=>k_is)
  (case kI_Read_reason=>k_is)
  (case aM_Read_done=>k_is)
  (case iM_Read_done=>k_is)
  (case lI_Read_done=>k_is)
  (case cI_Read_done=>k_is)
  (case kI_Read_done=>k_is)
  (case aM_PutIn_reason=>k_is)
  (case iM_PutIn_reason=>k_is)
  (case lI_PutIn_reason=>k_is)
  (case cI_PutIn_reason=>k_is)
  (case kI_PutIn_reason=>k_is)
  (case aM_PutIn_done=>k_is)
  (case iM_PutIn_done=>k_is)
  (case lI_PutIn_done=>k_is)
  (case cI_PutIn_done=>k_is)
  (case kI_PutIn_done=>k_is)
  (case aM_LeaveOut_reason=>k_is)
  (case iM_LeaveOut_reason=>k_is)
  (case lI_LeaveOut_reason=>k_is)
  (case cI_LeaveOut_reason=>k_is)
  (case kI_LeaveOut_reason=>k_is)
  (case aM_LeaveOut_done=>k_is)
  (case iM_LeaveOut_done=>k_is)
  (case lI_LeaveOut_done=>k_is)
  (case cI_LeaveOut_done=>k_is)
  (case kI_LeaveOut_done=>k_is)
  (case aM_Anew_reason=>k_is)
  (case iM_Anew_reason=>k_is)
  (case lI_Anew_reason=>k_is)
  (case cI_Anew_reason=>k_is)
  (case kI_Anew_reason=>k_is)
  (case aM_Anew_done=>k_is)
  (case iM_Anew_done=>k_is)
  (case lI_Anew_done=>k_is)
  (case cI_Anew_done=>k_is)
  (case kI_Anew_done=>k_is)
  (case hn=>k_is)
  (case htk=>k_is)
  (case ty_Swap=>k_is)
  (case ha_Swap=>k_is)
  (case hm_Swap=>k_is)
  (case ty_Read=>k_is)
  (case ha_Read=>k_is)
  (case hm_Read=>k_is)
  (case ty_PutIn=>k_is)
  (case ha_PutIn=>k_is)
  (case hm_PutIn=>k_is)
  (case ty_LeaveOut=>k_is)
  (case ha_LeaveOut=>k_is)
  (case hm_LeaveOut=>k_is)
  (case ty_Anew=>k_is)
  (case ha_Anew=>k_is)
  (case hm_Anew=>k_is)
  (case q_Swap_PutIn=>k_is)
  (case r_Swap_PutIn=>rfl)
  (case q_Swap_LeaveOut=>k_is)
  (case r_Swap_LeaveOut=>rfl)
  (case q_Swap_Anew=>k_is)
  (case r_Swap_Anew=>rfl)
  (case q_Read_PutIn=>k_is)
  (case r_Read_PutIn=>rfl)
  (case q_Read_LeaveOut=>k_is)
  (case r_Read_LeaveOut=>rfl)
  (case q_Read_Anew=>k_is)
  (case r_Read_Anew=>rfl)
  (case q_LeaveOut_PutIn=>k_is)
  (case r_LeaveOut_PutIn=>rfl)
  (case q_Anew_PutIn=>k_is)
  (case r_Anew_PutIn=>rfl)
  (case q_Anew_LeaveOut=>k_is)
  (case r_Anew_LeaveOut=>rfl)
  (case hL34=>kernel_rfl)
  (case nL34=>kernel_rfl)
  (case tL34=>exact rfl)
