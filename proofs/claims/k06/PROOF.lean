import PyProof.Rows.All
import Wide.All
import OpenK.AllK
import Wide.FinOn
import Lean
import PyProof.EqAt
import PyProof.EqKinds
import PyProof.TupleCall
import PySem.Challenge.RW_lookback_k06_looks_spoilt
set_option Elab.async false
set_option linter.all false
set_option compiler.extract_closed false
set_option maxRecDepth 100000
def Aa:=@PySem.wpAny_bind
def Ab:=@Bool.and_eq_true
def Ac:=@PySem.wpAny_pure
def Ad:=@PySem.Heap.get?_push_of_some
def Ae:=@decide_eq_true_eq
def Af:=@List.getElem?_eq_some_iff
def Ag:=@List.length_map
def Ah:=@Nat.le_refl
def Ai:=@List.size_toArray
def Aj:=@List.mem_append_right
def Ak:=@PySem.Heap.lt_size
def Al:=@List.mem_singleton
def Am:=@PySem.Heap.get?_push_size
def An:=@List.mem_cons
def Ao:=@List.all_eq_true
def Ap:=@List.mem_of_getElem?
def Aq:=@List.length_append
def Ar:=@Nat.ne_of_lt
def As:=@List.getElem?_eq_getElem
def Au:=@List.getElem?_map
def Av:=@List.getElem?_append_left
def Aw:=@Nat.lt_of_lt_of_le
def Ax:=@List.mem_map
def Ay:=@PySem.Heap.SameBut.update
def Az:=@Array.getElem?_toList
def AA:=@List.map_map
def AB:=@Bool.false_ne_true
def AD:=@Array.getElem?_eq_getElem
def AE:=@List.getElem?_set_ne
def AF:=@List.getD_eq_getElem?_getD
def AG:=@PySem.wpAny_holding
def AH:=@Bool.false_eq_true
def AI:=@List.mem_append
def AJ:=@Option.some.inj
def AK:=@Nat.le_trans
def AL:=@PySem.sizeLine_eq
def AM:=@List.map_cons
def AN:=@PySem.Heap.get?_update_self
def AO:=@PySem.wpAny_newObj_type
def AQ:=@Nat.lt_succ_self
def AR:=@List.not_mem_nil
def AS:=@List.getElem?_append_right
def AU:=@PyProof.Rows.slot_tuple_getitem
def AV:=@decide_eq_false
def AW:=@List.map_append
def AX:=@List.nodup_iff_pairwise_ne
def AY:=@PySem.wpAny_call_entry
def AZ:=@List.mem_append_left
def A0:=@Nat.lt_succ_of_lt
def A1:=@PySem.W.mg_none_of
def A3:=@Nat.zero_le
def A4:=@if_false
def A5:=@PySem.wpAny_callSpecial?_slot
def A6:=@Nat.lt_irrefl
def A7:=@List.mem_iff_getElem?
def A8:=@PySem.W.kia_one
def A9:=@List.ext_getElem?
def Ba:=@PyProof.Rows.boot_tuple
def Bb:=@List.length_take
def Bc:=@Nat.le_succ
def Bd:=@PySem.boot_len
def Be:=@Bool.and_self
def Bf:=@PySem.Around.under_plainId
def Bh:=@PySem.wpAny_rule
def Bi:=@Int.emod_lt_of_pos
def Bj:=@PySem.codeAny_builtin
def Bk:=@PySem.F.slot_dict_keyiterator_next
def Bl:=@List.getElem?_take_of_lt
def Bm:=@PySem.wpAny_truthy_bool
def Bn:=@List.mem_cons_of_mem
def Bo:=@List.nodup_cons
def Bp:=@Int.emod_nonneg
def Bq:=@Bool.and_true
def Br:=@List.nodup_append
def Bs:=@PySem.wpAny_setState_of
def Bt:=@PySem.Heap.size_push
def Bu:=@PySem.wpAny_setField
def Bv:=@PySem.wpAny_loadPart'
def Bw:=@List.getElem?_replicate
def Bx:=@Nat.pow_le_pow_right
def By:=@Bool.true_and
def Bz:=@List.getElem?_set_self
def BA:=@Bool.false_and
def BB:=@PySem.wpAny_typeOf
def BC:=@PySem.Heap.get?_update_other
def BD:=@Array.getElem?_eq_none
def BE:=@PySem.wpAny_dictEpoch
def BF:=@List.drop_eq_getElem_cons
def BG:=@or_false
def BH:=@Nat.ne_of_gt
def BI:=@List.mem_range
def BJ:=@decide_eq_true
def BK:=@PySem.wpAny_typeNameOfWhole_keyiter
def BL:=@Bool.and_false
def BM:=@Array.toList_push
def BN:=@PySem.wpAny_dictEntries
def BP:=@Nat.add_sub_cancel_left
def BQ:=@PySem.wpAny_mono
def BR:=@beq_eq_false_iff_ne
def BS:=@PySem.mem_of_lookup
def BU:=@PySem.Obj.isFreed_of_dict
def BV:=@PyProof.Rows.F.plain_set_update_loop
def BW:=@List.getElem_mem
namespace L2
open PySem PySem.Spec PyProof.Rows
noncomputable abbrev Key:=Sum Int Str
noncomputable def Wd:Key->Value->Bool
 | .inl k,v=>Value.isInt k v
 | .inr x,v=>Value.isStrOf x v
noncomputable def AaK (w:World):Key->Int
 | .inl k=>hashInt k
 | .inr x=>hashStr w x
theorem DU:∀ {k:Key} {v:Value},Wd k v=true->(∃ i t,k=Sum.inl i∧v=Value.int i t)∨(∃ x t,k=Sum.inr x∧v=Value.str x t)
 | .inl i,v,h=>by
  obtain ⟨t,e⟩:=Value.isInt_shape (k:=i) (v:=v) h
  exact .inl ⟨i,t,rfl,e⟩
 | .inr x,v,h=>by
  obtain ⟨t,e⟩:=Value.isStrOf_shape (x:=x) (v:=v) h
  exact .inr ⟨x,t,rfl,e⟩
theorem Yq (a b:Int):decide ((Sum.inl a:Key)=Sum.inl b)=(a==b):=by
 by_cases e:a=b
 ·subst e;simp
 ·have h:¬ (Sum.inl a:Key)=Sum.inl b:=λq=>e (Sum.inl.inj q)
  rw [AV h]
  exact (BR.mpr e).symm
theorem WT (a b:Str):decide ((Sum.inr a:Key)=Sum.inr b)=decide (a=b):=by
 by_cases e:a=b
 ·subst e;simp
 ·have h:¬ (Sum.inr a:Key)=Sum.inr b:=λq=>e (Sum.inr.inj q)
  rw [AV h,AV e]
theorem Yy (a:Int)(b:Str):decide ((Sum.inl a:Key)=Sum.inr b)=false:=AV (λq=>nomatch q)
theorem X5 (a:Str)(b:Int):decide ((Sum.inr a:Key)=Sum.inl b)=false:=AV (λq=>nomatch q)
noncomputable def Qu (prog:Program)(w:World):PySem.KeyKind prog w Key where
 is:=Wd
 hash:=AaK w
 inj:=λv a b ha hb=>by
  rcases DU ha with ⟨i,t,rfl,rfl⟩|⟨x,t,rfl,rfl⟩
  ·rcases DU hb with ⟨j,u,rfl,e⟩|⟨y,u,rfl,e⟩
   ·injection e with e1 _;rw [e1]
   ·exact nomatch e
  ·rcases DU hb with ⟨j,u,rfl,e⟩|⟨y,u,rfl,e⟩
   ·exact nomatch e
   ·injection e with e1 _;rw [e1]
 byValue:=λk v h=>by
  rcases DU h with ⟨i,t,rfl,rfl⟩|⟨x,t,rfl,rfl⟩<;>rfl
 pyHash:=λhv h=>by
  rcases DU hv with ⟨i,t,rfl,rfl⟩|⟨x,t,rfl,rfl⟩
  ·exact wpAny_pyHash_int h
  ·exact wpAny_pyHash_str h
 eqBool:=λhu hv h=>by
  rcases DU hu with ⟨i,t,rfl,rfl⟩|⟨x,t,rfl,rfl⟩
  ·rcases DU hv with ⟨j,u,rfl,rfl⟩|⟨y,u,rfl,rfl⟩
   ·rw [Yq] at h;exact wpAny_eqBool_int h
   ·rw [Yy] at h;exact SeqAt.EqAt.int_str i t y u _ _ _ _ h
  ·rcases DU hv with ⟨j,u,rfl,rfl⟩|⟨y,u,rfl,rfl⟩
   ·rw [X5] at h;exact SeqAt.EqAt.str_int x t j u _ _ _ _ h
   ·rw [WT] at h;exact wpAny_eqBool_str h
 «strs»:=λk x t v h=>by
  rcases DU h with ⟨i,u,rfl,e⟩|⟨y,u,rfl,e⟩
  ·exact nomatch e
  ·injection e with e1 _
   subst e1
   cases v<;>rfl
inductive V where
 | non|bl (b:Bool)|int (i:Int)|str (x:Str)|byt (b:Array UInt8)|flt (b:UInt64)|ref (a:Addr)|ty (n:String)
 deriving DecidableEq
noncomputable def RelV:V->Value->Prop
 | .non,u=>u=Value.none
 | .bl b,u=>u=Value.bool b
 | .int i,u=>∃ t,u=Value.int i t
 | .str x,u=>∃ t,u=Value.str x t
 | .byt b,u=>∃ t,u=Value.bytes b t
 | .flt b,u=>∃ t,u=Value.float b t
 | .ref a,u=>u=Value.ref a
 | .ty n,u=>u=Value.type n
noncomputable abbrev Vals:List V->List Value->Prop:=Paired RelV
theorem Vals.length {xs:List V}{us:List Value}(r:Vals xs us):xs.length=us.length:=Paired.length r
theorem Vals.get:∀ {xs:List V} {us:List Value} {i:Nat} {x:V},Vals xs us->xs[i]? = some x->∃ u,us[i]? = some u∧RelV x u
 | _,_,_,_,.nil,e=>by simp at e
 | _,_,0,_,.cons r _,e=>by simp at e;subst e;exact ⟨_,rfl,r⟩
 | _,_,i+1,x,.cons _ t,e=>by
  obtain ⟨u,h1,h2⟩:=Vals.get (i:=i) (x:=x) t (by simpa using e)
  exact ⟨u,by simpa using h1,h2⟩
theorem Vals.set {x:V}{u:Value}(r:RelV x u):∀ {xs:List V} {us:List Value} (i:Nat),Vals xs us->Vals (xs.set i x) (us.set i u)
 | _,_,_,.nil=>.nil
 | _,_,0,.cons _ t=>.cons r t
 | _,_,i+1,.cons q t=>.cons q (Vals.set r i t)
theorem Vals.append:∀ {xs ys:List V} {us ws:List Value},Vals xs us->Vals ys ws->Vals (xs++ys) (us++ws)
 | _,_,_,_,.nil,s=>s
 | _,_,_,_,.cons r t,s=>.cons r (Vals.append t s)
theorem Vals.take:∀ {xs:List V} {us:List Value} (n:Nat),Vals xs us->Vals (xs.take n) (us.take n)
 | _,_,0,_=>.nil
 | _,_,_+1,.nil=>.nil
 | _,_,n+1,.cons r t=>.cons r (Vals.take n t)
theorem Vals.drop:∀ {xs:List V} {us:List Value} (n:Nat),Vals xs us->Vals (xs.drop n) (us.drop n)
 | _,_,0,r=>r
 | _,_,_+1,.nil=>.nil
 | _,_,n+1,.cons _ t=>Vals.drop n t
noncomputable def Yd:Option V->Option Value->Prop
 | some v,some u=>RelV v u
 | none,none=>True
 | _,_=>False
noncomputable def KV {κ:Type}:List (κ×V)->List (κ×Value)->Prop:=Paired λ(p:κ×V) (q:κ×Value)=>p.1=q.1∧RelV p.2 q.2
noncomputable def kV:Key->V
 | .inl i=>.int i
 | .inr x=>.str x
inductive HO where
  | lst (xs:List V)
  | tup (xs:List V)
  | dK (kvs:List (Key×V))|dT (kvs:List (List Key×V))
  | set (S:Int->Bool) (n:Nat)
  | ins (C dx:Addr) (fs:List (Str×V))
  | own (x:Addr)
  | xd (fs:List (Str×V))
  | met (f x:Addr)
  | rng (lo hi:Int)
  | frz (o:Obj) (u:HO)
  | tbl (ps:Array Value)
  | ext (φ:Heap->Prop)
noncomputable abbrev Hp:=Addr->Option HO
noncomputable def upd (H:Hp)(a:Addr)(o:HO):Hp:=λb=>if b=a then some o else H b
theorem Ec {H:Hp}{a:Addr}{o:HO}:upd H a o a=some o:=by unfold upd;rw [if_pos rfl]
theorem Dj {H:Hp}{a b:Addr}{o:HO}(h:b≠a):upd H a o b=H b:=by unfold upd;rw [if_neg h]
theorem CP {H:Hp}{a b:Addr}{o:HO}(h:H a=some o)(h':H b=none):a≠b:=by
 intro e;subst e;rw [h] at h';cases h'
section
variable (P:Program) (w:World)
noncomputable def ObjOk (H:Hp)(h:Heap)(a:Addr):HO->Prop
 | .lst xs=>xs.length≤sizeLine∧∃ (its:List Value) (n:Nat),Vals xs its∧h.get? a=some { cls:=.type "list",data:=.seq its.toArray n }
 | .tup xs=>(xs.length≤sizeLine∧∃ o,h.get? a=some o∧o.dict=none)∧∃ its:List Value,Vals xs its∧IsTup h a its.toArray
 | .dK kvs=>kvs.length≤sizeLine∧(a==sysModules)=false∧∃ vs,KV kvs vs∧h.DictOf (Qu P w) a vs
 | .dT kvs=>kvs.length≤sizeLine∧(a==sysModules)=false∧∃ xs:List (List Key×Addr×Value),
   Paired (λ(p:List Key×V) (q:List Key×Addr×Value)=>p.1=q.1∧H q.2.1=some (.tup (p.1.map kV))∧RelV p.2 q.2.2) kvs xs ∧
   ∃ o es ep,h.get? a=some o∧o.ExactDict∧o.data=.dict es ep∧es.toList=xs.map (entryOfKey (tupleKind (Qu P w)))∧(xs.map (·.1)).Nodup
 | .set S n=>h.SetOf (intKind P w) a S n
 | .ins C dx fs=>H dx=some (.own a)∧fs.length≤1000∧dx≠a∧h.get? a=some (PySem.W.instObj C dx) ∧
   ∃ mA,h.Ns1 dx mA∧(∀ f,Yd (fs.lookup f) (mA f))∧PySem.Within mA (fs.map (·.1))
 | .own _=>∃ o,h.get? a=some o
 | .xd fs=>∃ mA,h.Ns1 a mA∧∀ f,Yd (fs.lookup f) (mA f)
 | .rng lo hi=>∃ t u v,h.get? a=some { cls:=.type "range",data:=.fields #[.int lo t,.int hi u,.int 1 v] }
 | .frz o u=>h.get? a=some o∧ObjOk H h a u
 | .tbl ps=>h.get? a=some { cls:=.none,data:=.fields ps }
 | .met f x=>h.get? a=some (PySem.W.methodObj (.ref f) (.ref x))
 | .ext φ=>φ h∧(∃ o,h.get? a=some o)∧∀ h1 h2:Heap,φ h1->(∀ o,h1.get? a=some o->h2.get? a=some o)->φ h2
noncomputable def HOk (H:Hp)(h:Heap):Prop:=∀ a o,H a=some o->ObjOk P w H h a o
end
section
variable {P:Program} {w:World} {H H':Hp} {h h':Heap} {a:Addr} {o:HO}
theorem ObjOk.lt (x:ObjOk P w H h a o):a<h.objs.size:=by
 cases o with
 | lst xs=>obtain ⟨_,_,_,_,e⟩:=x;exact Ak e
 | tup xs=>obtain ⟨_,_,_,p⟩:=x;exact p.lt
 | dK kvs=>obtain ⟨_,_,_,_,o,_,_,e,_⟩:=x;exact Ak e
 | dT kvs=>obtain ⟨_,_,_,_,o,_,_,e,_⟩:=x;exact Ak e
 | set S n=>obtain ⟨o,_,_,_,e,_⟩:=x;exact Ak e
 | ins C dx fs=>obtain ⟨_,_,_,e,_⟩:=x;exact Ak e
 | own y=>obtain ⟨_,e⟩:=x;exact Ak e
 | xd fs=>obtain ⟨_,⟨_,_,_,e,_⟩,_⟩:=x;exact Ak e
 | rng lo hi=>obtain ⟨_,_,_,e⟩:=x;exact Ak e
 | frz ob u=>obtain ⟨e,_⟩:=x;exact Ak e
 | tbl ps=>exact Ak (show h.get? a=some _ from x)
 | met f y=>exact Ak (show h.get? a=some _ from x)
 | ext φ=>obtain ⟨_,⟨_,e⟩,_⟩:=x;exact Ak e
theorem Paired.mapP {α β:Type}{F G:α->β->Prop}:∀ {l₁:List α} {l₂:List β},Paired F l₁ l₂->(∀ a b,F a b->G a b)->Paired G l₁ l₂
 | _,_,.nil,_=>.nil
 | _,_,.cons r t,f=>.cons (f _ _ r) (Paired.mapP t f)
theorem ObjOk.stay (x:ObjOk P w H h a o)(k:∀ b u,(b=a∨H b=some (.own a))->h.get? b=some u->h'.get? b=some u)
  (ho:∀ b,H b=some (.own a)->H' b=some (.own a)) (ht:∀ b xs,H b=some (.tup xs)->H' b=some (.tup xs)):ObjOk P w H' h' a o:=by
 induction o with
 | lst xs=>obtain ⟨z,its,n,r,e⟩:=x;exact ⟨z,its,n,r,k _ _ (.inl rfl) e⟩
 | tup xs=>obtain ⟨⟨z,o1,z1,z2⟩,its,r,ob,e,c⟩:=x;exact ⟨⟨z,o1,k _ _ (.inl rfl) z1,z2⟩,its,r,ob,k _ _ (.inl rfl) e,c⟩
 | dK kvs=>obtain ⟨z,y,vs,r,ob,es,ep,e,c⟩:=x;exact ⟨z,y,vs,r,ob,es,ep,k _ _ (.inl rfl) e,c⟩
 | dT kvs =>
  obtain ⟨z,y,xs,r,ob,es,ep,e,c⟩:=x
  exact ⟨z,y,xs,Paired.mapP r λp q z=>⟨z.1,ht _ _ z.2.1,z.2.2⟩,ob,es,ep,k _ _ (.inl rfl) e,c⟩
 | set S n=>obtain ⟨ob,es,ep,t,e,c⟩:=x;exact ⟨ob,es,ep,t,k _ _ (.inl rfl) e,c⟩
 | ins C dx fs =>
  obtain ⟨d,z,ne,e,mA,⟨od,es,ep,e2,c⟩,r⟩:=x
  exact ⟨ho _ d,z,ne,k _ _ (.inl rfl) e,mA,⟨od,es,ep,k _ _ (.inr d) e2,c⟩,r⟩
 | own y=>obtain ⟨ob,e⟩:=x;exact ⟨ob,k _ _ (.inl rfl) e⟩
 | xd fs=>obtain ⟨mA,⟨od,es,ep,e,c⟩,r⟩:=x;exact ⟨mA,⟨od,es,ep,k _ _ (.inl rfl) e,c⟩,r⟩
 | rng lo hi=>obtain ⟨t,u,v,e⟩:=x;exact ⟨t,u,v,k _ _ (.inl rfl) e⟩
 | frz ob u ih=>obtain ⟨e,q⟩:=x;exact ⟨k _ _ (.inl rfl) e,ih q⟩
 | tbl ps =>
  have e:h.get? a=some { cls:=.none,data:=.fields ps }:=x
  show h'.get? a=some { cls:=.none,data:=.fields ps }
  exact k a _ (.inl rfl) e
 | met f y =>
  have e:h.get? a=some (PySem.W.methodObj (.ref f) (.ref y)):=x
  show h'.get? a=some (PySem.W.methodObj (.ref f) (.ref y))
  exact k a _ (.inl rfl) e
 | ext φ=>obtain ⟨p,⟨o,e⟩,st⟩:=x;exact ⟨st _ _ p λo q=>k _ _ (.inl rfl) q,⟨o,k _ _ (.inl rfl) e⟩,st⟩
theorem HOk.lt (x:HOk P w H h)(e:H a=some o):a<h.objs.size:=(x a o e).lt
theorem HOk.fresh (x:HOk P w H h)(e:h.objs.size≤a):H a=none:=by
 cases q:H a with
 | none=>rfl
 | some u=>exact absurd (Aw (x.lt q) e) (A6 _)
theorem HOk.kept (x:HOk P w H h)(k:∀ b u,h.get? b=some u->h'.get? b=some u):HOk P w H h':=λa o e =>
 (x a o e).stay (λb u _ q=>k b u q) (λ_ q=>q) λ_ _ q=>q
theorem HOk.laid (x:HOk P w H h)(k:∀ b u,h.get? b=some u->h'.get? b=some u)(hp:h.objs.size≤a)(new:ObjOk P w (upd H a o) h' a o):HOk P w (upd H a o) h':=λb u e=>by
 have hn:=x.fresh hp
 by_cases hb:b=a
 ·subst hb;rw [Ec] at e;cases e;exact new
 ·rw [Dj hb] at e
  exact (x b u e).stay (λc v _ q=>k c v q) (λc q=>by rw [Dj (CP q hn)];exact q) λc xs q=>by rw [Dj (CP q hn)];exact q
end
noncomputable def Rd (H:Hp)(a:Addr)(u:HO):Prop:=H a=some u∨∃ o,H a=some (.frz o u)
theorem Rd.ok {P:Program}{w:World}{H:Hp}{h:Heap}{a:Addr}{u:HO}(r:Rd H a u)(x:HOk P w H h):ObjOk P w H h a u:=by
 rcases r with r|⟨o,r⟩
 ·exact x a u r
 ·obtain ⟨_,q⟩:=x a _ r
  exact q
noncomputable def Mut:Option HO->Prop
 | some (.lst _)=>True
 | some (.dK _)=>True
 | some (.dT _)=>True
 | some (.set _ _)=>True
 | some (.ins _ _ _)=>True
 | some (.ext _)=>True
 | _=>False
section
variable {P:Program} {w:World} {H:Hp} {h h':Heap} {x e:Addr} {o':HO}
theorem HOk.write (ok:HOk P w H h)(mu:Mut (H x))(he:e=x∨H e=some (.own x))(k:∀ b u,b≠e->h.get? b=some u->h'.get? b=some u)(heo:∃ u,h'.get? e=some u)
  (new:ObjOk P w (upd H x o') h' x o'):HOk P w (upd H x o') h':=λb u q=>by
 have nown:∀ c y,H c=some (.own y)->c≠x:=λc y r z=>by subst z;rw [r] at mu;exact mu
 have ntup:∀ c xs,H c=some (.tup xs)->c≠x:=λc xs r z=>by subst z;rw [r] at mu;exact mu
 by_cases hb:b=x
 ·subst hb;rw [Ec] at q;cases q;exact new
 ·rw [Dj hb] at q
  by_cases hbe:b=e
  ·have q':H b=some (.own x):=by
    rcases he with z|z
    ·exact absurd (hbe.trans z) hb
    ·rw [hbe];exact z
   rw [q] at q';cases q'
   obtain ⟨v,hv⟩:=heo
   exact ⟨v,by rw [hbe];exact hv⟩
  ·refine (ok b u q).stay (λc v hc r=>k c v ?_ r) (λc r=>by rw [Dj (nown c b r)];exact r) λc xs r=>by rw [Dj (ntup c xs r)];exact r
   rcases hc with rfl|hc
   ·exact hbe
   ·rintro rfl
    rcases he with z|z
    ·exact nown c b hc z
    ·rw [hc] at z;cases z;exact hb rfl
end
structure Un (fs ex:List Addr) (H H':Hp) (h h':Heap):Prop where
 keep:∀ b o,h.get? b=some o->H b=none->b∉fs->b∉ex->h'.get? b=some o
 slot:∀ b o,h.get? b=some o->H b=none->b∈fs->b∉ex->∃ sl,h'.get? b=some { o with slots:=sl }
 free:∀ b o,h.get? b=some o->H b=none->b∉ex->H' b=none
 there:∀ b o,h.get? b=some o->b∉ex->∃ o',h'.get? b=some o'
 tups:∀ b xs,H b=some (.tup xs)->H' b=some (.tup xs)
 frzs:∀ b o u,H b=some (.frz o u)->H' b=some (.frz o u)
 tbls:∀ b ps,H b=some (.tbl ps)->∃ more,H' b=some (.tbl (ps++more))
section
variable {fs fs' ex ex':List Addr} {H H1 H2:Hp} {h h1 h2 h':Heap} {a x e:Addr} {o:HO}
theorem Un.any (u:Un fs ex H H1 h h1){b:Addr}{ob:Obj}(q:h.get? b=some ob)(n:H b=none)(hx:b∉ex):∃ sl,h1.get? b=some { ob with slots:=sl }:=by
 by_cases hb:b∈fs
 ·exact u.slot b ob q n hb hx
 ·exact ⟨ob.slots,u.keep b ob q n hb hx⟩
theorem Un.kept (k:∀ b u,h.get? b=some u->h'.get? b=some u):Un fs ex H H h h':=
 ⟨λb ob q _ _ _=>k b ob q,λb ob q _ _ _=>⟨ob.slots,k b ob q⟩,λ_ _ _ n _=>n,λb ob q _=>⟨ob,k b ob q⟩,λ_ _ q=>q,λ_ _ _ q=>q,λ_ ps q=>⟨#[],by rw [q];simp⟩⟩
theorem Un.refl:Un fs ex H H h h:=Un.kept λ_ _ q=>q
theorem Un.laid (k:∀ b u,h.get? b=some u->h'.get? b=some u)(hp:h.objs.size≤a)(hn:H a=none):Un fs ex H (upd H a o) h h' where
 keep:=λb u q _ _ _=>k b u q
 slot:=λb u q _ _ _=>⟨u.slots,k b u q⟩
 free:=λb u q n _=>by rw [Dj (Ar (Aw (Ak q) hp))];exact n
 there:=λb u q _=>⟨u,k b u q⟩
 tups:=λb xs q=>by rw [Dj (CP q hn)];exact q
 frzs:=λb u xs q=>by rw [Dj (CP q hn)];exact q
 tbls:=λb ps q=>⟨#[],by rw [Dj (CP q hn),q];simp⟩
theorem Un.write (mu:Mut (H x))(he:e=x∨H e=some (.own x))(k:∀ b u,b≠e->h.get? b=some u->h'.get? b=some u)(heo:∃ u,h'.get? e=some u):Un fs ex H (upd H x o) h h':=by
 have hx:∀ b,H b=none->b≠x:=λb n z=>by subst z;rw [n] at mu;exact mu
 have hb:∀ b,H b=none->b≠e:=λb n z=>by
  subst z
  rcases he with r|r
  ·exact hx b n r
  ·rw [n] at r;cases r
 have hm:∀ b u,H b=some u->¬ Mut (some u)->b≠x:=λb u q nm z=>by subst z;rw [q] at mu;exact nm mu
 refine ⟨λb u q n _ _=>k b u (hb b n) q,λb u q n _ _=>⟨u.slots,k b u (hb b n) q⟩,λb u q n _=>by rw [Dj (hx b n)];exact n,λb u q _=>?_,
  λb xs q=>by rw [Dj (hm b _ q λz=>z)];exact q,λb u xs q=>by rw [Dj (hm b _ q λz=>z)];exact q,λb ps q=>⟨#[],by rw [Dj (hm b _ q λz=>z),q];simp⟩⟩
 by_cases hbe:b=e
 ·subst hbe;exact heo
 ·exact ⟨u,k b u hbe q⟩
end
noncomputable def trk (h:Heap)(H:Hp):List Addr:=(List.range h.objs.size).filter λa=>(H a).isSome
noncomputable def Nq (h:Heap)(H:Hp):Heap:=PySem.W.hideAll h (trk h H)
theorem Q8 (h:Heap)(H:Hp):(Nq h H).objs.size=h.objs.size:=PySem.W.hideAll_size _ _
theorem RR {h:Heap}{H:Hp}{b:Addr}{o:Obj}(e:h.get? b=some o)(n:H b=none):(Nq h H).get? b=some o:=
 PySem.W.hideAll_get _ e λhm=>by
  have q:(H b).isSome=true:=(List.mem_filter.mp hm).2
  rw [n] at q;simp at q
theorem V3 {h:Heap}{H:Hp}{b:Addr}{o:Obj}(e:(Nq h H).get? b=some o):h.get? b=some o∧H b=none:=by
 have e':h.get? b=some o:=PySem.W.of_hideAll (trk h H) e
 refine ⟨e',?_⟩
 cases q:H b with
 | none=>rfl
 | some x =>
  have hm:b∈trk h H:=List.mem_filter.mpr ⟨BI.mpr (Ak e'),by simp [q]⟩
  have z:(Nq h H).get? b=none:=PySem.W.hideAll_none (trk h H) hm
  rw [z] at e;cases e
noncomputable def U9 (g h:Heap)(L:Addr):List (Addr×Obj):=(List.range h.objs.size).filterMap λa=>if a=L∨(g.get? a).isSome=true then none else (h.get? a).map λo=>(a,o)
noncomputable def rest (g h:Heap)(L d:Addr):List (Addr×Obj):=(U9 g h L).filter λp=>decide (p.1≠d)
structure Mod (K:PySem.W.Frag) (mg:Str->Option Value) (base:Heap):Prop where
 kin:K.In base
 glob:base.Ns mainGlobals mg
 blt:∃ mb,base.Ns builtinsNs mb∧∀ x:Str,x≠"__name__"->mb x=bootBuiltins x
 nolimit:base.NoLimit
structure Cx where
 prog:Program
 w:World
 K:PySem.W.Frag
 mg:Str->Option Value
 base:Heap
 A:Around
 N:List Str
 s₀:Shared
 H₀:Hp
 env:Env
 outer:List Env
 stack:List Env
 ex:List Addr
 fn:Str->Bool
 calm:Bool
 pn:List (Addr×Obj)
 xe:Value->Shared->Prop
noncomputable def frs (l:List Env):List Addr:=l.filterMap (·.frame)
noncomputable abbrev Cx.fs (X:Cx):List Addr:=frs X.outer
noncomputable def Vis (sc:Scope)(x:Str):Prop:=sc.names.lookup x=some .local∨sc.names.lookup x=some .cell∨sc.names.lookup x=some .free
noncomputable def Loc (sc:Scope)(x:Str):Prop:=sc.names.lookup x=some .local∨sc.names.lookup x=some .cell
noncomputable def Look (env:Env)(h:Heap)(m:Str->Option Value)(x:Str)(u:Value):Prop:=
 (env.kindOf x=some .local∧m x=some u)∨((env.kindOf x=some .cell∨env.kindOf x=some .free)∧∃ c,env.cells.lookup x=some c∧h.IsCell c (some u))
structure Cx.Ok (X:Cx):Prop where
 mod:Mod X.K X.mg X.base
 kind:X.env.scope.kind=.function
 glob:X.env.globals=mainGlobals
 blt:X.env.builtins=builtinsNs
 above:X.s₀.heap.objs.size≤X.env.locals
 inj:∀ x y c,X.env.cells.lookup x=some c->X.env.cells.lookup y=some c->x=y
 has:∀ x,(X.env.kindOf x=some .cell∨X.env.kindOf x=some .free)->∃ c,X.env.cells.lookup x=some c
 cab:∀ x c,X.fn x=true->X.env.cells.lookup x=some c->X.s₀.heap.objs.size≤c
 hd:X.calm=true->X.A.handled=none
 frames:X.A.frames=some X.stack
 stk:X.stack=X.outer∨(X.stack=X.env::X.outer∧X.env.frame=some X.env.locals)
 exf:∀ b∈X.ex,b≠X.env.locals∧∀ x c,X.env.cells.lookup x=some c->c≠b
 bs:∀ b o,X.base.get? b=some o->X.s₀.heap.get? b=some o∧X.H₀ b=none
 bsz:X.base.objs.size≤X.s₀.heap.objs.size
 noex:∀ b o,X.base.get? b=some o->b∉X.ex
 exfs:∀ b∈X.ex,b∉X.fs
 funs:X.s₀.heap.FunFrames X.base X.outer
 frf:∀ b∈X.fs,X.H₀ b=none
structure Inv (X:Cx) (pins:List (Addr×Obj)) (σ:List (Option V)) (H:Hp) (s:Shared):Prop where
 ok:X.Ok
 os:s.os=X.s₀.os
 bare:AllBare s.gens
 base:Un X.fs X.ex X.H₀ H X.s₀.heap s.heap
 loc:∃ m,s.heap.Ns X.env.locals m∧∀ (i:Nat) (x:Str) (v:V),X.N[i]? = some x->σ[i]? = some (some v)->Vis X.env.scope x->∃ u,RelV v u∧Look X.env s.heap m x u
 cell:∀ x c,X.env.cells.lookup x=some c->∃ v,s.heap.IsCell c v
 free:H X.env.locals=none
 freeC:∀ x c,X.env.cells.lookup x=some c->H c=none
 pin:∀ p∈X.pn++pins,s.heap.get? p.1=some p.2∧H p.1=none∧p.1≠X.env.locals∧p.1∉X.fs∧∀ v,p.2.data≠.cell v
 hok:HOk X.prog X.w H s.heap
 len:σ.length=X.N.length
section
variable {X:Cx} {pins:List (Addr×Obj)} {σ:List (Option V)} {H H':Hp} {s:Shared} {h':Heap}
theorem Cx.Ok.nofr (ok:X.Ok){b:Addr}{o:Obj}(e:X.base.get? b=some o):b∉X.fs:=λhb=>by
 have:=(ok.funs.mem hb).1
 rw [e] at this;cases this
theorem Inv.bs (I:Inv X pins σ H s):∀ b o,X.base.get? b=some o->s.heap.get? b=some o∧H b=none:=λb o e =>
 ⟨I.base.keep b o (I.ok.bs b o e).1 (I.ok.bs b o e).2 (I.ok.nofr e) (I.ok.noex b o e),I.base.free b o (I.ok.bs b o e).1 (I.ok.bs b o e).2 (I.ok.noex b o e)⟩
theorem Inv.bk (I:Inv X pins σ H s):∀ b o,X.base.get? b=some o->s.heap.get? b=some o:=λb o e=>(I.bs b o e).1
theorem Inv.mod (I:Inv X pins σ H s):Mod X.K X.mg X.base:=I.ok.mod
theorem Inv.kIn (I:Inv X pins σ H s):X.K.In s.heap:=I.ok.mod.kin.keeps I.bk
theorem Inv.fr (I:Inv X pins σ H s):∃ m,Fr X.base X.env.locals s.heap m:=
 let ⟨m,hn,_⟩:=I.loc
 ⟨m,hn,I.bk,AK I.ok.bsz I.ok.above⟩
theorem Inv.lt (I:Inv X pins σ H s):X.env.locals<s.heap.objs.size:=let ⟨_,hn,_⟩:=I.loc;hn.lt
theorem Inv.sz (I:Inv X pins σ H s):X.s₀.heap.objs.size≤s.heap.objs.size:=AK I.ok.above (Nat.le_of_lt I.lt)
theorem Inv.nofs (I:Inv X pins σ H s){a:Addr}(h:s.heap.objs.size≤a):a∉X.fs:=λhb=>by
 obtain ⟨_,o,ho,_⟩:=I.ok.funs.mem hb
 exact absurd (Aw (Ak ho) (AK I.sz h)) (A6 _)
theorem Inv.cne (I:Inv X pins σ H s):∀ x c,X.env.cells.lookup x=some c->c≠X.env.locals:=λx c e z=>by
 obtain ⟨v,o,ho,hd⟩:=I.cell x c e
 obtain ⟨m,⟨o',es,ep,ho',hd',_⟩,_⟩:=I.loc
 rw [z,ho'] at ho;cases ho;rw [hd'] at hd;cases hd
theorem Inv.funs (I:Inv X pins σ H s):s.heap.FunFrames X.base X.outer:=by
 have all:∀ (l:List Env),(∀ b∈frs l,b∈X.fs)->X.s₀.heap.FunFrames X.base l->s.heap.FunFrames X.base l:=by
  intro l
  induction l with
  | nil=>intro _ _;trivial
  | cons env r ih =>
   intro hs hl
   obtain ⟨hk,⟨L,o,hf,hn,ho,hd⟩,hr⟩:=hl
   have hL:L∈X.fs:=hs L (by unfold frs;rw [List.filterMap_cons,hf];exact List.mem_cons_self)
   obtain ⟨sl,e⟩:=I.base.slot L o ho (I.ok.frf L hL) hL λz=>I.ok.exfs L z hL
   exact ⟨hk,⟨L,_,hf,hn,e,hd⟩,ih (λb hb=>hs b (by unfold frs;rw [List.filterMap_cons,hf];exact Bn _ hb)) hr⟩
 exact all X.outer (λ_ hb=>hb) I.ok.funs
theorem Inv.stack (I:Inv X pins σ H s):s.heap.FunFrames X.base X.stack:=by
 rcases I.ok.stk with e|⟨e,hf⟩
 ·rw [e];exact I.funs
 ·rw [e]
  obtain ⟨m,hn,_⟩:=I.loc
  refine .cons (by rw [I.ok.kind];decide) hf hn ?_ I.funs
  exact Heap.get?_none_of_le (AK I.ok.bsz I.ok.above)
theorem Inv.stkSub (I:Inv X pins σ H s):∀ b∈frs X.stack,b∈X.env.locals::X.fs:=λb hb=>by
 rcases I.ok.stk with e|⟨e,hf⟩
 ·rw [e] at hb;exact Bn _ hb
 ·rw [e] at hb
  unfold frs at hb
  rw [List.filterMap_cons,hf] at hb
  exact hb
theorem Inv.stkFree (I:Inv X pins σ H s):∀ b∈frs X.stack,H b=none:=λb hb=>by
 rcases An.mp (I.stkSub b hb) with e|hb
 ·rw [e];exact I.free
 ·obtain ⟨_,o,ho,_⟩:=I.ok.funs.mem hb
  exact I.base.free b o ho (I.ok.frf b hb) λz=>I.ok.exfs b z hb
theorem Inv.step {g':Array GenState}{t':Nat}{d':Drawn}{ch:List Addr}(I:Inv X pins σ H s)
  (hch:∀ b∈ch,(b∈X.ex∨X.s₀.heap.objs.size≤b)∧b≠X.env.locals∧(∀ x c,X.env.cells.lookup x=some c->c≠b)∧∀ p∈X.pn++pins,p.1≠b)
  (keep:∀ b o,b≠X.env.locals->b∉X.fs->b∉ch->s.heap.get? b=some o->H b=none->h'.get? b=some o)
  (slot:∀ b o,b≠X.env.locals->b∈X.fs->b∉ch->s.heap.get? b=some o->H b=none->∃ sl,h'.get? b=some { o with slots:=sl }) (free:∀ b o,b∉ch->s.heap.get? b=some o->H b=none->H' b=none)
  (there:∀ b o,b∉ch->s.heap.get? b=some o->∃ o',h'.get? b=some o')
  (tups:∀ b xs,H b=some (.tup xs)->H' b=some (.tup xs)) (frzs:∀ b o u,H b=some (.frz o u)->H' b=some (.frz o u)) (tbls:∀ b ps,H b=some (.tbl ps)->∃ more,H' b=some (.tbl (ps++more)))
  (ns:∀ m,s.heap.Ns X.env.locals m->h'.Ns X.env.locals m) (hok:HOk X.prog X.w H' h') (hg:AllBare g') :
  Inv X pins σ H' { s with heap:=h',gens:=g',drawn:=d',toks:=t' }:=by
 have neL:∀ b o,X.s₀.heap.get? b=some o->b≠X.env.locals:=λb o e=>Ar (Aw (Ak e) I.ok.above)
 have neC:∀ b o,X.s₀.heap.get? b=some o->b∉X.ex->b∉ch:=λb o e hx hb=>by
  rcases (hch b hb).1 with z|z
  ·exact hx z
  ·exact absurd (Aw (Ak e) z) (A6 _)
 have cellK:∀ x c,X.env.cells.lookup x=some c->∀ v,s.heap.IsCell c v->h'.IsCell c v:=λx c e v ⟨o,ho,hd⟩=>by
  have nch:c∉ch:=λz=>(hch c z).2.2.1 x c e rfl
  by_cases hc:c∈X.fs
  ·obtain ⟨sl,q⟩:=slot c o (I.cne x c e) hc nch ho (I.freeC x c e)
   exact ⟨_,q,hd⟩
  ·exact ⟨o,keep c o (I.cne x c e) hc nch ho (I.freeC x c e),hd⟩
 refine ⟨I.ok,I.os,hg,⟨λb o e n hb hx=>?_,λb o e n hb hx=>?_,λb o e n hx=>?_,λb o e hx=>?_,λb xs e=>tups b xs (I.base.tups b xs e),λb o xs e=>frzs b o xs (I.base.frzs b o xs e),λb ps e=>?_⟩,?_,λx c e=>?_,?_,λx c e=>?_,λp hp=>?_,hok,I.len⟩
 ·exact keep b o (neL b o e) hb (neC b o e hx) (I.base.keep b o e n hb hx) (I.base.free b o e n hx)
 ·obtain ⟨sl,e1⟩:=I.base.slot b o e n hb hx
  obtain ⟨sl',e2⟩:=slot b _ (neL b o e) hb (neC b o e hx) e1 (I.base.free b o e n hx)
  exact ⟨sl',e2⟩
 ·obtain ⟨o',e1⟩:=I.base.there b o e hx
  exact free b o' (neC b o e hx) e1 (I.base.free b o e n hx)
 ·obtain ⟨o',e1⟩:=I.base.there b o e hx
  exact there b o' (neC b o e hx) e1
 ·obtain ⟨m1,e1⟩:=I.base.tbls b ps e
  obtain ⟨m2,e2⟩:=tbls b _ e1
  exact ⟨m1++m2,by rw [e2,Array.append_assoc]⟩
 ·obtain ⟨m,hn,hl⟩:=I.loc
  refine ⟨m,ns m hn,λi x v e1 e2 e3=>?_⟩
  obtain ⟨u,r,l⟩:=hl i x v e1 e2 e3
  refine ⟨u,r,?_⟩
  rcases l with l|⟨k,c,e,z⟩
  ·exact .inl l
  ·exact .inr ⟨k,c,e,cellK x c e _ z⟩
 ·obtain ⟨v,z⟩:=I.cell x c e
  exact ⟨v,cellK x c e v z⟩
 ·obtain ⟨m,⟨o,_,_,ho,_⟩,_⟩:=I.loc
  exact free _ o (λz=>(hch _ z).2.1 rfl) ho I.free
 ·obtain ⟨v,o,ho,hd⟩:=I.cell x c e
  exact free c o (λz=>(hch c z).2.2.1 x c e rfl) ho (I.freeC x c e)
 ·obtain ⟨e,n,ne,nf,d⟩:=I.pin p hp
  have nch:p.1∉ch:=λz=>(hch p.1 z).2.2.2 p hp rfl
  exact ⟨keep p.1 p.2 ne nf nch e n,free p.1 p.2 nch e n,ne,nf,d⟩
theorem Inv.un {t':Nat}(I:Inv X pins σ H s)(u:Un X.fs [] H H' s.heap h')(hok:HOk X.prog X.w H' h'):Inv X pins σ H' { s with heap:=h',toks:=t' }:=by
 obtain ⟨m,⟨o,es,ep,ho,r⟩,_⟩:=id I.loc
 obtain ⟨sl,hL⟩:=u.any ho I.free (by simp)
 exact I.step (g':=s.gens) (d':=s.drawn) (ch:=[]) (λ_ z=>nomatch z) (λb o _ hb _ e n=>u.keep b o e n hb (by simp)) (λb o _ hb _ e n=>u.slot b o e n hb (by simp)) (λb o _ e n=>u.free b o e n (by simp)) (λb o _ e=>u.there b o e (by simp)) u.tups u.frzs u.tbls (λm' hm=>by
  obtain ⟨o',es',ep',ho',r'⟩:=hm
  rw [ho] at ho';cases ho'
  exact ⟨_,es',ep',hL,r'⟩) hok I.bare
theorem Inv.call {g':Array GenState}{t':Nat}{d':Drawn}{ch:List Addr}(I:Inv X pins σ H s)(u:Un (frs X.stack) ch H H' s.heap h')(hok:HOk X.prog X.w H' h')(hg:AllBare g')
  (hch:∀ b∈ch,(b∈X.ex∨X.s₀.heap.objs.size≤b)∧b≠X.env.locals∧(∀ x c,X.env.cells.lookup x=some c->c≠b)∧∀ p∈X.pn++pins,p.1≠b) :
  Inv X pins σ H' { s with heap:=h',gens:=g',drawn:=d',toks:=t' }:=by
 obtain ⟨m,⟨o,es,ep,ho,r⟩,_⟩:=id I.loc
 obtain ⟨sl,hL⟩:=u.any ho I.free λz=>(hch _ z).2.1 rfl
 exact I.step (ch:=ch) hch (λb o hL hb hc e n=>u.keep b o e n (λz=>(An.mp (I.stkSub b z)).elim hL hb) hc) (λb o _ _ hc e n=>u.any e n hc) (λb o hc e n=>u.free b o e n hc) (λb o hc e=>u.there b o e hc) u.tups u.frzs u.tbls (λm' hm=>by
  obtain ⟨o',es',ep',ho',r'⟩:=hm
  rw [ho] at ho';cases ho'
  exact ⟨_,es',ep',hL,r'⟩) hok hg
theorem Inv.turned {t':Nat}{it:Addr}(I:Inv X pins σ H s)(k:∀ b o,b≠it->s.heap.get? b=some o->h'.get? b=some o)(hn:H it=none)(hL:it≠X.env.locals)
  (h1:it∈X.ex∨X.s₀.heap.objs.size≤it) (h2:∀ x c,X.env.cells.lookup x=some c->c≠it) (h3:∀ p∈X.pn++pins,p.1≠it):Inv X pins σ H { s with heap:=h',toks:=t' }:=by
 have nit:∀ b u,H b=some u->b≠it:=λb u e z=>by rw [z,hn] at e;cases e
 refine I.step (g':=s.gens) (d':=s.drawn) (ch:=[it]) (λb hb=>?_) (λb o _ _ hc e _=>k b o (λz=>hc (by simp [z])) e) (λb o _ _ hc e _=>⟨o.slots,k b o (λz=>hc (by simp [z])) e⟩) (λ_ _ _ _ n=>n)
  (λb o hc e=>⟨o,k b o (λz=>hc (by simp [z])) e⟩) (λ_ _ e=>e) (λ_ _ _ e=>e) (λb ps e=>⟨#[],by rw [e];simp⟩) (λm hm=>?_) (λb u e=>?_) I.bare
 ·have e:b=it:=by simpa using hb
  subst e
  exact ⟨h1,hL,h2,h3⟩
 ·obtain ⟨o,es,ep,ho,r⟩:=hm
  exact ⟨o,es,ep,k _ o (Ne.symm hL) ho,r⟩
 ·refine (I.hok b u e).stay (λc v hc q=>k c v ?_ q) (λ_ q=>q) λ_ _ q=>q
  rcases hc with z|z
  ·rw [z];exact nit b u e
  ·exact nit c _ z
theorem Inv.tok (I:Inv X pins σ H s)(t:Nat):Inv X pins σ H { s with toks:=t }:=I.un (h':=s.heap) (t':=t) Un.refl I.hok
theorem Inv.kept {t':Nat}(I:Inv X pins σ H s)(k:∀ b u,s.heap.get? b=some u->h'.get? b=some u):Inv X pins σ H { s with heap:=h',toks:=t' }:=I.un (Un.kept k) (I.hok.kept k)
theorem Inv.laid {a:Addr}{o:HO}{t':Nat}(I:Inv X pins σ H s)(k:∀ b u,s.heap.get? b=some u->h'.get? b=some u)(hp:s.heap.objs.size≤a)(new:ObjOk X.prog X.w (upd H a o) h' a o) :
  Inv X pins σ (upd H a o) { s with heap:=h',toks:=t' }:=I.un (Un.laid k hp (I.hok.fresh hp)) (I.hok.laid k hp new)
theorem Inv.write {x e:Addr}{o:HO}{t':Nat}(I:Inv X pins σ H s)(mu:Mut (H x))(he:e=x∨H e=some (.own x))(k:∀ b u,b≠e->s.heap.get? b=some u->h'.get? b=some u)(heo:∃ u,h'.get? e=some u)
  (new:ObjOk X.prog X.w (upd H x o) h' x o):Inv X pins σ (upd H x o) { s with heap:=h',toks:=t' }:=I.un (Un.write mu he k heo) (I.hok.write mu he k heo new)
theorem Inv.pins_of {pins':List (Addr×Obj)}(I:Inv X pins σ H s)(h:∀ p∈pins',s.heap.get? p.1=some p.2∧H p.1=none∧p.1≠X.env.locals∧p.1∉X.fs∧∀ v,p.2.data≠.cell v):Inv X pins' σ H s:=
 ⟨I.ok,I.os,I.bare,I.base,I.loc,I.cell,I.free,I.freeC,λp hp=>(AI.mp hp).elim (λz=>I.pin p (AZ _ z)) (h p),I.hok,I.len⟩
theorem N9 {N:List Str}(hN:N.Nodup){i j:Nat}{x:Str}(a:N[i]? = some x)(b:N[j]? = some x):i=j:=by
 obtain ⟨h1,e1⟩:=Af.mp a
 obtain ⟨h2,e2⟩:=Af.mp b
 exact (List.getElem_inj hN).mp (e1.trans e2.symm)
theorem Rf {M:Model}{A:Around}{E:Value->Shared->Prop}{i:Nat}{x:Str}{v:V}{u:Value}{Q:Unit->Shared->Prop}(I:Inv X pins σ H s)(hN:X.N.Nodup)(hi:X.N[i]? = some x)(hx:Loc X.env.scope x)(r:RelV v u)
  (h:∀ s',Inv X pins (σ.set i (some v)) H s'->(∃ a,Heap.SameBut a s.heap s'.heap∧(a=X.env.locals∨X.env.cells.lookup x=some a))->Q () s') (hf:X.fn x=true∨X.env.scope.names.lookup x=some .local:=by first|exact .inl rfl|exact .inr rfl|assumption):wpAny M A (storeName X.env x u) Q E s:=by
 obtain ⟨m,hn,hl⟩:=id I.loc
 have hcls:(X.env.scope.kind==.class||(X.env.scope.kind==.module&&X.env.locals != X.env.globals))=false:=by rw [I.ok.kind];rfl
 have hiσ:i<σ.length:=by rw [I.len];exact (Af.mp hi).1
 have cne:=I.cne
 have tracked:∀ {a:Addr} {h':Heap},(∃ o,s.heap.get? a=some o∧H a=none)->Heap.SameBut a s.heap h'->HOk X.prog X.w H h':=λ{a h'} ha hs b ob e=>by
  obtain ⟨_,_,hfree⟩:=ha
  refine (I.hok b ob e).stay (λc w' hc q=>(hs.2 c ?_).trans q) (λ_ q=>q) λ_ _ q=>q
  rintro rfl
  rcases hc with rfl|hc
  ·rw [hfree] at e;cases e
  ·rw [hfree] at hc;cases hc
 rcases hx with hk|hk
 ·refine wpAny_storeName_local hk hn (λh' hn' hs=>?_) hcls
  obtain ⟨oL,_,_,hoL,_⟩:=id hn
  refine h _ ⟨I.ok,I.os,I.bare,⟨λb o e n hb hx=>?_,λb o e n hb hx=>?_,I.base.free,λb o e hx=>?_,I.base.tups,I.base.frzs,I.base.tbls⟩,⟨_,hn',λj y v' e1 e2 e3=>?_⟩,λy c e=>?_,I.free,I.freeC,λp hp=>?_,tracked ⟨oL,hoL,I.free⟩ hs,by simpa using I.len⟩ ⟨_,hs,.inl rfl⟩
  ·exact (hs.2 b (Ar (Aw (Ak e) I.ok.above))).trans (I.base.keep b o e n hb hx)
  ·obtain ⟨sl,e1⟩:=I.base.slot b o e n hb hx
   exact ⟨sl,(hs.2 b (Ar (Aw (Ak e) I.ok.above))).trans e1⟩
  ·obtain ⟨o',e1⟩:=I.base.there b o e hx
   exact ⟨o',(hs.2 b (Ar (Aw (Ak e) I.ok.above))).trans e1⟩
  ·by_cases hj:j=i
   ·subst hj
    rw [hi] at e1;cases e1
    rw [Bz hiσ] at e2
    cases e2
    exact ⟨u,r,.inl ⟨hk,by simp⟩⟩
   ·rw [AE (Ne.symm hj)] at e2
    obtain ⟨u',r',q⟩:=hl j y v' e1 e2 e3
    refine ⟨u',r',?_⟩
    rcases q with ⟨k,e⟩|⟨k,c,e,z⟩
    ·refine .inl ⟨k,?_⟩
     have:y≠x:=λe=>hj (N9 hN e1 (e▸hi))
     simp [this,e]
    ·exact .inr ⟨k,c,e,z.sameBut hs (cne y c e)⟩
  ·obtain ⟨w',z⟩:=I.cell y c e
   exact ⟨w',z.sameBut hs (cne y c e)⟩
  ·obtain ⟨e,n,ne,nf,d⟩:=I.pin p hp
   exact ⟨(hs.2 p.1 ne).trans e,n,ne,nf,d⟩
 ·have hfn:X.fn x=true:=by
   rcases hf with z|z
   ·exact z
   ·rw [z] at hk;cases hk
  obtain ⟨c,hc⟩:=I.ok.has x (.inl hk)
  obtain ⟨w',z⟩:=I.cell x c hc
  refine wpAny_storeName_cell I.ok.kind hk hc z (λh' hc' hs=>?_)
  obtain ⟨oc,hoc,hocd⟩:=id z
  refine h { s with heap:=h' } ⟨I.ok,I.os,I.bare,⟨λb o e n hb hx=>?_,λb o e n hb hx=>?_,I.base.free,λb o e hx=>?_,I.base.tups,I.base.frzs,I.base.tbls⟩,⟨m,hn.sameBut hs (Ne.symm (cne x c hc)),λj y v' e1 e2 e3=>?_⟩,λy c' e=>?_,I.free,I.freeC,λp hp=>?_,tracked ⟨oc,hoc,I.freeC x c hc⟩ hs,by simpa using I.len⟩ ⟨c,hs,.inr hc⟩
  ·exact (hs.2 b (Ar (Aw (Ak e) (I.ok.cab x c hfn hc)))).trans (I.base.keep b o e n hb hx)
  ·obtain ⟨sl,e1⟩:=I.base.slot b o e n hb hx
   exact ⟨sl,(hs.2 b (Ar (Aw (Ak e) (I.ok.cab x c hfn hc)))).trans e1⟩
  ·obtain ⟨o',e1⟩:=I.base.there b o e hx
   exact ⟨o',(hs.2 b (Ar (Aw (Ak e) (I.ok.cab x c hfn hc)))).trans e1⟩
  ·by_cases hj:j=i
   ·subst hj
    rw [hi] at e1;cases e1
    rw [Bz hiσ] at e2
    cases e2
    exact ⟨u,r,.inr ⟨.inl hk,c,hc,hc'⟩⟩
   ·rw [AE (Ne.symm hj)] at e2
    obtain ⟨u',r',q⟩:=hl j y v' e1 e2 e3
    refine ⟨u',r',?_⟩
    rcases q with q|⟨k,c',e,z'⟩
    ·exact .inl q
    ·refine .inr ⟨k,c',e,z'.sameBut hs ?_⟩
     rintro rfl
     exact hj (N9 hN e1 (I.ok.inj _ _ _ e hc▸hi))
  ·by_cases hcc:c'=c
   ·subst hcc;exact ⟨_,hc'⟩
   ·obtain ⟨w2,z2⟩:=I.cell y c' e
    exact ⟨w2,z2.sameBut hs hcc⟩
  ·obtain ⟨e,n,ne,nf,d⟩:=I.pin p hp
   refine ⟨(hs.2 p.1 ?_).trans e,n,ne,nf,d⟩
   intro q
   rw [q,hoc] at e
   have q':oc=p.2:=AJ e
   exact d w' (by rw [← q'];exact hocd)
theorem FW {M:Model}{A:Around}{E:Value->Shared->Prop}{i:Nat}{x:Str}{v:V}{u:Value}{Q:Unit->Shared->Prop}(I:Inv X pins σ H s)(hN:X.N.Nodup)(hi:X.N[i]? = some x)(hx:Loc X.env.scope x)(r:RelV v u)
  (h:∀ s',Inv X pins (σ.set i (some v)) H s'->Q () s') (hf:X.fn x=true∨X.env.scope.names.lookup x=some .local:=by first|exact .inl rfl|exact .inr rfl|assumption):wpAny M A (storeName X.env x u) Q E s:=
 Rf I hN hi hx r (λs' I' _=>h s' I') hf
theorem Inv.call' {s':Shared}{ch:List Addr}(I:Inv X pins σ H s)(ho:s'.os=s.os)(u:Un (frs X.stack) ch H H' s.heap s'.heap)(hok:HOk X.prog X.w H' s'.heap)(hg:AllBare s'.gens)
  (hch:∀ b∈ch,(b∈X.ex∨X.s₀.heap.objs.size≤b)∧b≠X.env.locals∧(∀ x c,X.env.cells.lookup x=some c->c≠b)∧∀ p∈X.pn++pins,p.1≠b):Inv X pins σ H' s':=by
 obtain ⟨h',g',d',t',o'⟩:=s'
 have e:o'=s.os:=ho
 subst e
 exact I.call (g':=g') (t':=t') (d':=d') u hok hg hch
end
noncomputable abbrev XK:=Value->Option Addr->Hp->Prop
noncomputable abbrev St:=List (Option V)
noncomputable abbrev VK:=V->Hp->Prop
noncomputable abbrev TE:=St->Hp->VK->Prop
noncomputable abbrev TT:=St->Hp->(Bool->Hp->Prop)->Prop
noncomputable abbrev TA:=St->Hp->(List V->Hp->Prop)->Prop
structure Ends where
 nx:St->Hp->Prop
 rt:VK
 bk:St->Hp->Prop:=λ_ _=>False
 ct:St->Hp->Prop:=λ_ _=>False
noncomputable abbrev TS:=Ends->St->Hp->Prop
noncomputable def EP (X:Cx)(pins:List (Addr×Obj))(σ:St)(Q:VK)(u:Value)(s':Shared):Prop:=∃ v H',Inv X pins σ H' s'∧RelV v u∧Q v H'
noncomputable def TP (X:Cx)(pins:List (Addr×Obj))(σ:St)(Q:Bool->Hp->Prop)(b:Bool)(s':Shared):Prop:=∃ H',Inv X pins σ H' s'∧Q b H'
noncomputable def AP (X:Cx)(pins:List (Addr×Obj))(σ:St)(Q:List V->Hp->Prop)(us:List Value)(s':Shared):Prop:=∃ vs H',Inv X pins σ H' s'∧Vals vs us∧Q vs H'
noncomputable def SP (X:Cx)(pins:List (Addr×Obj))(D:Ends)(f:Flow)(s':Shared):Prop:=
 match f with
 | .next=>∃ σ' H',Inv X pins σ' H' s'∧D.nx σ' H'
 | .brk=>∃ σ' H',Inv X pins σ' H' s'∧D.bk σ' H'
 | .cont=>∃ σ' H',Inv X pins σ' H' s'∧D.ct σ' H'
 | .ret u=>∃ v σ' H',Inv X pins σ' H' s'∧RelV v u∧D.rt v H'
noncomputable def PE (X:Cx)(e:Expr)(t:TE):Prop:=
 ∀ (pins:List (Addr×Obj)) (s:Shared) (σ:St) (H:Hp) (Q:VK),Inv X pins σ H s->t σ H Q->wpAny (model X.prog X.w) X.A (eval e X.env) (EP X pins σ Q) X.xe s
noncomputable def PT (X:Cx)(e:Expr)(t:TT):Prop:=
 ∀ (pins:List (Addr×Obj)) (s:Shared) (σ:St) (H:Hp) (Q:Bool->Hp->Prop),Inv X pins σ H s->t σ H Q->wpAny (model X.prog X.w) X.A (isTrue e X.env (eval e X.env)) (TP X pins σ Q) X.xe s
noncomputable def PW (X:Cx)(e:Expr)(t:TT):Prop:=
 ∀ (whole:Sem Value) (pins:List (Addr×Obj)) (s:Shared) (σ:St) (H:Hp) (Q:Bool->Hp->Prop),Inv X pins σ H s->t σ H Q->wpAny (model X.prog X.w) X.A (isTrue e X.env whole) (TP X pins σ Q) X.xe s
theorem PW.pt {X:Cx}{e:Expr}{t:TT}(h:PW X e t):PT X e t:=h _
noncomputable def PA (X:Cx)(es:List Expr)(t:TA):Prop:=
 ∀ (pos:Pos) (pins:List (Addr×Obj)) (s:Shared) (σ:St) (H:Hp) (Q:List V->Hp->Prop),Inv X pins σ H s->t σ H Q->wpAny (model X.prog X.w) X.A (spliced (backTo pos (starEach es X.env))) (AP X pins σ Q) X.xe s
noncomputable def PS (X:Cx)(st:Stmt)(t:TS):Prop:=
 ∀ (pins:List (Addr×Obj)) (s:Shared) (σ:St) (H:Hp) (D:Ends),Inv X pins σ H s->t D σ H->wpAny (model X.prog X.w) X.A (exec st X.env) (SP X pins D) X.xe s
noncomputable def PSs (X:Cx)(st:List Stmt)(t:TS):Prop:=
 ∀ (pins:List (Addr×Obj)) (s:Shared) (σ:St) (H:Hp) (D:Ends),Inv X pins σ H s->t D σ H->wpAny (model X.prog X.w) X.A (execs st X.env) (SP X pins D) X.xe s
theorem thn {α:Type}{t:Sem α}{Q Q':α->Shared->Prop}{M:Model}{A:Around}{E:Value->Shared->Prop}{s:Shared}(h:wpAny M A t Q E s)(hQ:∀ a s,Q a s->Q' a s):wpAny M A t Q' E s:=BQ h hQ λ_ _ x=>x
section
variable {X:Cx}
noncomputable def Zh (i:Nat):TE:=fun σ H Q=>∃ v,σ[i]? = some (some v)∧Q v H
noncomputable def tC (v:V):TE:=λ_ H Q=>Q v H
theorem Up {i:Nat}{x:Str}{pos:Pos}(hN:X.N[i]? = some x)(hv:Vis X.env.scope x)(hd:(x==("__debug__":Str))=false:=by decide)(hcd:(x==("__classdict__":Str))=false:=by decide):PE X (.Name x pos) (Zh i):=by
 intro pins s σ H Q I h
 obtain ⟨v,e,h⟩:=h
 obtain ⟨m,hn,hl⟩:=I.loc
 obtain ⟨u,r,l⟩:=hl i x v hN e hv
 have fin:EP X pins σ Q u s:=⟨v,H,I,r,h⟩
 rcases l with ⟨hk,hm⟩|⟨hk,c,hc,hcell⟩
 ·exact wpAny_Name (wpAny_loadName_local I.ok.kind hk hn hm fin) hd
 ·rcases hk with hk|hk
  ·exact wpAny_Name (wpAny_loadName_cell I.ok.kind hk hc hcell fin) hd
  ·exact wpAny_Name (wpAny_loadName_free I.ok.kind hk hc hcell fin hcd) hd
theorem Tc {i j pos}:PE X (.Constant (.int i) j pos) (tC (.int i)):=λ_ _ _ H _ I h=>wpAny_Constant_int ⟨.int i,H,I.tok _,⟨_,rfl⟩,h⟩
theorem Y7 {b j pos}:PE X (.Constant (.bool b) j pos) (tC (.bl b)):=λ_ _ _ H _ I h=>Constant_bool ⟨.bl b,H,I,rfl,h⟩
theorem Xt {j pos}:PE X (.Constant .none j pos) (tC .non):=λ_ _ _ H _ I h=>Constant_none ⟨.non,H,I,rfl,h⟩
theorem Yz {x j pos}:PE X (.Constant (.str x) j pos) (tC (.str x)):=λ_ _ _ H _ I h=>Calls.Constant_str ⟨.str x,H,I.tok _,⟨_,rfl⟩,h⟩
noncomputable def Gl (X:Cx)(x:Str):Prop:=X.env.kindOf x=some .globalImplicit
theorem Qg {E:Value->Shared->Prop}{pins:List (Addr×Obj)}{s:Shared}{σ:St}{H:Hp}{x:Str}{u:Value}{pos:Pos}{Q:Value->Shared->Prop}(I:Inv X pins σ H s)(hg:Gl X x)(hm:X.mg x=some u)(h:Q u s)
  (hd:(x==("__debug__":Str))=false:=by decide):wpAny (model X.prog X.w) X.A (eval (.Name x pos) X.env) Q E s:=
 Calls.Name_function_global I.ok.kind hg (Calls.loadGlobal_global (by rw [I.ok.glob];exact I.mod.glob.keeps I.bk) hm h) hd
theorem M1 {E:Value->Shared->Prop}{pins:List (Addr×Obj)}{s:Shared}{σ:St}{H:Hp}{x:Str}{u:Value}{pos:Pos}{Q:Value->Shared->Prop}(I:Inv X pins σ H s)(hg:Gl X x)(hm:X.mg x=none)(hv:bootBuiltins x=some u)(h:Q u s)
  (hn:x≠"__name__":=by decide) (hd:(x==("__debug__":Str))=false:=by decide):wpAny (model X.prog X.w) X.A (eval (.Name x pos) X.env) Q E s:=by
 obtain ⟨mb,h1,h2⟩:=I.mod.blt
 exact Calls.Name_function_global I.ok.kind hg (Calls.loadGlobal_builtin (by rw [I.ok.glob];exact I.mod.glob.keeps I.bk) hm (by rw [I.ok.blt];exact h1.keeps I.bk) ((h2 x hn).trans hv) h) hd
theorem Nx {x:Str}{v:V}{u:Value}{pos:Pos}(hg:Gl X x)(hm:X.mg x=some u)(r:RelV v u)(hd:(x==("__debug__":Str))=false:=by decide):PE X (.Name x pos) (tC v):=
 λ_ _ _ H _ I h=>Qg I hg hm ⟨v,H,I,r,h⟩ hd
theorem Vk {x:Str}{v:V}{u:Value}{pos:Pos}(hg:Gl X x)(hm:X.mg x=none)(hv:bootBuiltins x=some u)(r:RelV v u)(hn:x≠"__name__":=by decide)(hd:(x==("__debug__":Str))=false:=by decide):PE X (.Name x pos) (tC v):=
 λ_ _ _ H _ I h=>M1 I hg hm hv ⟨v,H,I,r,h⟩ hn hd
variable {a b:Expr} {ta tb:TE} {pos:Pos}
noncomputable def tB (t:TE):TT:=fun σ H Q=>t σ H λx H1=>∃ c,x=.bl c∧Q c H1
theorem WJ {e:Expr}{t:TE}(h:PE X e t)(he:∀ whole,isTrue e X.env whole=(do let v←whole;standAt e.pos;holding [v] (truthy v)):=by intro _;rfl):PT X e (tB t):=by
 intro pins s σ H Q I hw
 refine isTrue_plain (thn (h pins s σ H _ I hw) λv s1 ⟨x,H1,I1,r1,q1⟩=>?_) (he _)
 obtain ⟨d,rfl,q⟩:=q1
 cases r1
 exact Bm ⟨H1,I1,q⟩
variable {tA tB':TT} {rest:List Expr}
noncomputable def Abj (t u:TT):TT:=fun σ H Q=>t σ H λc H1=>if c=true then u σ H1 Q else Q false H1
noncomputable def tOr (t u:TT):TT:=fun σ H Q=>t σ H λc H1=>if c=true then Q true H1 else u σ H1 Q
noncomputable def AaM (t:TT):TT:=fun σ H Q=>t σ H λc H1=>Q (!c) H1
theorem Vy (ha:PT X a tA):PW X (.BoolOp .And [a] pos) tA:=by
 intro wh pins s σ H Q I h
 refine isTrue_and (thn (ha pins s σ H Q I h) λc s1 e=>?_)
 cases c with
 | true=>exact isTrue_and_nil e
 | false=>exact e
theorem WV (ha:PT X a tA):PW X (.BoolOp .Or [a] pos) tA:=by
 intro wh pins s σ H Q I h
 refine isTrue_or (thn (ha pins s σ H Q I h) λc s1 e=>?_)
 cases c with
 | false=>exact isTrue_or_nil e
 | true=>exact e
theorem XB (ha:PT X a tA)(hb:PW X (.BoolOp .And (b::rest) pos) tB'):PW X (.BoolOp .And (a::b::rest) pos) (Abj tA tB'):=by
 intro wh pins s σ H Q I h
 refine isTrue_and (thn (ha pins s σ H _ I h) λc s1 ⟨H1,I1,q1⟩=>?_)
 cases c with
 | true=>exact hb wh pins s1 σ H1 Q I1 q1
 | false=>exact ⟨H1,I1,q1⟩
theorem Aaa (ha:PT X a tA)(hb:PW X (.BoolOp .Or (b::rest) pos) tB'):PW X (.BoolOp .Or (a::b::rest) pos) (tOr tA tB'):=by
 intro wh pins s σ H Q I h
 refine isTrue_or (thn (ha pins s σ H _ I h) λc s1 ⟨H1,I1,q1⟩=>?_)
 cases c with
 | true=>exact ⟨H1,I1,q1⟩
 | false=>exact hb wh pins s1 σ H1 Q I1 q1
theorem Yu (ha:PT X a tA):PT X (.UnaryOp .Not a pos) (AaM tA):=by
 intro pins s σ H Q I h
 exact isTrue_not (ha pins s σ H (λc H1=>Q (!c) H1) I h)
noncomputable def Y4 (ta tb:TE):TE:=fun σ H Q=>ta σ H λx H1=>∃ c,x=.bl c∧if c=true then tb σ H1 Q else Q (.bl false) H1
noncomputable def AaA (ta tb:TE):TE:=fun σ H Q=>ta σ H λx H1=>∃ c,x=.bl c∧if c=true then Q (.bl true) H1 else tb σ H1 Q
theorem Xo {op}{t:TE}(h:PE X a t):PE X (.BoolOp op [a] pos) t:=λpins s σ H Q I hw=>BoolOp_one (h pins s σ H Q I hw)
theorem Yj (ha:PE X a ta)(hb:PE X (.BoolOp .And (b::rest) pos) tb):PE X (.BoolOp .And (a::b::rest) pos) (Y4 ta tb):=by
 intro pins s σ H Q I h
 refine BoolOp_and (thn (ha pins s σ H _ I h) λv s1 ⟨x,H1,I1,r1,q1⟩=>?_)
 obtain ⟨c,rfl,q1⟩:=q1
 cases r1
 refine Bm ?_
 cases c with
 | true=>exact hb pins s1 σ H1 Q I1 q1
 | false=>exact ⟨.bl false,H1,I1,rfl,q1⟩
theorem ZK (ha:PE X a ta)(hb:PE X (.BoolOp .Or (b::rest) pos) tb):PE X (.BoolOp .Or (a::b::rest) pos) (AaA ta tb):=by
 intro pins s σ H Q I h
 refine BoolOp_or (thn (ha pins s σ H _ I h) λv s1 ⟨x,H1,I1,r1,q1⟩=>?_)
 obtain ⟨c,rfl,q1⟩:=q1
 cases r1
 refine Bm ?_
 cases c with
 | false=>exact hb pins s1 σ H1 Q I1 q1
 | true=>exact ⟨.bl true,H1,I1,rfl,q1⟩
noncomputable def tIf (t:TT)(ta tb:TE):TE:=fun σ H Q=>t σ H λc H1=>if c=true then ta σ H1 Q else tb σ H1 Q
theorem SN {c:Expr}(hc:PT X c tA)(ha:PE X a ta)(hb:PE X b tb):PE X (.IfExp c a b pos) (tIf tA ta tb):=by
 intro pins s σ H Q I h
 refine wpAny_IfExp (thn (hc pins s σ H _ I h) λd s1 ⟨H1,I1,q1⟩=>?_)
 cases d with
 | true=>exact ha pins s1 σ H1 Q I1 q1
 | false=>exact hb pins s1 σ H1 Q I1 q1
end
noncomputable def SqL (K:PySem.W.Frag)(H:Hp)(a:Addr)(xs:List V):Prop:=
 Rd H a (.lst xs) ∨
  ∃ (o:Obj) (its:Array Value) (n:Nat),K.lookup a=some o∧o.cls=.type "list"∧o.dict=none∧o.data=.seq its n∧its.size≤sizeLine∧Vals xs its.toList
noncomputable def SqT (K:PySem.W.Frag)(H:Hp)(a:Addr)(xs:List V):Prop:=
 Rd H a (.tup xs) ∨
  ∃ (o:Obj) (its:Array Value) (n:Nat),K.lookup a=some o∧o.cls=.type "tuple"∧o.dict=none∧o.data=.seq its n∧its.size≤sizeLine∧Vals xs its.toList
noncomputable def Aa4:Value->Option V
 | .none=>some .non
 | .bool b=>some (.bl b)
 | .int i _=>some (.int i)
 | .str x _=>some (.str x)
 | .bytes b _=>some (.byt b)
 | .float b _=>some (.flt b)
 | .ref a=>some (.ref a)
 | .type n=>some (.ty n)
 | _=>none
theorem RelV.abs {x:V}{u:Value}(r:RelV x u):Aa4 u=some x:=by
 cases x with
 | non=>cases r;rfl
 | bl _=>cases r;rfl
 | int _=>obtain ⟨t,rfl⟩:=r;rfl
 | str _=>obtain ⟨t,rfl⟩:=r;rfl
 | byt _=>obtain ⟨t,rfl⟩:=r;rfl
 | flt _=>obtain ⟨t,rfl⟩:=r;rfl
 | ref _=>cases r;rfl
 | ty _=>cases r;rfl
theorem RelV.inj {x y:V}{u:Value}(r:RelV x u)(q:RelV y u):x=y:=AJ (r.abs.symm.trans q.abs)
theorem Vals.inj:∀ {xs ys:List V} {us:List Value},Vals xs us->Vals ys us->xs=ys
 | _,_,_,.nil,.nil=>rfl
 | _,_,_,.cons r t,.cons r' t'=>by rw [r.inj r',Vals.inj t t']
section
variable {X:Cx} {pins:List (Addr×Obj)} {σ:St} {H:Hp} {s:Shared} {a:Addr} {xs ys:List V}
theorem SqL.of {K:PySem.W.Frag}(h:H a=some (.lst xs)):SqL K H a xs:=.inl (.inl h)
theorem SqT.of {K:PySem.W.Frag}(h:H a=some (.tup xs)):SqT K H a xs:=.inl (.inl h)
theorem Inv.list (I:Inv X pins σ H s)(h:SqL X.K H a xs):∃ its:List Value,Vals xs its∧PlainL s.heap a its.toArray∧xs.length≤sizeLine:=by
 rcases h with h|⟨o,its,n,hk,hc,hd,hs,hz,r⟩
 ·obtain ⟨z,its,n,r,e⟩:=h.ok I.hok
  exact ⟨its,r,⟨_,n,e,rfl,rfl,rfl⟩,z⟩
 ·refine ⟨its.toList,r,⟨o,n,I.kIn a o hk,hc,hd,by simpa using hs⟩,?_⟩
  have e:=r.length
  simp only [Array.length_toList] at e
  omega
theorem Inv.tupleD (I:Inv X pins σ H s)(h:SqT X.K H a xs):∃ o,s.heap.get? a=some o∧o.dict=none∧o.cls=.type "tuple":=by
 rcases h with h|⟨o,its,n,hk,hc,hd,hs,hz,r⟩
 ·obtain ⟨⟨z,o,g1,g2⟩,its,r,o',g3,g4,_⟩:=h.ok I.hok
  rw [g1] at g3
  cases g3
  exact ⟨o,g1,g2,g4⟩
 ·exact ⟨o,I.kIn a o hk,hd,hc⟩
theorem Inv.tuple (I:Inv X pins σ H s)(h:SqT X.K H a xs):∃ its:List Value,Vals xs its∧IsTup s.heap a its.toArray∧xs.length≤sizeLine:=by
 rcases h with h|⟨o,its,n,hk,hc,_,hs,hz,r⟩
 ·obtain ⟨⟨z,_⟩,its,r,p⟩:=h.ok I.hok
  exact ⟨its,r,p,z⟩
 ·refine ⟨its.toList,r,⟨o,I.kIn a o hk,hc,n,by simpa using hs⟩,?_⟩
  have e:=r.length
  simp only [Array.length_toList] at e
  omega
theorem Inv.list_inj (I:Inv X pins σ H s)(h:SqL X.K H a xs)(h':SqL X.K H a ys):xs=ys:=by
 obtain ⟨its,r,⟨o,n,e,_,_,d⟩,_⟩:=I.list h
 obtain ⟨its',r',⟨o',n',e',_,_,d'⟩,_⟩:=I.list h'
 rw [e] at e';cases e'
 rw [d] at d'
 injection d' with d1 _
 have:its=its':=by simpa using congrArg Array.toList d1
 subst this
 exact r.inj r'
theorem Inv.tuple_inj (I:Inv X pins σ H s)(h:SqT X.K H a xs)(h':SqT X.K H a ys):xs=ys:=by
 obtain ⟨its,r,⟨o,e,_,n,d⟩,_⟩:=I.tuple h
 obtain ⟨its',r',⟨o',e',_,n',d'⟩,_⟩:=I.tuple h'
 rw [e] at e';cases e'
 rw [d] at d'
 injection d' with d1 _
 have:its=its':=by simpa using congrArg Array.toList d1
 subst this
 exact r.inj r'
end
noncomputable abbrev Cx.wish (X:Cx) (E:Value->Shared->Prop):Cx:={ X with xe:=E }
noncomputable abbrev Cx.nox (X:Cx):Cx:=X.wish λ_ _=>False
theorem Cx.Ok.wish {X:Cx}(ok:X.Ok)(E:Value->Shared->Prop):(X.wish E).Ok:=
 ⟨ok.mod,ok.kind,ok.glob,ok.blt,ok.above,ok.inj,ok.has,ok.cab,ok.hd,ok.frames,ok.stk,ok.exf,ok.bs,ok.bsz,ok.noex,ok.exfs,ok.funs,ok.frf⟩
theorem Cx.Ok.unwish {X:Cx}{E:Value->Shared->Prop}(ok:(X.wish E).Ok):X.Ok:=
 ⟨ok.mod,ok.kind,ok.glob,ok.blt,ok.above,ok.inj,ok.has,ok.cab,ok.hd,ok.frames,ok.stk,ok.exf,ok.bs,ok.bsz,ok.noex,ok.exfs,ok.funs,ok.frf⟩
section
variable {X:Cx} {pins:List (Addr×Obj)} {σ:St} {H:Hp} {s:Shared} {E:Value->Shared->Prop}
theorem Inv.wish (I:Inv X pins σ H s)(E:Value->Shared->Prop):Inv (X.wish E) pins σ H s:=⟨I.ok.wish E,I.os,I.bare,I.base,I.loc,I.cell,I.free,I.freeC,I.pin,I.hok,I.len⟩
theorem Inv.unwish (I:Inv (X.wish E) pins σ H s):Inv X pins σ H s:=⟨I.ok.unwish,I.os,I.bare,I.base,I.loc,I.cell,I.free,I.freeC,I.pin,I.hok,I.len⟩
theorem SP.unwish {D:Ends}{f:Flow}{s':Shared}(h:SP (X.wish E) pins D f s'):SP X pins D f s':=by
 cases f with
 | next=>obtain ⟨σ',H',I,q⟩:=h;exact ⟨σ',H',I.unwish,q⟩
 | brk=>obtain ⟨σ',H',I,q⟩:=h;exact ⟨σ',H',I.unwish,q⟩
 | cont=>obtain ⟨σ',H',I,q⟩:=h;exact ⟨σ',H',I.unwish,q⟩
 | ret u=>obtain ⟨v,σ',H',I,r,q⟩:=h;exact ⟨v,σ',H',I.unwish,r,q⟩
theorem PSs.nox {st:List Stmt}{t:TS}(h:PSs X.nox st t):PSs X st t:=λpins s σ H D I hw =>
 BQ (h pins s σ H D (I.wish _) hw) (λ_ _ q=>q.unwish) λ_ _ z=>False.elim z
end
section
variable {X:Cx} {st:Stmt} {rest:List Stmt} {t u:TS} {e:Expr} {te:TE} {pos:Pos}
noncomputable def Zg:TS:=λD σ H=>D.nx σ H
noncomputable def Aa5 (t u:TS):TS:=λD σ H=>t { D with nx:=u D } σ H
theorem UR:PSs X [] Zg:=λ_ _ σ H _ I h=>wpAny_execs_nil ⟨σ,H,I,h⟩
theorem Td (h1:PS X st t)(h2:PSs X rest u):PSs X (st::rest) (Aa5 t u):=by
 intro pins s σ H D I h
 refine wpAny_execs_cons (thn (h1 pins s σ H { D with nx:=u D } I h) λf s1 q=>?_)
 cases f with
 | next =>
  obtain ⟨σ',H',I',q⟩:=q
  exact h2 pins s1 σ' H' D I' q
 | ret v=>exact q
 | brk=>exact q
 | cont=>exact q
theorem UC (h1:PS X st t):PSs X [st] t:=by
 intro pins s σ H D I h
 refine wpAny_execs_cons (thn (h1 pins s σ H D I h) λf s1 q=>?_)
 cases f with
 | next=>exact wpAny_execs_nil q
 | ret v=>exact q
 | brk=>exact q
 | cont=>exact q
theorem Inv.quiet {pins:List (Addr×Obj)}{σ:St}{H:Hp}{s:Shared}(I:Inv X pins σ H s):interactive X.env=false:=by simp [interactive,I.ok.kind]
noncomputable def Zf (te:TE):TS:=λD σ H=>te σ H λ_ H1=>D.nx σ H1
theorem UN (he:PE X e te)(hs:swapsWith e none pos.line X.env=pure false:=by rfl):PS X (.Expr e pos) (Zf te):=by
 intro pins s σ H D I h
 exact wpAny_Expr_any (thn (he pins s σ H _ I h) λv s1 ⟨x,H1,I1,r1,q1⟩=>⟨σ,H1,I1,q1⟩) I.quiet hs
noncomputable def AaQ (te:TE):TS:=λD σ H=>te σ H D.rt
theorem WG (he:PE X e te):PS X (.Return (some e) pos) (AaQ te):=by
 intro pins s σ H D I h
 exact wpAny_Return_some (thn (he pins s σ H _ I h) λv s1 ⟨x,H1,I1,r1,q1⟩=>⟨x,σ,H1,I1,r1,q1⟩)
noncomputable def Aaz (c:TT)(t u:TS):TS:=λD σ H=>c σ H λb H1=>if b=true then t D σ H1 else u D σ H1
theorem Aaj {c:Expr}{a b:List Stmt}{tc:TT}(hc:PT X c tc)(ha:PSs X a t)(hb:PSs X b u):PS X (.If c a b pos) (Aaz tc t u):=by
 intro pins s σ H D I h
 refine wpAny_If (thn (hc pins s σ H _ I h) λd s1 ⟨H1,I1,q1⟩=>?_)
 cases d with
 | true=>exact ha pins s1 σ H1 D I1 q1
 | false=>exact hb pins s1 σ H1 D I1 q1
end
noncomputable abbrev TG:=V->St->Hp->(St->Hp->Prop)->Prop
noncomputable abbrev TGs:=List V->St->Hp->(St->Hp->Prop)->Prop
noncomputable def PG (X:Cx)(target:Expr)(t:TG):Prop:=
 ∀ (pins:List (Addr×Obj)) (s:Shared) (σ:St) (H:Hp) (v:V) (u:Value) (Q:St->Hp->Prop),Inv X pins σ H s->RelV v u->t v σ H Q ->
  wpAny (model X.prog X.w) X.A (assign target X.env u) (λ_ s'=>∃ σ' H',Inv X pins σ' H' s'∧Q σ' H') X.xe s
noncomputable def PGs (X:Cx)(ts:List Expr)(t:TGs):Prop:=
 ∀ (pins:List (Addr×Obj)) (s:Shared) (σ:St) (H:Hp) (vs:List V) (us:List Value) (Q:St->Hp->Prop),Inv X pins σ H s->Vals vs us->t vs σ H Q ->
  wpAny (model X.prog X.w) X.A (assignInOrder ((assignEach ts X.env).map (·.2)) us) (λ_ s'=>∃ σ' H',Inv X pins σ' H' s'∧Q σ' H') X.xe s
noncomputable abbrev Sk:=V->V->V->Hp->(Hp->Prop)->Prop
noncomputable def VN (X:Cx)(t:Sk):Prop:=
 ∀ (pins:List (Addr×Obj)) (s:Shared) (σ:St) (H:Hp) (o i v:V) (ov iv u:Value) (Q:Hp->Prop),Inv X pins σ H s->RelV o ov->RelV i iv->RelV v u->t o i v H Q ->
  wpAny (model X.prog X.w) X.A (setItem ov iv u) (λ_ s'=>∃ H',Inv X pins σ H' s'∧Q H') X.xe s
section
variable {X:Cx} {pos:Pos}
noncomputable def Tq (i:Nat):TG:=λv σ H Q=>Q (σ.set i (some v)) H
theorem VP {i:Nat}{x:Str}(hN:X.N.Nodup)(hi:X.N[i]? = some x)(hx:Loc X.env.scope x)(hf:X.fn x=true∨X.env.scope.names.lookup x=some .local:=by first|exact .inl rfl|exact .inr rfl|assumption):PG X (.Name x pos) (Tq i):=by
 intro pins s σ H v u Q I r h
 exact wpAny_assign_Name (FW I hN hi hx r (λs' I'=>⟨_,H,I',h⟩) hf)
noncomputable def Abu:TGs:=λvs σ H Q=>vs=[]∧Q σ H
noncomputable def Y3 (t:TG)(u:TGs):TGs:=λvs σ H Q=>∃ v r,vs=v::r∧t v σ H fun σ' H'=>u r σ' H' Q
theorem VT:PGs X [] Abu:=by
 intro pins s σ H vs us Q I r h
 obtain ⟨e,h⟩:=h
 subst e
 cases r
 exact assignInOrder_nil ⟨σ,H,I,h⟩
theorem Sb {e:Expr}{es:List Expr}{t:TG}{u:TGs}(h1:PG X e t)(h2:PGs X es u)
  (hs:(assignEach (e::es) X.env).map (·.2)=assign e X.env::(assignEach es X.env).map (·.2):=by rfl):PGs X (e::es) (Y3 t u):=by
 intro pins s σ H vs us Q I r h
 obtain ⟨v,vr,e1,h⟩:=h
 subst e1
 cases r with
 | cons r rr =>
  rw [hs]
  refine assignInOrder_cons (thn (h1 pins s σ H _ _ _ I r h) λ_ s1 ⟨σ1,H1,I1,q1⟩=>?_)
  exact h2 pins s1 σ1 H1 _ _ Q I1 rr q1
noncomputable def AaD (K:PySem.W.Frag)(n:Nat)(t:TGs):TG:=λv σ H Q=>∃ a xs,v=.ref a∧SqT K H a xs∧xs.length=n∧t xs σ H Q
theorem XA {es:List Expr}{k:Nat}{t:TGs}{n:Nat}(hc:X.calm=true)(h:PGs X es t)
  (hn:(assignEach es X.env).length=n:=by rfl) (hst:(assignEach es X.env).findIdx? (·.1)=none:=by rfl):PG X (.Tuple es k pos) (AaD X.K n t):=by
 intro pins s σ H v u Q I r hw
 obtain ⟨a,xs,e1,hq,hl,hw⟩:=hw
 subst e1
 cases r
 obtain ⟨its,rv,ht,hz⟩:=I.tuple hq
 refine assign_Tuple_tuple (I.ok.hd hc) ht (by simp [hn,← hl,rv.length]) hst λh' hx=>?_
 have I1:Inv X pins σ H { s with heap:=h' }:=I.kept (t':=s.toks) λb o e=>hx b o (Ar (Ak e)) e
 exact h pins _ σ H xs _ Q I1 (by simpa using rv) hw
noncomputable def Aa7 (to ti:TE)(t:Sk):TG:=λv σ H Q=>to σ H λo H1=>ti σ H1 λi H2=>t o i v H2 λH3=>Q σ H3
theorem WW {o i:Expr}{to ti:TE}{t:Sk}(ho:PE X o to)(hi:PE X i ti)(hs:VN X t)
  (ha:∀ v,assign (.Subscript o i pos) X.env v=(do
   let ov←holding [v] (eval o X.env)
   let iv←holding [v,ov] (eval i X.env)
   standAt pos
   holding [v,ov,iv] (setItem ov iv v)
   release [v,ov,iv] []):=by intro _;rfl):PG X (.Subscript o i pos) (Aa7 to ti t):=by
 intro pins s σ H v u Q I r h
 rw [ha]
 refine Aa (AG (thn (ho pins s σ H _ I h) λov s1 ⟨x,H1,I1,r1,q1⟩=>?_))
 refine Aa (AG (thn (hi pins s1 σ H1 _ I1 q1) λiv s2 ⟨y,H2,I2,r2,q2⟩=>?_))
 refine Aa (wpAny_standAt (Aa (AG (thn (hs pins s2 σ H2 x y v ov iv u _ I2 r1 r2 r q2) λ_ s3 ⟨H3,I3,q3⟩=>?_))))
 exact wpAny_release ⟨σ,H3,I3,q3⟩
noncomputable def Us (te:TE)(g:TG):TS:=λD σ H=>te σ H λx H1=>g x σ H1 D.nx
theorem W8 {tg e:Expr}{te:TE}{g:TG}(he:PE X e te)(hg:PG X tg g)(hs:swapsWithSole [tg] e pos.line X.env=pure false:=by rfl)(hw:swappedStores [tg] e X.env=pure none:=by rfl)
  (h1:(assignEach [tg] X.env).map (·.2)=[assign tg X.env]:=by rfl):PS X (.Assign [tg] e pos) (Us te g):=by
 intro pins s σ H D I h
 refine wpAny_Assign_stores (thn (he pins s σ H _ I h) λv s1 ⟨x,H1,I1,r1,q1⟩=>?_) hs hw
 rw [h1]
 exact thn (hg pins s1 σ H1 x v _ I1 r1 q1) λ_ s2 q=>q
theorem WA {i:Nat}{x:Str}{e:Expr}{te:TE}{pos':Pos}(hN:X.N.Nodup)(hi:X.N[i]? = some x)(hx:Loc X.env.scope x)(he:PE X e te)(hs:swapsWith e (some (.Name x pos')) pos.line X.env=pure false:=by rfl)(hf:X.fn x=true∨X.env.scope.names.lookup x=some .local:=by first|exact .inl rfl|exact .inr rfl|assumption) :
  PS X (.Assign [.Name x pos'] e pos) (Us te (Tq i)):=by
 intro pins s σ H D I h
 refine wpAny_Assign_Name (thn (he pins s σ H _ I h) λv s1 ⟨y,H1,I1,r1,q1⟩=>?_) hs
 exact FW I1 hN hi hx r1 (λs2 I2=>⟨_,H1,I2,q1⟩) hf
noncomputable def Abm (i j:Nat)(ta:TA):TS:=λD σ H=>ta σ H λvs H1=>∃ v w,vs=[v,w]∧D.nx ((σ.set i (some v)).set j (some w)) H1
theorem X8 {i j:Nat}{x y:Str}{a b:Expr}{ta:TA}{px py pt:Pos}{kt k2 pt2}(hc:X.calm=true)(hN:X.N.Nodup)(hi:X.N[i]? = some x)(hj:X.N[j]? = some y)(hij:i≠j)
  (hx:X.env.scope.names.lookup x=some .local) (hy:X.env.scope.names.lookup y=some .local) (ha:PA X [a,b] ta)
  (hw:swappedStores [.Tuple [.Name x px,.Name y py] kt pt] (.Tuple [a,b] k2 pt2) X.env=pure (some [x,y]))
  (hs:swapsWithSole [.Tuple [.Name x px,.Name y py] kt pt] (.Tuple [a,b] k2 pt2) pos.line X.env=pure false:=by rfl) :
  PS X (.Assign [.Tuple [.Name x px,.Name y py] kt pt] (.Tuple [a,b] k2 pt2) pos) (Abm i j ta):=by
 intro pins s σ H D I h
 rw [exec_Assign_arm]
 refine Aa (wpAny_standAt ?_)
 rw [hs]
 refine Aa (Ac ?_)
 rw [if_neg (by decide)]
 refine Aa (Tuple_ (thn (ha _ pins s σ H _ I h) λus s1 ⟨vs,H1,I1,r1,q1⟩=>?_))
 obtain ⟨v,w,e1,q1⟩:=q1
 subst e1
 obtain ⟨u1,u2,rfl,rv,rw'⟩:∃ u1 u2,us=[u1,u2]∧RelV v u1∧RelV w u2:=by
  cases r1 with
  | cons p q =>
   cases q with
   | cons p' q' =>
    cases q'
    exact ⟨_,_,rfl,p,p'⟩
 refine AO ?_ (by show 2≤sizeLine;decide)
 have I2:Inv X pins σ H1 { s1 with heap:=s1.heap.push { cls:=.type "tuple",data:=.seq [u1,u2].toArray } }:=I1.kept (t':=s1.toks) λb o e=>Ad _ e
 rw [hw]
 refine Aa (Ac ?_)
 show wpAny (model X.prog X.w) X.A (do rule "assign.swapped-stores";let items←unpackItems (.ref s1.heap.objs.size) 2 none;assignInOrder [λv=>bindName X.env y v,λv=>bindName X.env x v] items.reverse;pure Flow.next) _ _ _
 refine Aa (Bh (Aa (unpackItems_tuple (items:=#[u1,u2]) (I.ok.hd hc) (IsTup.new s1.heap _) λh' hx'=>?_)))
 have I3:=I2.kept (h':=h') (t':=s1.toks) λb o e=>hx' b o (Ar (Ak e)) e
 show wpAny _ _ (assignInOrder [λv=>bindName X.env y v,λv=>bindName X.env x v] [u2,u1] >>= λ_=>pure Flow.next) _ _ _
 refine Aa (assignInOrder_cons (wpAny_bindName (FW I3 hN hj (.inl hy) rw' (λs2 I4=>?_) (.inr hy))))
 refine assignInOrder_cons (wpAny_bindName (FW I4 hN hi (.inl hx) rv (λs3 I5=>assignInOrder_nil (Ac ?_)) (.inr hx)))
 rw [List.set_comm _ _ (Ne.symm hij)] at I5
 exact ⟨_,H1,I5,q1⟩
end
structure It where
 go:Nat->Hp->Prop
 yld:Nat->Hp->V->Hp->Prop
 stop:Nat->Hp->Prop
noncomputable def IV (X:Cx)(pins:List (Addr×Obj))(H:Hp)(b:Addr):Prop:=
 H b=none∧b≠X.env.locals∧b∉X.fs∧(b∈X.ex∨X.s₀.heap.objs.size≤b)∧(∀ x c,X.env.cells.lookup x=some c->c≠b)∧∀ p∈X.pn++pins,p.1≠b
theorem Inv.fpOk {X:Cx}{pins:List (Addr×Obj)}{σ:St}{H H':Hp}{s:Shared}{b:Addr}(I:Inv X pins σ H s)(hb:s.heap.objs.size≤b)(hn:H' b=none):IV X pins H' b:=by
 refine ⟨hn,BH (Aw I.lt hb),I.nofs hb,.inr (AK I.sz hb),λx c e z=>?_,λp hp z=>?_⟩
 ·obtain ⟨v,q⟩:=I.cell x c e
  exact absurd (Aw q.lt (by rw [z];exact hb)) (A6 _)
 ·exact absurd (Aw (Ak (I.pin p hp).1) (by rw [z];exact hb)) (A6 _)
structure Turn (P:Program) (w:World) (K:PySem.W.Frag) (tg:Expr) (J:It) (fp:List Addr) (it:Addr) (tn:Nat->Heap->Prop):Prop where
 mem:it∈fp
 obj:∀ i h,tn i h->∀ b∈fp,∃ o,h.get? b=some o∧∀ v,o.data≠.cell v
 keep:∀ i h h',tn i h->(∀ b∈fp,∀ o,h.get? b=some o->h'.get? b=some o)->tn i h'
 item:∀ (X:Cx),X.prog=P->X.w=w->X.K=K->X.calm=true->∀ (i:Nat) (pins:List (Addr×Obj)) (s:Shared) (σ:St) (H:Hp) (E:Value->Shared->Prop),Inv X pins σ H s->(∀ b∈fp,IV X pins H b)->tn i s.heap->J.go i H ->
  wpAny (model P w) X.A (pyNext (.ref it)) (λr s1=>∃ u,r=some u ∧
   wpAny (model P w) X.A (letOwnedTupleGo tg (.ref it) u) (λ_ s2=>∃ x H',Inv X pins σ H' s2∧RelV x u∧J.yld i H x H'∧tn (i+1) s2.heap∧∀ b∈fp,H' b=none) E s1) E s
 done:∀ (X:Cx),X.prog=P->X.w=w->X.K=K->X.calm=true->∀ (i:Nat) (pins:List (Addr×Obj)) (s:Shared) (σ:St) (H:Hp) (E:Value->Shared->Prop),Inv X pins σ H s->(∀ b∈fp,IV X pins H b)->tn i s.heap->J.stop i H ->
  wpAny (model P w) X.A (pyNext (.ref it)) (λr s1=>r=none∧Inv X pins σ H s1) E s
 self:∀ (A:Around) (i:Nat) (s:Shared) (Q:Value->Shared->Prop) (E:Value->Shared->Prop),tn i s.heap->Q (.ref it) s->wpAny (model P w) A (pyIter (.ref it)) Q E s
noncomputable abbrev TI:=St->Hp->(It->Hp->Prop)->Prop
noncomputable def PIE (X:Cx)(pins:List (Addr×Obj))(σ:St)(tg:Expr)(R:It->Hp->Prop)(itv:Value)(s2:Shared):Prop:=
 ∃ (it:Addr) (fp:List Addr) (tn:Nat->Heap->Prop) (J:It) (H':Hp),itv=.ref it∧Inv X pins σ H' s2∧Turn X.prog X.w X.K tg J fp it tn∧tn 0 s2.heap∧(∀ b∈fp,IV X pins H' b)∧R J H'
noncomputable def PI (X:Cx)(tg iter:Expr)(wi:TI):Prop:=
 ∀ (pins:List (Addr×Obj)) (s:Shared) (σ:St) (H:Hp) (R:It->Hp->Prop),Inv X pins σ H s->wi σ H R ->
  wpAny (model X.prog X.w) X.A (eval iter X.env) (λv s1=>wpAny (model X.prog X.w) X.A (pyIter v) (PIE X pins σ tg R) X.xe s1) X.xe s
theorem QH {M:Model}{A:Around}{E:Value->Shared->Prop}{s:Shared}{tg:Expr}{it:Addr}{u:Value}{o:Obj}{n:String}{vs:Array Value}{Q:Unit->Shared->Prop}(ho:s.heap.get? it=some o)(hc:o.cls=.type n)(hd:o.data=.fields vs)
  (hn:["enumerate","zip","dict_itemiterator","dict_reverseitemiterator","odict_iterator","itertools.zip_longest","itertools.pairwise"].contains n=false) (hQ:Q () s):wpAny M A (letOwnedTupleGo tg (.ref it) u) Q E s:=by
 unfold letOwnedTupleGo
 cases tg<;>first
  | exact Ac hQ
  | (cases u<;>first
    | exact Ac hQ
    | (refine Aa (wpAny_load ho ?_);rw [hc,hd];show wpAny M A (if (["enumerate","zip","dict_itemiterator","dict_reverseitemiterator","odict_iterator","itertools.zip_longest","itertools.pairwise"].contains n&&vs[0]?==some (rawInt _))=true then _ else _) Q E s;rw [if_neg (by intro h;rw [hn,BA] at h;cases h)];exact Ac hQ))
noncomputable def Itl (K:PySem.W.Frag)(a:Addr):It:=
 ⟨λi H=>∃ xs x,SqL K H a xs∧xs[i]? = some x,λi H x H'=>H'=H∧∀ xs,SqL K H a xs->xs[i]? = some x,λi H=>∃ xs,SqL K H a xs∧xs.length≤i⟩
noncomputable def Itt (K:PySem.W.Frag)(a:Addr):It:=
 ⟨λi H=>∃ xs x,SqT K H a xs∧xs[i]? = some x,λi H x H'=>H'=H∧∀ xs,SqT K H a xs->xs[i]? = some x,λi H=>∃ xs,SqT K H a xs∧xs.length≤i⟩
noncomputable def Itr (lo:Int)(n:Nat):It:=⟨λi _=>i<n,λi H x H'=>H'=H∧x=.int (lo+i),λi _=>n≤i⟩
theorem Ri {P:Program}{w:World}{K:PySem.W.Frag}{tg:Expr}(a it:Addr):Turn P w K tg (Itl K a) [it] it (λi h=>h.IsListIter it a i) where
 mem:=by simp
 obj:=λi h st b hb=>by
  have e:b=it:=by simpa using hb
  subst e
  obtain ⟨o,e,c,d⟩:=st
  exact ⟨o,e,λv z=>by rw [d] at z;cases z⟩
 keep:=λi h h' st k=>st.at λo e=>k it (by simp) o e
 item:=by
  intro X hP hw hK hc i pins s σ H E I hf st hg
  subst hP hw hK
  obtain ⟨xs,x,hq,hx⟩:=hg
  obtain ⟨its,rv,p,hz⟩:=I.list hq
  obtain ⟨u,hu,ru⟩:=rv.get hx
  obtain ⟨f0,f1,f2,f3,f4,f5⟩:=hf it (by simp)
  refine wpAny_pyNext_list_item st p.isList (x:=u) (by simpa using hu) λh' st' sb=>?_
  have I1:Inv X pins σ H { s with heap:=h' }:=I.turned (t':=s.toks) (λb o hb e=>(sb.2 b hb).trans e) f0 f1 f3 f4 f5
  obtain ⟨o,e,c,d⟩:=id st'
  exact ⟨u,rfl,QH (s:={ s with heap:=h' }) e c d (by decide) ⟨x,H,I1,ru,⟨rfl,λys hy=>by rw [I.list_inj hy hq];exact hx⟩,st',λb hb=>(hf b hb).1⟩⟩
 done:=by
  intro X hP hw hK hc i pins s σ H E I hf st hg
  subst hP hw hK
  obtain ⟨xs,hq,hx⟩:=hg
  obtain ⟨its,rv,p,hz⟩:=I.list hq
  obtain ⟨f0,f1,f2,f3,f4,f5⟩:=hf it (by simp)
  have hl:=rv.length
  exact wpAny_pyNext_list_end (I.ok.hd hc) st p.isList (by simp;omega) λh' eb=>⟨rfl,I.turned (t':=s.toks) (λb o hb e=>eb b o hb e) f0 f1 f3 f4 f5⟩
 self:=λ_ _ _ _ _ st h=>wpAny_pyIter_listiter st h
theorem PK {P:Program}{w:World}{K:PySem.W.Frag}{tg:Expr}(a it:Addr):Turn P w K tg (Itt K a) [it] it (λi h=>h.IsTupleIter it a i) where
 mem:=by simp
 obj:=λi h st b hb=>by
  have e:b=it:=by simpa using hb
  subst e
  obtain ⟨o,e,c,d⟩:=st
  exact ⟨o,e,λv z=>by rw [d] at z;cases z⟩
 keep:=λi h h' st k=>st.at λo e=>k it (by simp) o e
 item:=by
  intro X hP hw hK hc i pins s σ H E I hf st hg
  subst hP hw hK
  obtain ⟨xs,x,hq,hx⟩:=hg
  obtain ⟨its,rv,p,hz⟩:=I.tuple hq
  obtain ⟨u,hu,ru⟩:=rv.get hx
  obtain ⟨f0,f1,f2,f3,f4,f5⟩:=hf it (by simp)
  refine wpAny_pyNext_tuple_item st (show s.heap.IsTuple a its.toArray from p) (x:=u) (by simpa using hu) λh' st' sb=>?_
  have I1:Inv X pins σ H { s with heap:=h' }:=I.turned (t':=s.toks) (λb o hb e=>(sb.2 b hb).trans e) f0 f1 f3 f4 f5
  obtain ⟨o,e,c,d⟩:=id st'
  exact ⟨u,rfl,QH (s:={ s with heap:=h' }) e c d (by decide) ⟨x,H,I1,ru,⟨rfl,λys hy=>by rw [I.tuple_inj hy hq];exact hx⟩,st',λb hb=>(hf b hb).1⟩⟩
 done:=by
  intro X hP hw hK hc i pins s σ H E I hf st hg
  subst hP hw hK
  obtain ⟨xs,hq,hx⟩:=hg
  obtain ⟨its,rv,p,hz⟩:=I.tuple hq
  obtain ⟨f0,f1,f2,f3,f4,f5⟩:=hf it (by simp)
  have hl:=rv.length
  exact wpAny_pyNext_tuple_end (I.ok.hd hc) st (show s.heap.IsTuple a its.toArray from p) (by simp;omega) λh' eb=>⟨rfl,I.turned (t':=s.toks) (λb o hb e=>eb b o hb e) f0 f1 f3 f4 f5⟩
 self:=λ_ _ _ _ _ st h=>wpAny_pyIter_tupleiter st h
theorem OW {P:Program}{w:World}{K:PySem.W.Frag}{tg:Expr}(it:Addr)(lo:Int)(n:Nat):Turn P w K tg (Itr lo n) [it] it (λi h=>IsRangeIter h it (lo+(i:Nat)*1) ((n:Int)-(i:Nat)) 1) where
 mem:=by simp
 obj:=λi h st b hb=>by
  have e:b=it:=by simpa using hb
  subst e
  exact ⟨_,st,λv z=>by
   have z':Data.fields _=Data.cell v:=z
   cases z'⟩
 keep:=λi h h' st k=>k it (by simp) _ st
 item:=by
  intro X hP hw hK hc i pins s σ H E I hf st hg
  subst hP hw hK
  obtain ⟨f0,f1,f2,f3,f4,f5⟩:=hf it (by simp)
  have W:=Walks.range (prog:=X.prog) (w:=X.w) (I.ok.hd hc) it lo 1 n
  refine W.item i s _ _ hg st λv h' tk hv st' kk=>?_
  obtain ⟨t,rfl⟩:=hv
  have I1:Inv X pins σ H { s with heap:=h',toks:=tk }:=I.turned (λb o hb e=>kk b o (by simpa using hb) e) f0 f1 f3 f4 f5
  refine ⟨_,rfl,QH (s:={ s with heap:=h',toks:=tk }) (n:="range_iterator") st' rfl rfl (by decide) ⟨.int (lo+i),H,I1,⟨t,?_⟩,⟨rfl,rfl⟩,st',λb hb=>(hf b hb).1⟩⟩
  rw [Int.mul_one]
 done:=by
  intro X hP hw hK hc i pins s σ H E I hf st hg
  subst hP hw hK
  obtain ⟨f0,f1,f2,f3,f4,f5⟩:=hf it (by simp)
  exact wpAny_pyNext_range_end (I.ok.hd hc) st (by have:n≤i:=hg;omega) λh' eb=>⟨rfl,I.turned (t':=s.toks) (λb o hb e=>eb b o hb e) f0 f1 f3 f4 f5⟩
 self:=λ_ _ _ _ _ st h=>wpAny_pyIter_rangeiter st h
section
variable {X:Cx} {tg:Expr}
noncomputable def ZC (K:PySem.W.Frag)(tl:TE):TI:=fun σ H R=>tl σ H λx H1=>∃ a,x=.ref a∧(∃ xs,SqL K H1 a xs)∧R (Itl K a) H1
noncomputable def Aa0 (K:PySem.W.Frag)(tl:TE):TI:=fun σ H R=>tl σ H λx H1=>∃ a,x=.ref a∧(∃ xs,SqT K H1 a xs)∧R (Itt K a) H1
theorem QC {l:Expr}{tl:TE}(hl:PE X l tl):PI X tg l (ZC X.K tl):=by
 intro pins s σ H R I h
 refine thn (hl pins s σ H _ I h) λv s1 ⟨x,H1,I1,r1,q1⟩=>?_
 obtain ⟨a,e,⟨xs,hq⟩,q⟩:=q1
 subst e
 cases r1
 obtain ⟨its,rv,p,hz⟩:=I1.list hq
 refine wpAny_pyIter_list p.isList ?_
 refine ⟨s1.heap.objs.size,[s1.heap.objs.size],_,_,H1,rfl,I1.kept (t':=s1.toks) λb o e=>Ad _ e,Ri a _,⟨_,Am _ rfl,rfl,rfl⟩,λb hb=>?_,q⟩
 have e:b=s1.heap.objs.size:=by simpa using hb
 subst e
 exact I1.fpOk (Ah _) (I1.hok.fresh (Ah _))
theorem WH {l:Expr}{tl:TE}(hl:PE X l tl):PI X tg l (Aa0 X.K tl):=by
 intro pins s σ H R I h
 refine thn (hl pins s σ H _ I h) λv s1 ⟨x,H1,I1,r1,q1⟩=>?_
 obtain ⟨a,e,⟨xs,hq⟩,q⟩:=q1
 subst e
 cases r1
 obtain ⟨its,rv,p,hz⟩:=I1.tuple hq
 refine wpAny_pyIter_tuple (show s1.heap.IsTuple a its.toArray from p) ?_
 refine ⟨s1.heap.objs.size,[s1.heap.objs.size],_,_,H1,rfl,I1.kept (t':=s1.toks) λb o e=>Ad _ e,PK a _,⟨_,Am _ rfl,rfl,rfl⟩,λb hb=>?_,q⟩
 have e:b=s1.heap.objs.size:=by simpa using hb
 subst e
 exact I1.fpOk (Ah _) (I1.hok.fresh (Ah _))
theorem RS {pins:List (Addr×Obj)}{σ:St}{H:Hp}{s:Shared}{R:It->Hp->Prop}{E:Value->Shared->Prop}{lo hi:Int}{t u v:Tok}{tk:Nat}(I:Inv X pins σ H s)(h1:-(2 ^ 62)≤lo)(h2:lo<2 ^ 62)(h3:-(2 ^ 62)≤hi)(h4:hi<2 ^ 62)
  (q:R (Itr lo (hi-lo).toNat) H):wpAny (model X.prog X.w) X.A (pyIter (.ref s.heap.objs.size)) (PIE X pins σ tg R) E { s with heap:=s.heap.push { cls:=.type "range",data:=.fields #[.int lo t,.int hi u,.int 1 v] },toks:=tk }:=by
 refine wpAny_pyIter_range (IsRange.new ..) (small_one h1 h2 h3 h4) ?_
 have I1:Inv X pins σ H { s with heap:=s.heap.push { cls:=.type "range",data:=.fields #[.int lo t,.int hi u,.int 1 v] },toks:=tk }:=I.kept λb o e=>Ad _ e
 refine ⟨(s.heap.push { cls:=.type "range",data:=.fields #[.int lo t,.int hi u,.int 1 v] }).objs.size,[(s.heap.push { cls:=.type "range",data:=.fields #[.int lo t,.int hi u,.int 1 v] }).objs.size],_,_,H,rfl,
  I1.kept (t':=tk) λb o e=>Ad _ e,OW _ lo (hi-lo).toNat,?_,λb hb=>?_,q⟩
 ·have e1:lo+((0:Nat):Int)*1=lo:=by simp
  have e2:(((hi-lo).toNat:Nat):Int)-((0:Nat):Int)=Builtin.Range.rangeSize lo hi 1:=by rw [rangeSize_one];split<;>omega
  show IsRangeIter _ _ (lo+((0:Nat):Int)*1) ((((hi-lo).toNat:Nat):Int)-((0:Nat):Int)) 1
  rw [e1,e2]
  exact Am _ rfl
 ·have e:b=(s.heap.push { cls:=.type "range",data:=.fields #[.int lo t,.int hi u,.int 1 v] }).objs.size:=by simpa using hb
  subst e
  exact I1.fpOk (Ah _) (I1.hok.fresh (Ah _))
noncomputable def Zm (ta:TA):TI:=fun σ H R=>ta σ H λvs H1=>∃ j:Int,vs=[.int j]∧-(2 ^ 62)≤j∧j<2 ^ 62∧R (Itr 0 j.toNat) H1
theorem Rp {a:Expr}{ta:TA}{p pos:Pos}(hg:Gl X "range")(hm:X.mg "range"=none)(ha:PA X [a] ta)(hs:starEach [a] X.env=[(false,eval a X.env)]:=by rfl):PI X tg (.Call (.Name "range" p) [a] [] pos) (Zm ta):=by
 intro pins s σ H R I h
 refine Call_ (M1 I hg hm boot_range (PyProof.Rows.callWith_type1 (thn (ha pos pins s σ H _ I h) λus s1 ⟨vs,H1,I1,r1,q1⟩=>?_) hs rfl))
 obtain ⟨j,e,q1,q2,q⟩:=q1
 subst e
 cases r1 with
 | cons r rr =>
  cases rr
  obtain ⟨t,rfl⟩:=r
  exact call_range_1 (RS I1 (by omega) (by omega) q1 q2 (by simpa using q))
noncomputable def AaG (wi:TI)(g:TG)(tb:TS):TS:=λD σ H=>wi σ H λJ H1=>∃ W:Nat->Nat->St->Hp->Prop,(∃ m,W 0 m σ H1)∧∀ i m σ H,W i m σ H ->
 (J.stop i H∧D.nx σ H)∨(J.go i H∧∃ N:St->Hp->Prop,(∀ σ' H',N σ' H'->∃ m',m'<m∧W (i+1) m' σ' H')∧∀ x H',J.yld i H x H'->g x σ H' fun σ2 H2=>tb { D with nx:=N,ct:=N,bk:=D.nx } σ2 H2)
noncomputable def HG (fp:List Addr)(h:Heap):List (Addr×Obj):=fp.filterMap λb=>(h.get? b).map λo=>(b,o)
theorem EH {fp:List Addr}{h:Heap}{b:Addr}{o:Obj}(hb:b∈fp)(e:h.get? b=some o):(b,o)∈HG fp h:=List.mem_filterMap.mpr ⟨b,hb,by rw [e];rfl⟩
theorem L7 {fp:List Addr}{h:Heap}{p:Addr×Obj}(hp:p∈HG fp h):p.1∈fp∧h.get? p.1=some p.2:=by
 obtain ⟨b,hb,e⟩:=List.mem_filterMap.mp hp
 cases q:h.get? b with
 | none=>rw [q] at e;cases e
 | some o =>
  rw [q] at e
  have e':(b,o)=p:=AJ e
  subst e'
  exact ⟨hb,q⟩
theorem Inv.pinned {pins:List (Addr×Obj)}{σ:St}{H:Hp}{s:Shared}{fp:List Addr}(I:Inv X pins σ H s)(hf:∀ b∈fp,IV X pins H b)(ho:∀ b∈fp,∃ o,s.heap.get? b=some o∧∀ v,o.data≠.cell v):Inv X (pins++HG fp s.heap) σ H s:=
 I.pins_of λp hp=>(AI.mp hp).elim (λz=>I.pin p (Aj _ z)) λz=>by
  obtain ⟨hb,e⟩:=L7 z
  obtain ⟨f0,f1,f2,_⟩:=hf p.1 hb
  obtain ⟨o,e',d⟩:=ho p.1 hb
  rw [e] at e';cases e'
  exact ⟨e,f0,f1,f2,d⟩
theorem Inv.unpinned {pins pl:List (Addr×Obj)}{σ:St}{H:Hp}{s:Shared}(I:Inv X (pins++pl) σ H s):Inv X pins σ H s:=I.pins_of λp hp=>I.pin p (Aj _ (AZ _ hp))
theorem Wv {iter:Expr}{body:List Stmt}{wi:TI}{g:TG}{tb:TS}{pos:Pos}(hp:PassesOwn (model X.prog X.w) X.A X.env X.xe)(hc:X.calm=true)(hi:PI X tg iter wi)(hg:PG X tg g)(hb:PSs X body tb)
  (hs:∀ x,foldedSetIterable iter X.env x=pure x:=by intro _;rfl):PS X (.For tg iter body [] pos) (AaG wi g tb):=by
 intro pins s σ H D I h
 refine wpAny_For (thn (hi pins s σ H _ I h) λv s1 h1=>thn h1 λitv s2 h2=>?_) hs
 obtain ⟨it,fp,tn,J,H2,e,I2,T,st2,f2,W,⟨m0,w0⟩,turn⟩:=h2
 subst e
 have stat:∀ {H':Hp},(∀ b∈fp,H' b=none)->∀ b∈fp,IV X pins H' b:=λhn b hb=>⟨hn b hb,(f2 b hb).2⟩
 refine codeAny_forLoop_any (λn s'=>∃ i σ' H',Inv X pins σ' H' s'∧tn i s'.heap∧(∀ b∈fp,H' b=none)∧W i n σ' H') ?_ m0 ⟨0,σ,H2,I2,st2,λb hb=>(f2 b hb).1,w0⟩
 rintro n s3 ⟨i,σ3,H3,I3,st3,fr3,w3⟩
 rcases turn i n σ3 H3 w3 with ⟨stop,qn⟩|⟨go,N,hN,step⟩
 ·refine wpAny_passesOwn hp (thn (T.done X rfl rfl rfl hc i pins s3 σ3 H3 X.xe I3 (stat fr3) st3 stop) λr s4 ⟨hr,I4⟩=>?_)
  subst hr
  exact wpAny_execs_nil ⟨σ3,H3,I4,qn⟩
 ·refine wpAny_passesOwn hp (thn (T.item X rfl rfl rfl hc i pins s3 σ3 H3 X.xe I3 (stat fr3) st3 go) λr s4 ⟨u,hr,h4⟩=>?_)
  subst hr
  refine wpAny_passesOwn hp (thn h4 λ_ s5 ⟨x,H5,I5,r5,y5,st5,fr5⟩=>?_)
  have I5':=I5.pinned (stat fr5) (T.obj _ _ st5)
  refine wpAny_passesOwn hp (thn (hg _ s5 σ3 H5 x u _ I5' r5 (step x H5 y5)) λ_ s6 ⟨σ6,H6,I6,q6⟩=>?_)
  refine wpAny_passesOwn hp (thn (hb _ s6 σ6 H6 _ I6 q6) λf s7 q7=>?_)
  have again:∀ {σ7:St} {H7:Hp},Inv X (pins++HG fp s5.heap) σ7 H7 s7->N σ7 H7->∃ m,m<n∧∃ i σ' H',Inv X pins σ' H' s7∧tn i s7.heap∧(∀ b∈fp,H' b=none)∧W i m σ' H':=λ{σ7 H7} I7 n7=>by
   obtain ⟨m',hm,w7⟩:=hN σ7 H7 n7
   refine ⟨m',hm,i+1,σ7,H7,I7.unpinned,T.keep _ _ _ st5 λb hb o e=>(I7.pin (b,o) (Aj _ (Aj _ (EH hb e)))).1,λb hb=>?_,w7⟩
   obtain ⟨o,e,d⟩:=T.obj _ _ st5 b hb
   exact (I7.pin (b,o) (Aj _ (Aj _ (EH hb e)))).2.1
  cases f with
  | next=>obtain ⟨σ7,H7,I7,n7⟩:=q7;exact again I7 n7
  | cont=>obtain ⟨σ7,H7,I7,n7⟩:=q7;exact again I7 n7
  | brk=>obtain ⟨σ7,H7,I7,q7⟩:=q7;exact ⟨σ7,H7,I7.unpinned,q7⟩
  | ret v=>obtain ⟨x7,σ7,H7,I7,r7,q7⟩:=q7;exact ⟨x7,σ7,H7,I7.unpinned,r7,q7⟩
end
noncomputable abbrev R2:=V->V->Hp->VK->Prop
noncomputable def OpR (X:Cx)(f:Value->Value->Sem Value)(r:R2):Prop:=
 ∀ (pins:List (Addr×Obj)) (s:Shared) (σ:St) (H:Hp) (x y:V) (v u:Value) (Q:VK),Inv X pins σ H s->RelV x v->RelV y u->r x y H Q ->
  wpAny (model X.prog X.w) X.A (f v u) (EP X pins σ Q) X.xe s
noncomputable def UnR (X:Cx)(f:Value->Sem Value)(r:V->Hp->VK->Prop):Prop:=
 ∀ (pins:List (Addr×Obj)) (s:Shared) (σ:St) (H:Hp) (x:V) (v:Value) (Q:VK),Inv X pins σ H s->RelV x v->r x H Q ->
  wpAny (model X.prog X.w) X.A (f v) (EP X pins σ Q) X.xe s
noncomputable def GY (X:Cx)(f:Value)(r:List V->Hp->VK->Prop):Prop:=
 ∀ (pins:List (Addr×Obj)) (s:Shared) (σ:St) (H:Hp) (xs:List V) (us:List Value) (Q:VK),Inv X pins σ H s->Vals xs us->r xs H Q ->
  wpAny (model X.prog X.w) X.A (call f us) (EP X pins σ Q) X.xe s
noncomputable def tOp (r:R2)(ta tb:TE):TE:=fun σ H Q=>ta σ H λx H1=>tb σ H1 λy H2=>r x y H2 Q
noncomputable def tUn (r:V->Hp->VK->Prop)(ta:TE):TE:=fun σ H Q=>ta σ H λx H1=>r x H1 Q
noncomputable def rI (C:Int->Int->Prop)(g:Int->Int->V):R2:=λx y H Q=>∃ i j,x=.int i∧y=.int j∧C i j∧Q (g i j) H
noncomputable def rI0 (g:Int->Int->V):R2:=λx y H Q=>∃ i j,x=.int i∧y=.int j∧Q (g i j) H
noncomputable def rU (g:Int->V):V->Hp->VK->Prop:=λx H Q=>∃ i,x=.int i∧Q (g i) H
section
variable {X:Cx} {a b c:Expr} {ta tb tc:TE} {pos:Pos}
theorem WC (ha:PE X a ta)(hb:PE X b tb){pins:List (Addr×Obj)}{s:Shared}{σ:St}{H:Hp}{R:V->V->Hp->Prop}(I:Inv X pins σ H s)
  (h:ta σ H λx H1=>tb σ H1 λy H2=>R x y H2) {Q:Value->Shared->Prop} {f:Value->Value->Sem Value}
  (hf:∀ v u s2 x y H2,Inv X pins σ H2 s2->RelV x v->RelV y u->R x y H2->wpAny (model X.prog X.w) X.A (f v u) Q X.xe s2) :
  wpAny (model X.prog X.w) X.A (eval a X.env) (λv s₁=>wpAny (model X.prog X.w) X.A (eval b X.env) (λu s₂=>wpAny (model X.prog X.w) X.A (f v u) Q X.xe s₂) X.xe s₁) X.xe s:=by
 refine thn (ha pins s σ H _ I h) λv s1 ⟨x,H1,I1,r1,q1⟩=>?_
 refine thn (hb pins s1 σ H1 _ I1 q1) λu s2 ⟨y,H2,I2,r2,q2⟩=>?_
 exact hf v u s2 x y H2 I2 r1 r2 q2
theorem ZA {op:Operator}{r:R2}(ho:OpR X (binaryOp op) r)(ha:PE X a ta)(hb:PE X b tb):PE X (.BinOp a op b pos) (tOp r ta tb):=by
 intro pins s σ H Q I h
 exact wpAny_BinOp (WC ha hb I h λv u s2 x y H2 I2 rx ry q=>ho pins s2 σ H2 x y v u Q I2 rx ry q)
theorem Y2 {op:UnaryOp}{r:V->Hp->VK->Prop}(ho:UnR X (unaryOp op) r)(ha:PE X a ta):PE X (.UnaryOp op a pos) (tUn r ta):=by
 intro pins s σ H Q I h
 exact UnaryOp_ (thn (ha pins s σ H _ I h) λv s1 ⟨x,H1,I1,r1,q1⟩=>ho pins s1 σ H1 x v Q I1 r1 q1)
theorem opI {f:Value->Value->Sem Value}{C:Int->Int->Prop}{g:Int->Int->Int}
  (rule:∀ (i j:Int) (t u:Tok) (s:Shared) (Q:Value->Shared->Prop) (E:Value->Shared->Prop),C i j->Q (.int (g i j) s.toks) { s with toks:=s.toks+1 }->wpAny (model X.prog X.w) X.A (f (.int i t) (.int j u)) Q E s) :
  OpR X f (rI C λi j=>.int (g i j)):=by
 intro pins s σ H x y v u Q I rx ry h
 obtain ⟨i,j,rfl,rfl,hc,q⟩:=h
 obtain ⟨t,rfl⟩:=rx
 obtain ⟨t',rfl⟩:=ry
 exact rule i j t t' s _ _ hc ⟨.int (g i j),H,I.tok _,⟨_,rfl⟩,q⟩
theorem Zo {f:Value->Value->Sem Value}{g:Int->Int->Int}
  (rule:∀ (i j:Int) (t u:Tok) (s:Shared) (Q:Value->Shared->Prop) (E:Value->Shared->Prop),Q (.int (g i j) s.toks) { s with toks:=s.toks+1 }->wpAny (model X.prog X.w) X.A (f (.int i t) (.int j u)) Q E s) :
  OpR X f (rI0 λi j=>.int (g i j)):=by
 intro pins s σ H x y v u Q I rx ry h
 obtain ⟨i,j,rfl,rfl,q⟩:=h
 obtain ⟨t,rfl⟩:=rx
 obtain ⟨t',rfl⟩:=ry
 exact rule i j t t' s _ _ ⟨.int (g i j),H,I.tok _,⟨_,rfl⟩,q⟩
theorem Ye {f:Value->Value->Sem Value}{g:Int->Int->Bool}
  (rule:∀ (i j:Int) (t u:Tok) (s:Shared) (Q:Value->Shared->Prop) (E:Value->Shared->Prop),Q (.bool (g i j)) s->wpAny (model X.prog X.w) X.A (f (.int i t) (.int j u)) Q E s) :
  OpR X f (rI0 λi j=>.bl (g i j)):=by
 intro pins s σ H x y v u Q I rx ry h
 obtain ⟨i,j,rfl,rfl,q⟩:=h
 obtain ⟨t,rfl⟩:=rx
 obtain ⟨t',rfl⟩:=ry
 exact rule i j t t' s _ _ ⟨.bl (g i j),H,I,rfl,q⟩
noncomputable def Nj (i j:Int):Prop:=0<j∧j<1073741824
noncomputable def Rk (i j:Int):Prop:=0≤j∧j≤1000000∧i.natAbs<2 ^ 64
noncomputable def CMul (i j:Int):Prop:=(-(2 ^ 64)<i∧i<2 ^ 64)∨(-(2 ^ 64)<j∧j<2 ^ 64)
theorem CMul.ok {i j:Int}(h:CMul i j):IntMulOk i j:=by
 rcases h with ⟨h1,h2⟩|⟨h1,h2⟩
 ·exact .of_left (intBits_le_64 h1 h2)
 ·exact .of_right (intBits_le_64 h1 h2)
theorem WE:OpR X (binaryOp .Add) (rI0 λi j=>.int (i+j)):=Zo λ_ _ _ _ _ _ _ q=>add_int q
theorem Wu:OpR X (binaryOp .Sub) (rI0 λi j=>.int (i-j)):=Zo λ_ _ _ _ _ _ _ q=>sub_int q
theorem X7:OpR X (binaryOp .Mult) (rI CMul λi j=>.int (i*j)):=opI λ_ _ _ _ _ _ _ hc q=>mul_int q hc.ok
theorem Uw:OpR X (binaryOp .FloorDiv) (rI Nj λi j=>.int (i / j)):=opI λi j _ _ _ _ _ hc q=>by
 have h1:(0:Int)<j:=hc.1
 have h2:j<1073741824:=hc.2
 exact floordiv_int (by omega) (by rw [Int.fdiv_eq_ediv_of_nonneg i (by omega)];exact q) (.inl (PyProof.noPylong_small (by omega)))
theorem Xq:OpR X (binaryOp .Mod) (rI (λ_ j=>0<j) λi j=>.int (i % j)):=opI λi j _ _ _ _ _ hc q=>by
 have h1:(0:Int)<j:=hc
 exact mod_int' (by omega) (by rw [Int.fmod_eq_emod_of_nonneg i (by omega)];exact q)
theorem XN:OpR X (binaryOp .Pow) (rI Rk λi j=>.int (i ^ j.toNat)):=opI λ_ _ _ _ _ _ _ hc q=>pow_int_small hc.1 hc.2.1 hc.2.2 q
theorem unI {f:Value->Sem Value}{g:Int->Int}
  (rule:∀ (i:Int) (t:Tok) (s:Shared) (Q:Value->Shared->Prop) (E:Value->Shared->Prop),Q (.int (g i) s.toks) { s with toks:=s.toks+1 }->wpAny (model X.prog X.w) X.A (f (.int i t)) Q E s) :
  UnR X f (rU λi=>.int (g i)):=by
 intro pins s σ H x v Q I rx h
 obtain ⟨i,rfl,q⟩:=h
 obtain ⟨t,rfl⟩:=rx
 exact rule i t s _ _ ⟨.int (g i),H,I.tok _,⟨_,rfl⟩,q⟩
theorem Wy:UnR X (unaryOp .USub) (rU λi=>.int (-i)):=unI λ_ _ _ _ _ q=>neg_int q
theorem JS {pins:List (Addr×Obj)}{σ:St}{H:Hp}{s:Shared}{Q:VK}{k k':Bool}(I:Inv X pins σ H s)(q:Q (.bl k) H)(e:k=k'):EP X pins σ Q (.bool k') s:=by
 subst e
 exact ⟨.bl k,H,I,rfl,q⟩
theorem Aas:OpR X (compareOp .LtE) (rI0 λi j=>.bl (decide (i≤j))):=Ye λ_ _ _ _ _ _ _ q=>le_int q
theorem YM:OpR X (compareOp .Gt) (rI0 λi j=>.bl (decide (j<i))):=Ye λ_ _ _ _ _ _ _ q=>gt_int q
theorem YH:OpR X (compareOp .GtE) (rI0 λi j=>.bl (decide (j≤i))):=Ye λ_ _ _ _ _ _ _ q=>ge_int q
theorem QY:OpR X (compareOp .In) (λx y H Q=>∃ i j,x=.str i∧y=.str j∧Q (.bl (!(Builtin.Str.occurrences j i 0 j.length 1).isEmpty)) H):=by
 intro pins s σ H x y v u Q I rx ry h
 obtain ⟨i,j,rfl,rfl,q⟩:=h
 obtain ⟨t,rfl⟩:=rx
 obtain ⟨t',rfl⟩:=ry
 exact in_str (JS I q rfl)
theorem YA:OpR X (compareOp .Is) (λx y H Q=>y=.non∧Q (.bl (decide (x=.non))) H):=by
 intro pins s σ H x y v u Q I rx ry h
 obtain ⟨rfl,q⟩:=h
 cases ry
 refine is_none_gen (JS I q ?_)
 cases x<;>first
  | (cases rx;rfl)
  | (obtain ⟨t,rfl⟩:=rx;rfl)
theorem Vv:OpR X (compareOp .IsNot) (λx y H Q=>y=.non∧Q (.bl (!decide (x=.non))) H):=by
 intro pins s σ H x y v u Q I rx ry h
 obtain ⟨rfl,q⟩:=h
 cases ry
 refine isnot_none_gen (JS I q ?_)
 cases x<;>first
  | (cases rx;rfl)
  | (obtain ⟨t,rfl⟩:=rx;rfl)
theorem MQ:OpR X (compareOp .NotIn) (λx y H Q=>∃ i j,x=.str i∧y=.str j∧Q (.bl (!(!(Builtin.Str.occurrences j i 0 j.length 1).isEmpty))) H):=by
 intro pins s σ H x y v u Q I rx ry h
 obtain ⟨i,j,rfl,rfl,q⟩:=h
 obtain ⟨t,rfl⟩:=rx
 obtain ⟨t',rfl⟩:=ry
 exact notIn_str (JS I q rfl)
theorem RK (b:Expr){op:CmpOp}(h:op≠.In:=by decide)(h2:op≠.NotIn:=by decide):behindInMarks op b=false:=by
 have e1:(op==CmpOp.In)=false:=by cases op<;>first|rfl|exact absurd rfl h
 have e2:(op==CmpOp.NotIn)=false:=by cases op<;>first|rfl|exact absurd rfl h2
 cases b<;>simp [behindInMarks,e1,e2]
theorem Vw {op:CmpOp}{r:R2}(ho:OpR X (compareOp op) r)(ha:PE X a ta)(hb:PE X b tb)(hm:behindInMarks op b=false):PE X (.Compare a [op] [b] pos) (tOp r ta tb):=by
 intro pins s σ H Q I h
 exact wpAny_Compare1 (WC ha hb I h λv u s2 x y H2 I2 rx ry q=>ho pins s2 σ H2 x y v u Q I2 rx ry q) hm
noncomputable def Sz (t:TE):TT:=fun σ H Q=>t σ H λx H'=>∃ k,x=.bl k∧Q k H'
theorem UI {op:CmpOp}{r:R2}(ho:OpR X (compareOp op) r)(ha:PE X a ta)(hb:PE X b tb)(hm:behindInMarks op b=false):PT X (.Compare a [op] [b] pos) (Sz (tOp r ta tb)):=by
 intro pins s σ H Q I h
 refine wpAny_isTrue_Compare1 (thn (ha pins s σ H _ I h) λv s1 ⟨x,H1,I1,r1,q1⟩=>thn (hb pins s1 σ H1 _ I1 q1) λu s2 ⟨y,H2,I2,r2,q2⟩ =>
  thn (ho pins s2 σ H2 x y v u _ I2 r1 r2 q2) λc s3 ⟨z,H3,I3,r3,k,e,q3⟩=>?_) hm
 subst e
 cases r3
 exact Bm ⟨H3,I3,q3⟩
noncomputable def O8 (r r':R2)(ta tb tc:TE):TE:=fun σ H Q=>ta σ H λx H1=>tb σ H1 λy H2=>r x y H2 λz H3=>∃ k,z=.bl k ∧
 (if k=true then tc σ H3 λw' H4=>r' y w' H4 Q else Q (.bl false) H3)
theorem SA {op op':CmpOp}{r r':R2}(ho:OpR X (compareOp op) r)(ho':OpR X (compareOp op') r')(ha:PE X a ta)(hb:PE X b tb)(hc:PE X c tc)
  (hm:lastMarks [op,op'] [b,c]=false:=by with_unfolding_all rfl):PE X (.Compare a [op,op'] [b,c] pos) (O8 r r' ta tb tc):=by
 intro pins s σ H Q I h
 refine Compare_chain (thn (ha pins s σ H _ I h) λv s1 ⟨x,H1,I1,r1,q1⟩=>chain_link (thn (hb pins s1 σ H1 _ I1 q1) λu s2 ⟨y,H2,I2,r2,q2⟩ =>
  thn (ho pins s2 σ H2 x y v u _ I2 r1 r2 q2) λd s3 ⟨z,H3,I3,r3,k,e,q3⟩=>?_)) hm
 subst e
 cases r3
 refine Bm ?_
 cases k with
 | false=>exact ite_ff ⟨.bl false,H3,I3,rfl,q3⟩
 | true=>exact ite_tt (chain_last (thn (hc pins s3 σ H3 _ I3 q3) λw' s4 ⟨z',H4,I4,r4,q4⟩=>ho' pins s4 σ H4 y z' u w' Q I4 r2 r4 q4))
theorem RN {op op':CmpOp}{r r':R2}(ho:OpR X (compareOp op) r)(ho':OpR X (compareOp op') r')(ha:PE X a ta)(hb:PE X b tb)(hc:PE X c tc)
  (hm:lastMarks [op,op'] [b,c]=false:=by with_unfolding_all rfl):PT X (.Compare a [op,op'] [b,c] pos) (Sz (O8 r r' ta tb tc)):=by
 intro pins s σ H Q I h
 refine isTrue_chain (thn (ha pins s σ H _ I h) λv s1 ⟨x,H1,I1,r1,q1⟩=>test_link (thn (hb pins s1 σ H1 _ I1 q1) λu s2 ⟨y,H2,I2,r2,q2⟩ =>
  thn (ho pins s2 σ H2 x y v u _ I2 r1 r2 q2) λd s3 ⟨z,H3,I3,r3,k,e,q3⟩=>?_)) hm
 subst e
 cases r3
 refine Bm ?_
 cases k with
 | false =>
  obtain ⟨k',e',q'⟩:=q3
  cases e'
  exact ite_ff ⟨H3,I3,q'⟩
 | true =>
  refine ite_tt (test_last (thn (hc pins s3 σ H3 _ I3 q3) λw' s4 ⟨z',H4,I4,r4,q4⟩=>thn (ho' pins s4 σ H4 y z' u w' _ I4 r2 r4 q4) λd' s5 ⟨z2,H5,I5,r5,k2,e2,q5⟩=>?_))
  subst e2
  cases r5
  exact Bm ⟨H5,I5,q5⟩
theorem JX:(sizeLine:Nat)<2 ^ 63:=by rw [AL];decide
theorem Pp:OpR X (binaryOp .Add) (λx y H Q=>∃ i j,x=.str i∧y=.str j∧i.length+j.length≤sizeLine∧Q (.str (i++j)) H):=by
 intro pins s σ H x y v u Q I rx ry h
 obtain ⟨i,j,rfl,rfl,hz,q⟩:=h
 obtain ⟨t,rfl⟩:=rx
 obtain ⟨t',rfl⟩:=ry
 exact add_str (λt' tk=>⟨.str (i++j),H,I.tok _,⟨_,rfl⟩,q⟩) hz
theorem vals1 {x:V}{us:List Value}(r:Vals [x] us):∃ u,us=[u]∧RelV x u:=by
 cases r with
 | cons r1 r2=>cases r2;exact ⟨_,rfl,r1⟩
theorem vals2 {x y:V}{us:List Value}(r:Vals [x,y] us):∃ u w',us=[u,w']∧RelV x u∧RelV y w':=by
 cases r with
 | cons r1 r2 =>
  cases r2 with
  | cons r3 r4=>cases r4;exact ⟨_,_,rfl,r1,r3⟩
theorem Rr (hc:X.calm=true):GY X (.builtin "max") (λxs H Q=>∃ i j,xs=[.int i,.int j]∧Q (.int (if j > i then j else i)) H):=by
 intro pins s σ H xs us Q I r h
 obtain ⟨i,j,rfl,q⟩:=h
 obtain ⟨u,w',rfl,⟨t,rfl⟩,⟨t',rfl⟩⟩:=vals2 r
 refine max_two_ints (I.ok.hd hc) λh' tk k=>⟨_,H,I.kept k,?_,q⟩
 by_cases hj:j > i
 ·rw [if_pos hj,if_pos hj];exact ⟨_,rfl⟩
 ·rw [if_neg hj,if_neg hj];exact ⟨_,rfl⟩
theorem QR (hc:X.calm=true):GY X (.builtin "min") (λxs H Q=>∃ i j,xs=[.int i,.int j]∧Q (.int (if j<i then j else i)) H):=by
 intro pins s σ H xs us Q I r h
 obtain ⟨i,j,rfl,q⟩:=h
 obtain ⟨u,w',rfl,⟨t,rfl⟩,⟨t',rfl⟩⟩:=vals2 r
 refine min_two_ints (I.ok.hd hc) λh' tk k=>⟨_,H,I.kept k,?_,q⟩
 by_cases hj:j<i
 ·rw [if_pos hj,if_pos hj];exact ⟨_,rfl⟩
 ·rw [if_neg hj,if_neg hj];exact ⟨_,rfl⟩
theorem Mc:GY X (.type "int") (λxs H Q=>(∃ i,xs=[.int i]∧Q (.int i) H)∨∃ k,xs=[.bl k]∧Q (.int (if k then 1 else 0)) H):=by
 intro pins s σ H xs us Q I r h
 rcases h with ⟨i,rfl,q⟩|⟨k,rfl,q⟩
 ·obtain ⟨u,rfl,t,rfl⟩:=vals1 r
  exact call_int_int ⟨.int i,H,I,⟨_,rfl⟩,q⟩
 ·obtain ⟨u,rfl,r1⟩:=vals1 r
  cases r1
  exact call_int_bool ⟨.int (if k then 1 else 0),H,I.tok _,⟨_,rfl⟩,q⟩
end
structure ObjM (h:Heap) (x dx C:Addr) (mA:Str->Option Value):Prop where
 obj:h.get? x=some (PySem.W.instObj C dx)
 ns:h.Ns1 dx mA
 ne:dx≠x
theorem QP {h:Heap}{dx:Addr}{mA:Str->Option Value}(n:h.Ns1 dx mA):∃ od,h.get? dx=some od∧∀ name,PySem.W.lookIn name od=some (mA name):=by
 obtain ⟨o,es,ep,ho,hd,hk,_,hm⟩:=n
 refine ⟨o,ho,λname=>?_⟩
 have e:=hm name
 unfold nsFind findBy at e
 rw [← Array.find?_toList] at e
 unfold PySem.W.lookIn
 rw [hd]
 dsimp only
 split
 ·rename_i y q
  rw [q] at e
  exact congrArg some e
 ·rename_i q
  rw [q] at e
  have a:es.toList.any (·.refKey)=false:=by
   rw [List.any_eq_false]
   intro y hy
   obtain ⟨z,t,hkey⟩:=hk y (Array.mem_toList_iff.mp hy)
   simp [DictEntry.refKey,hkey]
  have a':¬ es.toList.any (·.refKey)=true:=by rw [a];exact AB
  rw [if_neg a']
  exact congrArg some e
theorem ObjM.look {h:Heap}{x dx C:Addr}{mA:Str->Option Value}(I:ObjM h x dx C mA):∃ od,PySem.W.InstAt h x (PySem.W.instObj C dx) C (some od)∧∀ name,PySem.W.lookIn name od=some (mA name):=
 let ⟨od,ho,hl⟩:=QP I.ns
 ⟨od,⟨I.obj,rfl,rfl,ho⟩,hl⟩
section
variable {P:Program} {w:World} {H H':Hp} {h h':Heap} {a C dx:Addr} {fs fs':List (Str×V)}
theorem Uv (hok:HOk P w H h)(e:H a=some (.ins C dx fs)):∃ mA,ObjM h a dx C mA∧(∀ f,Yd (fs.lookup f) (mA f))∧PySem.Within mA (fs.map (·.1))∧fs.length≤1000∧H dx=some (.own a):=by
 obtain ⟨d,z,ne,ob,mA,n,r,q⟩:=(show ObjOk P w H h a (.ins C dx fs) from hok a _ e)
 exact ⟨mA,⟨ob,n,ne⟩,r,q,z,d⟩
end
structure Cls (K:PySem.W.Frag) (C:Addr):Prop where
 pg:PySem.W.plainGet K C Str.empty=true
 hd:PySem.W.hasDictIn K C=true
 po:PySem.W.plainOver K C=true
 sa:PySem.W.findIn K (.ref C) "__setattr__"=some (some (.builtin "object.__setattr__"))
theorem Cls.get {K:PySem.W.Frag}{C:Addr}(c:Cls K C)(f:Str):PySem.W.plainGet K C f=true:=c.pg
section
variable {X:Cx} {pins:List (Addr×Obj)} {σ:St} {H:Hp} {s:Shared} {A:Around} {E:Value->Shared->Prop} {Q:Value->Shared->Prop} {c:Value} {b:Bool}
inductive JU (K:PySem.W.Frag) (H:Hp):V->Value->Prop where
 | non:JU K H .non (.type "NoneType")
 | bl (x:Bool):JU K H (.bl x) (.type "bool")
 | int (i:Int):JU K H (.int i) (.type "int")
 | str (x:Str):JU K H (.str x) (.type "str")
 | flt (x:UInt64):JU K H (.flt x) (.type "float")
 | lst {a:Addr} {xs:List V} (e:H a=some (.lst xs)):JU K H (.ref a) (.type "list")
 | frz {a:Addr} {o:Obj} {xs:List V} (e:H a=some (.frz o (.lst xs))):JU K H (.ref a) (.type "list")
 | tup {a:Addr} {xs:List V} (e:H a=some (.tup xs)):JU K H (.ref a) (.type "tuple")
 | dK {a:Addr} {kvs:List (Key×V)} (e:H a=some (.dK kvs)):JU K H (.ref a) (.type "dict")
 | dT {a:Addr} {kvs:List (List Key×V)} (e:H a=some (.dT kvs)):JU K H (.ref a) (.type "dict")
 | ins {a C dx:Addr} {fs:List (Str×V)} (e:H a=some (.ins C dx fs)) (cl:Cls K C) (ha:PySem.W.findIn K (.ref C) "__class__"=some (some (.builtin "object.__class__")))
   (hn:PySem.W.specialIn K (.builtin "object.__class__") "__get__"=some (some (.builtin "getset_descriptor.__get__"))) (htk:PySem.W.takesIn K (.builtin "object.__class__")=some true)
   (hm:PySem.W.mroIn K C (.type "object")=some true):JU K H (.ref a) (.ref C)
theorem He {x:V}{u t:Value}(I:Inv X pins σ H s)(rx:RelV x u)(ty:JU X.K H x t)(e:PySem.W.kitOne X.K t c=some b)(h:∀ tk,Q (.bool b) { s with toks:=tk }) :
  wpAny (model X.prog X.w) A (call (.builtin "isinstance") [u,c]) Q E s:=by
 cases ty with
 | non=>cases (show u=Value.none from rx);exact A8 PySem.W.kitx_none I.kIn True.intro e (λz=>nomatch z) h
 | bl y=>cases (show u=Value.bool y from rx);exact A8 PySem.W.kitx_bool I.kIn True.intro e (λz=>nomatch z) h
 | int i=>obtain ⟨t,q⟩:=(show ∃ t,u=Value.int i t from rx);cases q;exact A8 PySem.W.kitx_int I.kIn True.intro e (λz=>nomatch z) h
 | str y=>obtain ⟨t,q⟩:=(show ∃ t,u=Value.str y t from rx);cases q;exact A8 PySem.W.kitx_str I.kIn True.intro e (λz=>nomatch z) h
 | flt y=>obtain ⟨t,q⟩:=(show ∃ t,u=Value.float y t from rx);cases q;exact A8 PySem.W.kitx_float I.kIn True.intro e (λz=>nomatch z) h
 | @lst a xs ea =>
  cases (show u=Value.ref a from rx)
  obtain ⟨_,_,n,_,h1⟩:=(show ObjOk X.prog X.w H s.heap a (.lst xs) from I.hok a _ ea)
  exact A8 PySem.W.kitx_list I.kIn ⟨_,h1,rfl⟩ e (λz=>nomatch z) h
 | @frz a ob xs ea =>
  cases (show u=Value.ref a from rx)
  obtain ⟨_,_,_,n,_,h1⟩:=(show ObjOk X.prog X.w H s.heap a (.frz ob (.lst xs)) from I.hok a _ ea)
  exact A8 PySem.W.kitx_list I.kIn ⟨_,h1,rfl⟩ e (λz=>nomatch z) h
 | @tup a xs ea =>
  cases (show u=Value.ref a from rx)
  obtain ⟨_,_,_,p⟩:=(show ObjOk X.prog X.w H s.heap a (.tup xs) from I.hok a _ ea)
  obtain ⟨o,h1,h2,_⟩:=p
  exact A8 PySem.W.kitx_tuple I.kIn ⟨o,h1,h2⟩ e (λz=>nomatch z) h
 | @dK a kvs ea =>
  cases (show u=Value.ref a from rx)
  obtain ⟨_,_,vs,_,p⟩:=(show ObjOk X.prog X.w H s.heap a (.dK kvs) from I.hok a _ ea)
  obtain ⟨o,es,ep,h1,h2,_⟩:=p
  exact A8 PySem.W.kitx_dict I.kIn ⟨o,h1,h2.1⟩ e (λz=>nomatch z) h
 | @dT a kvs ea =>
  cases (show u=Value.ref a from rx)
  obtain ⟨_,_,xs,_,o,es,ep,h1,h2,_⟩:=(show ObjOk X.prog X.w H s.heap a (.dT kvs) from I.hok a _ ea)
  exact A8 PySem.W.kitx_dict I.kIn ⟨o,h1,h2.1⟩ e (λz=>nomatch z) h
 | @ins a C dx fs ea cl ha hn htk hm =>
  cases (show u=Value.ref a from rx)
  obtain ⟨mA,O,_⟩:=Uv I.hok ea
  obtain ⟨od,J,_⟩:=O.look
  exact A8 (PySem.W.kitx_own (cl.get _) cl.hd ha hn htk hm) I.kIn J e (λz=>nomatch z) h
end
structure Room (k:Nat) (A:Around):Prop where
 hd:A.handled=none
 dp:A.depth+3*k+5<recursionLimit
 un:A.units+16*k+200<cLine
 gd:A.guards=some []
theorem Room.mono {j k:Nat}{A:Around}(r:Room k A)(h:j≤k):Room j A:=⟨r.hd,by have:=r.dp;omega,by have:=r.un;omega,r.gd⟩
theorem Room.deeper {k:Nat}{A:Around}(r:Room (k+1) A)(env:Env):Room k (A.deeper env):=
 ⟨r.hd,by have:=r.dp;show A.depth+1+3*k+5<_;omega,by have:=r.un;show A.units+3+16*k+200<_;omega,r.gd⟩
theorem Room.depth {k:Nat}{A:Around}(r:Room k A):A.depth<recursionLimit:=by have:=r.dp;omega
theorem Room.units {k:Nat}{A:Around}(r:Room k A):A.units+64<cLine:=by have:=r.un;omega
noncomputable def AaL:TA:=λ_ H Q=>Q [] H
noncomputable def ZG (ta:TE)(tr:TA):TA:=fun σ H Q=>ta σ H λx H1=>tr σ H1 λxs H2=>Q (x::xs) H2
section
variable {X:Cx} {e:Expr} {es:List Expr} {te:TE} {t:TA} {pos:Pos}
theorem T4:PA X [] AaL:=λ_ _ _ _ H Q I h=>Calls.spliced_nil ⟨[],H,I,.nil,h⟩
theorem MK (ha:PE X e te)(hr:PA X es t)(hs:starEach (e::es) X.env=(false,eval e X.env)::starEach es X.env:=by rfl):PA X (e::es) (ZG te t):=by
 intro pos pins s σ H Q I h
 rw [hs]
 show wpAny _ _ (spliced ((false,eval e X.env)::backTo pos (starEach es X.env))) _ _ s
 refine Calls.spliced_cons (thn (ha pins s σ H _ I h) λu s1 ⟨x,H1,I1,r1,q1⟩=>?_)
 exact thn (hr pos pins s1 σ H1 _ I1 q1) λus s2 ⟨xs,H2,I2,r2,q2⟩=>⟨x::xs,H2,I2,.cons r1 r2,q2⟩
noncomputable def AaV (t:TA):TE:=fun σ H Q=>t σ H λxs H1=>xs.length≤sizeLine∧∀ p,H1 p=none->Q (.ref p) (upd H1 p (.tup xs))
noncomputable def Aa8 (t:TA):TE:=fun σ H Q=>t σ H λxs H1=>xs.length≤sizeLine∧∀ p,H1 p=none->Q (.ref p) (upd H1 p (.lst xs))
theorem XI {x1}(h:PA X es t):PE X (.Tuple es x1 pos) (AaV t):=by
 intro pins s σ H Q I hq
 refine wpAny_Tuple_spliced (thn (h pos pins s σ H _ I hq) λus s1 ⟨xs,H1,I1,r,z,q⟩=>⟨by rw [← r.length];exact z,?_⟩)
 have hf:H1 s1.heap.objs.size=none:=I1.hok.fresh (Ah _)
 refine ⟨.ref s1.heap.objs.size,upd H1 s1.heap.objs.size (.tup xs),I1.laid (t':=s1.toks) (λb u e=>Ad _ e) (Ah _) ?_,rfl,q _ hf⟩
 exact ⟨⟨z,⟨_,Am _ rfl,rfl⟩⟩,us,r,⟨_,Am _ rfl,rfl,_,rfl⟩⟩
theorem R6 (h:PA X es t):PE X (.List es pos) (Aa8 t):=by
 intro pins s σ H Q I hq
 refine wpAny_List_spliced (thn (h pos pins s σ H _ I hq) λus s1 ⟨xs,H1,I1,r,z,q⟩=>⟨by rw [← r.length];exact z,?_⟩)
 have hf:H1 s1.heap.objs.size=none:=I1.hok.fresh (Ah _)
 refine ⟨.ref s1.heap.objs.size,upd H1 s1.heap.objs.size (.lst xs),I1.laid (t':=s1.toks) (λb u e=>Ad _ e) (Ah _) ?_,rfl,q _ hf⟩
 exact ⟨z,us,0,r,Am _ rfl⟩
end
noncomputable abbrev Sp:=List V->Hp->VK->XK->Prop
noncomputable abbrev CXT:=List Env->Hp->Shared->XK->Value->Shared->Prop
structure UZ (P:Program) (w:World) (K:PySem.W.Frag) (mg:Str->Option Value) (base:Heap) (A:Around) (outer:List Env) (s:Shared) (H:Hp):Prop where
 frames:A.frames=some outer
 mod:Mod K mg base
 bs:∀ b o,base.get? b=some o->s.heap.get? b=some o∧H b=none
 bsz:base.objs.size≤s.heap.objs.size
 funs:s.heap.FunFrames base outer
 frf:∀ b∈frs outer,H b=none
 hok:HOk P w H s.heap
 bare:AllBare s.gens
noncomputable def CE (outer:List Env)(P:Program)(w:World)(H:Hp)(s:Shared)(Q:VK)(u:Value)(s':Shared):Prop:=
 ∃ v H',s'.os=s.os∧AllBare s'.gens∧Un (frs outer) [] H H' s.heap s'.heap∧HOk P w H' s'.heap∧RelV v u∧Q v H'
noncomputable def CR (CX:CXT)(outer:List Env)(P:Program)(w:World)(H:Hp)(s:Shared)(Q:VK)(E:XK)(r:Result)(s':Shared):Prop:=
 match r with
 | .ok (.ret u)=>CE outer P w H s Q u s'
 | .ok _=>False
 | .error e=>CX outer H s E e s'
structure DH (P:Program) (w:World) (K:PySem.W.Frag) (mg:Str->Option Value) (base:Heap) (CX:CXT) (k:Nat) (f:Addr) (fd:FuncData) (ps:List Str) (sp:Sp):Prop where
 len:∀ vs H Q E,sp vs H Q E->vs.length=ps.length
 run:∀ (A:Around) (outer:List Env) (s:Shared) (H:Hp) (args:Args) (us:List Value) (vs:List V) (Q:VK) (E:XK),Room k A->UZ P w K mg base A outer s H->BindsTo s fd args (ps.zip us)->Vals vs us->sp vs H Q E ->
  codeAny (model P w) A (.call (.ref f) args) (CR CX outer P w H s Q E) s
section
variable {X:Cx} {pins:List (Addr×Obj)} {σ:St} {H:Hp} {s s':Shared}
theorem Inv.env0 (I:Inv X pins σ H s):UZ X.prog X.w X.K X.mg X.base X.A X.stack s H:=
 ⟨I.ok.frames,I.ok.mod,I.bs,AK I.ok.bsz I.sz,I.stack,I.stkFree,I.hok,I.bare⟩
theorem Inv.after {Q:VK}{u:Value}(I:Inv X pins σ H s)(h:CE X.stack X.prog X.w H s Q u s'):EP X pins σ Q u s':=by
 obtain ⟨v,H',os,bare,un,hok,r,q⟩:=h
 obtain ⟨hh,g,d,t,os'⟩:=s'
 obtain rfl:os'=s.os:=os
 exact ⟨v,H',I.call (h':=hh) (g':=g) (d':=d) (t':=t) (ch:=[]) un hok bare (λb z=>absurd z (by simp)),r,q⟩
end
noncomputable def Zv (sp:Sp)(dvs:List V)(E:XK)(t:TA):TE:=fun σ H Q=>t σ H λvs H1=>sp (vs++dvs) H1 Q E
noncomputable def Binds (K:PySem.W.Frag)(fd:FuncData)(ps:List Str)(ds:List Value):Prop:=
 ∀ (s:Shared) (us:List Value),K.In s.heap->(us++ds).length=ps.length->BindsTo s fd ⟨us,[]⟩ (ps.zip (us++ds))
theorem Binds.all {K:PySem.W.Frag}{fd:FuncData}{ps:List Str}(h:∀ us:List Value,us.length=ps.length->bindArgs fd ⟨us,[]⟩=pure (ps.zip us)):Binds K fd ps []:=λs us _ hl=>by
 rw [List.append_nil] at hl ⊢
 exact .of_eq (h us hl)
noncomputable def Passes (CX:CXT)(X:Cx)(E:XK):Prop:=∀ (pins:List (Addr×Obj)) (σ:St) (H:Hp) (s:Shared) (e:Value) (s':Shared),Inv X pins σ H s->CX X.stack H s E e s'->X.xe e s'
section
variable {X:Cx} {CX:CXT} {k:Nat} {f C:Addr} {fd:FuncData} {ps:List Str} {sp:Sp} {dvs:List V} {ds:List Value} {E:XK} {x m:Str} {p pos apos:Pos} {e o:Expr} {es:List Expr} {ta:TE} {t:TA}
theorem Xl {pins:List (Addr×Obj)}{σ:St}{H:Hp}{s:Shared}{Q:VK}{us:List Value}{vs:List V}(F:DH X.prog X.w X.K X.mg X.base CX k f fd ps sp)(hr:Room k X.A)(hb:Binds X.K fd ps ds)(hd:Vals dvs ds)(hx:Passes CX X E)
  (I:Inv X pins σ H s) (r:Vals vs us) (h:sp (vs++dvs) H Q E):wpAny (model X.prog X.w) X.A (call (.ref f) us) (EP X pins σ Q) X.xe s:=by
 have r2:Vals (vs++dvs) (us++ds):=r.append hd
 have hl:(us++ds).length=ps.length:=by rw [← r2.length];exact F.len _ _ _ _ h
 refine wpAny_call (codeAny_mono (F.run X.A X.stack s H ⟨us,[]⟩ (us++ds) (vs++dvs) Q E hr I.env0 (hb s us I.kIn hl) r2 h) λr s' hq=>?_)
 cases r with
 | error e=>exact hx pins σ H s e s' I hq
 | ok fl =>
  cases fl with
  | ret u=>exact I.after hq
  | next=>exact False.elim hq
  | brk=>exact False.elim hq
  | cont=>exact False.elim hq
theorem U5 (F:DH X.prog X.w X.K X.mg X.base CX k f fd ps sp)(hr:Room k X.A)(hg:Gl X x)(hm:X.mg x=some (.ref f))(hk:PySem.W.keepIn X.K (.ref f)=true)(hb:Binds X.K fd ps ds)(hd:Vals dvs ds)(hx:Passes CX X E)
  (ha:PA X (e::es) t) (hdb:(x==("__debug__":Str))=false:=by decide) (he:starEach (e::es) X.env=(false,eval e X.env)::starEach es X.env:=by rfl) (hpl:(backTo pos (starEach es X.env)).any (·.1)=false:=by rfl) :
  PE X (.Call (.Name x p) (e::es) [] pos) (Zv sp dvs E t):=by
 intro pins s σ H Q I h
 refine wpAny_Call_Name_kw (Qg I hg hm ?_ hdb)
 refine PySem.W.callWith_K (h₀:=X.base) I.ok.mod.kin hk (thn (ha pos pins s σ H _ I h) λus s1 ⟨vs,H1,I1,r,q⟩=>⟨I1.kIn,?_⟩) he hpl
 exact Xl F hr hb hd hx I1 r q
end
structure Cu (N P:List Str) (sc:Scope):Prop where
 kind:sc.kind=.function
 co:sc.isCoroutine=false
 gen:sc.isGenerator=false
 nd:N.Nodup
 pre:N.take P.length=P
 par:∀ x∈P,sc.names.lookup x=some .local∨sc.names.lookup x=some .cell
 nofree:∀ y∈sc.names,y.2≠.free
theorem Mh {kindOf:Str->Option NameKind}{x:Str}:∀ {binds:List (Str×Value)} {m:Str->Option Value},(∀ v,(x,v)∉binds)->bindL kindOf binds m x=m x
 | [],_,_=>rfl
 | (n,v)::r,m,h=>by
  unfold bindL
  rw [Mh λw hw=>h w (Bn _ hw)]
  split
  ·have:x≠n:=by rintro rfl;exact h v List.mem_cons_self
   simp [this]
  ·rfl
theorem My {kindOf:Str->Option NameKind}{x:Str}:∀ {binds:List (Str×Value)} {m:Str->Option Value},(∀ v,(x,v)∉binds)->bindC kindOf binds m x=m x
 | [],_,_=>rfl
 | (n,v)::r,m,h=>by
  unfold bindC
  rw [My λw hw=>h w (Bn _ hw)]
  split
  ·rfl
  ·have:x≠n:=by rintro rfl;exact h v List.mem_cons_self
   simp [this]
theorem Mg {kindOf:Str->Option NameKind}{x:Str}{v:Value}:∀ {P:List Str} {vs:List Value} {i:Nat} {m:Str->Option Value},P.Nodup->P[i]? = some x->vs[i]? = some v->kindOf x=some .local ->
  bindL kindOf (P.zip vs) m x=some v
 | [],_,_,_,_,h,_,_=>by simp at h
 | _::_,[],_,_,_,_,h,_=>by simp at h
 | p::P,w::vs,0,m,nd,h1,h2,hk=>by
  simp at h1 h2;subst h1;subst h2
  show bindL kindOf ((p,w)::P.zip vs) m p=_
  unfold bindL
  rw [Mh λv hv=>(Bo.mp nd).1 (List.of_mem_zip hv).1,if_pos hk]
  simp
 | p::P,w::vs,i+1,m,nd,h1,h2,hk=>by
  show bindL kindOf ((p,w)::P.zip vs) m x=_
  unfold bindL
  exact Mg (i:=i) (Bo.mp nd).2 (by simpa using h1) (by simpa using h2) hk
theorem MA {kindOf:Str->Option NameKind}{x:Str}{v:Value}:∀ {P:List Str} {vs:List Value} {i:Nat} {m:Str->Option Value},P.Nodup->P[i]? = some x->vs[i]? = some v->kindOf x≠some .local ->
  bindC kindOf (P.zip vs) m x=some v
 | [],_,_,_,_,h,_,_=>by simp at h
 | _::_,[],_,_,_,_,h,_=>by simp at h
 | p::P,w::vs,0,m,nd,h1,h2,hk=>by
  simp at h1 h2;subst h1;subst h2
  show bindC kindOf ((p,w)::P.zip vs) m p=_
  unfold bindC
  rw [My λv hv=>(Bo.mp nd).1 (List.of_mem_zip hv).1,if_neg hk]
  simp
 | p::P,w::vs,i+1,m,nd,h1,h2,hk=>by
  show bindC kindOf ((p,w)::P.zip vs) m x=_
  unfold bindC
  exact MA (i:=i) (Bo.mp nd).2 (by simpa using h1) (by simpa using h2) hk
noncomputable def start (N:List Str)(vs:List V):St:=vs.map some++List.replicate (N.length-vs.length) none
noncomputable def L0 (CX:CXT)(P:Program)(w:World)(K:PySem.W.Frag)(mg:Str->Option Value)(base:Heap)(N:List Str)(qual:Str)(scope:Scope)(f:Addr)(cd:Value)(A:Around)(outer:List Env)(s:Shared)(H:Hp)(E:XK):Cx where
 prog:=P
 w:=w
 K:=K
 mg:=mg
 base:=base
 A:=A.deeper (envOfC qual scope s.heap.objs.size f cd)
 N:=N
 s₀:=s
 H₀:=H
 env:=envOfC qual scope s.heap.objs.size f cd
 outer:=outer
 stack:=envOfC qual scope s.heap.objs.size f cd::outer
 ex:=[]
 calm:=true
 fn:=λ_=>true
 pn:=[]
 xe:=λe s'=>wpAny (model P w) (A.deeper (envOfC qual scope s.heap.objs.size f cd)) (leaving (envOfC qual scope s.heap.objs.size f cd) e) (λ_ s''=>CX outer H s E e s'') (λe' s''=>CX outer H s E e' s'') s'
theorem Oz {sc:Scope}{n:Nat}{x:Str}(h:sc.names.lookup x=some .cell):∃ c,(cellsFrom n sc.names []).lookup x=some c:=by
 have q:=PySem.W.cellsFrom_some sc.names n [] (.inl h)
 exact Option.isSome_iff_exists.mp q
theorem QU {CX:CXT}{P:Program}{w:World}{K:PySem.W.Frag}{mg:Str->Option Value}{base:Heap}{N ps:List Str}{qual:Str}{scope:Scope}{f:Addr}{cd:Value}{A:Around}{outer:List Env}{s s1:Shared}{H:Hp}{E:XK}{us:List Value}{vs:List V}
  (S:Cu N ps scope) (hd:A.handled=none) (e0:UZ P w K mg base A outer s H) (hl:vs.length=ps.length) (r:Vals vs us)
  (x:InCallC s s.heap.objs.size (bindL (envOfC qual scope s.heap.objs.size f cd).kindOf (ps.zip us) λ_=>none) (cellsFrom (s.heap.objs.size+1) scope.names []) (bindC (envOfC qual scope s.heap.objs.size f cd).kindOf (ps.zip us) λ_=>none) s1) :
  Inv (L0 CX P w K mg base N qual scope f cd A outer s H E) [] (start N vs) H s1:=by
 have hpl:ps.length≤N.length:=by have:=congrArg List.length S.pre;rw [Bb] at this;omega
 obtain ⟨h1,tk,rfl,hk⟩:=x.done
 have noA:∀ b:Addr,b∉(L0 CX P w K mg base N qual scope f cd A outer s H E).ex:=λb z=>absurd (show b∈([]:List Addr) from z) (by simp)
 refine ⟨⟨e0.mod,S.kind,rfl,rfl,Ah _,λy z c h1 h2=>?_,λy hy=>?_,λy c _ h=>?_,λ_=>hd,Around.frames_deeper e0.frames,.inr ⟨rfl,rfl⟩,λb z=>absurd z (noA b),e0.bs,e0.bsz,λb _ _=>noA b,λb z=>absurd z (noA b),e0.funs,e0.frf⟩,
  rfl,e0.bare,Un.kept hk,⟨_,x.toInCall.ns,λi y v h1 h2 h3=>?_⟩,λy c h=>⟨_,x.cell y c h⟩,e0.hok.fresh (Ah _),λy c h=>?_,λp hp=>absurd (show p∈([]:List (Addr×Obj)) from hp) (by simp),e0.hok.kept hk,?_⟩
 ·exact name_of_addr x.apart (BS h1) (BS h2)
 ·have hy:scope.names.lookup y=some .cell∨scope.names.lookup y=some .free:=hy
  rcases hy with hy|hy
  ·exact Oz hy
  ·exact absurd rfl (S.nofree _ (BS hy))
 ·exact Nat.le_of_lt (x.above y c (BS h))
 ·have hi:i<vs.length:=by
   unfold start at h2
   by_cases hi:i<vs.length
   ·exact hi
   ·rw [AS (by simpa using hi)] at h2
    rw [Bw] at h2
    split at h2<;>cases h2
  have ha:vs[i]? = some v:=by
   unfold start at h2
   rw [Av (by simpa using hi),Au] at h2
   cases e:vs[i]? with
   | none=>rw [e] at h2;cases h2
   | some a=>rw [e] at h2;cases h2;rfl
  obtain ⟨u,hu,rv⟩:=r.get ha
  have hp:ps[i]? = some y:=by
   rw [← S.pre,Bl (by omega)];exact h1
  have ndP:ps.Nodup:=by rw [← S.pre];exact S.nd.sublist (List.take_sublist _ _)
  refine ⟨u,rv,?_⟩
  rcases S.par y (Ap hp) with k|k
  ·exact .inl ⟨k,Mg ndP hp hu k⟩
  ·obtain ⟨c,e⟩:=Oz (n:=s.heap.objs.size+1) k
   refine .inr ⟨.inl k,c,e,?_⟩
   have q:=x.cell y c e
   rw [MA ndP hp hu (by show scope.names.lookup y≠_;rw [k];decide)] at q
   exact q
 ·exact e0.hok.fresh (Nat.le_of_lt (x.above y c (BS h)))
 ·unfold start
  show _=N.length
  rw [Aq,Ag,List.length_replicate]
  omega
theorem Aad {CX:CXT}{P:Program}{w:World}{K:PySem.W.Frag}{mg:Str->Option Value}{base:Heap}{k:Nat}{f:Addr}{name qual:Str}{params:Arguments}{body:List Stmt}{scope:Scope}{dV kV doc pm cdv ct oc:Value}{an od:Option Addr}
  {osl:Array (Option Value)} {N ps:List Str} {sp:Sp} (lk:K.lookup f=some ⟨oc,od,.func (PySem.W.fnOf name qual params body scope dV kV doc pm an cdv ct),osl⟩) (hcd:PySem.W.codeIn K cdv qual=true) (S:Cu N ps scope)
  (len:∀ vs H Q E,sp vs H Q E->vs.length=ps.length)
  (hbody:∀ (A:Around) (outer:List Env) (s:Shared) (H:Hp) (vs:List V) (Q:VK) (E:XK),Room k (A.deeper (envOfC qual scope s.heap.objs.size f cdv))->sp vs H Q E ->
   ∃ t,PSs (L0 CX P w K mg base N qual scope f cdv A outer s H E) body t∧t { nx:=λ_ H'=>Q .non H',rt:=Q } (start N vs) H) :
  DH P w K mg base CX (k+1) f (PySem.W.fnOf name qual params body scope dV kV doc pm an cdv ct) ps sp:=by
 refine ⟨len,λA outer s H args us vs Q E hr e0 hb r hsp=>?_⟩
 have hl:=len _ _ _ _ hsp
 have KX:K.In s.heap:=e0.mod.kin.keeps λb o e=>(e0.bs b o e).1
 have lim:s.heap.NoLimit:=e0.mod.nolimit.keeps λb o e=>(e0.bs b o e).1
 have hkind:∀ y∈ps.zip us,scope.names.lookup y.1=some .local∨(scope.names.lookup y.1=some .cell∧((cellsFrom (s.heap.objs.size+1) scope.names []).lookup y.1).isSome=true):=λ⟨n,v⟩ hy=>by
  rcases S.par n (List.of_mem_zip hy).1 with q|q
  ·exact .inl q
  ·exact .inr ⟨q,PySem.W.cellsFrom_some _ _ _ (.inl q)⟩
 refine codeAny_call_function hr.depth (KX _ _ lk) rfl S.co S.gen rfl (PySem.W.codeRec_of KX hcd) (hb _ _ _ _ ?_)
 refine wpAny_newFunctionEnv_cells S.kind hkind λenv he s1 x=>?_
 subst he
 refine ⟨lim.keeps x.toInCall.keep,codeAny_func ?_⟩
 obtain ⟨t,ht,hq⟩:=hbody A outer s H vs Q E (hr.deeper _) hsp
 have I:Inv (L0 CX P w K mg base N qual scope f cdv A outer s H E) [] (start N vs) H s1:=QU S hr.hd e0 hl r x
 refine BQ (ht [] s1 (start N vs) H _ I hq) (λfl s' hs=>?_) λe s' hs=>hs
 have fin:∀ {σ':St} {H':Hp} {v:V} {u:Value},Inv (L0 CX P w K mg base N qual scope f cdv A outer s H E) [] σ' H' s'->RelV v u->Q v H'->CE outer P w H s Q u s':=
  λ{σ' H' v u} J rv q=>⟨v,H',J.os,J.bare,J.base,J.hok,rv,q⟩
 cases fl with
 | ret u =>
  obtain ⟨v,σ',H',J,rv,q⟩:=hs
  exact fin J rv q
 | next =>
  obtain ⟨σ',H',J,q⟩:=hs
  exact fin (v:=V.non) (u:=Value.none) J rfl q
 | brk =>
  obtain ⟨_,_,_,q⟩:=hs
  exact False.elim q
 | cont =>
  obtain ⟨_,_,_,q⟩:=hs
  exact False.elim q
section
variable {X:Cx} {x:Str} {p pos:Pos} {e:Expr} {es:List Expr} {t:TA} {id T:String} {r:List V->Hp->VK->Prop}
noncomputable def tCB (r:List V->Hp->VK->Prop)(t:TA):TE:=fun σ H Q=>t σ H λvs H1=>r vs H1 Q
theorem Oo (hc:GY X (.builtin id) r)(hg:Gl X x)(hm:X.mg x=none)(hv:bootBuiltins x=some (.builtin id))(ha:PA X (e::es) t)(hn:x≠"__name__":=by decide)(hdb:(x==("__debug__":Str))=false:=by decide)
  (he:starEach (e::es) X.env=(false,eval e X.env)::starEach es X.env:=by rfl) (hpl:(backTo pos (starEach es X.env)).any (·.1)=false:=by rfl):PE X (.Call (.Name x p) (e::es) [] pos) (tCB r t):=by
 intro pins s σ H Q I h
 refine wpAny_Call_Name_kw (M1 I hg hm hv ?_ hn hdb)
 exact PyProof.Rows.callWith_builtin1 (thn (ha pos pins s σ H _ I h) λus s1 ⟨vs,H1,I1,r1,q1⟩=>hc pins s1 σ H1 vs us Q I1 r1 q1) he hpl
theorem Ry (hc:GY X (.type T) r)(hg:Gl X x)(hm:X.mg x=none)(hv:bootBuiltins x=some (.type T))(ha:PA X (e::es) t)(hn:x≠"__name__":=by decide)(hdb:(x==("__debug__":Str))=false:=by decide)
  (he:starEach (e::es) X.env=(false,eval e X.env)::starEach es X.env:=by rfl) (hpl:(backTo pos (starEach es X.env)).any (·.1)=false:=by rfl):PE X (.Call (.Name x p) (e::es) [] pos) (tCB r t):=by
 intro pins s σ H Q I h
 refine wpAny_Call_Name_kw (M1 I hg hm hv ?_ hn hdb)
 exact PyProof.Rows.callWith_type1 (thn (ha pos pins s σ H _ I h) λus s1 ⟨vs,H1,I1,r1,q1⟩=>hc pins s1 σ H1 vs us Q I1 r1 q1) he hpl
end
end L2
namespace HT
open PySem PyProof.Rows
section
open PySem.SeqAt
open PySem.AutoSeq1 (wpAny_loadPart')
open PySem.MeetsSeq PySem.MeetsSeq2 PySem.MeetsSeq3
end
section
variable {prog:Program} {w:World} {A:Around} {E:Value->Shared->Prop} {s:Shared}
theorem U7 {t b:Addr}{vs ws:List Value}{Q:Value->Shared->Prop}(ht:IsTup s.heap t vs.toArray)(hb:IsTup s.heap b ws.toArray)(hv:vs≠[])
  (h1:ws=[]->Q (.ref t) s) (h2:ws≠[]->Q (.ref s.heap.objs.size) { s with heap:=s.heap.push { cls:=.type "tuple",data:=.seq (vs++ws).toArray } })
  (hsz:vs.length+ws.length≤sizeLine):wpAny (model prog w) A (binaryOp .Add (.ref t) (.ref b)) Q E s:=by
 obtain ⟨⟨cls,dd,data,sl⟩,ho,hc,n,hd⟩:=id ht
 obtain ⟨⟨cls2,dd2,data2,sl2⟩,ho2,hc2,n2,hd2⟩:=id hb
 simp only at hc hd hc2 hd2
 subst hc hd hc2 hd2
 have e:vs.toArray++ws.toArray=(vs++ws).toArray:=by simp
 by_cases hw:ws=[]
 ·exact concat_meets ⟨_,ho,rfl⟩ ⟨_,ho2,rfl⟩ noFill_tuple_add seq_tuple_add PySem.F.slot_tuple_add PySem.F.entry_tuple_add (PySem.F.args_tuple_add_2 _ _)
   (tuple_addW1 t b vs.toArray ws.toArray n n2 dd dd2 sl sl2 (by simpa using hv) (by simp [hw])) ⟨ho,ho2,h1 hw⟩
 ·refine concat_meets ⟨_,ho,rfl⟩ ⟨_,ho2,rfl⟩ noFill_tuple_add seq_tuple_add PySem.F.slot_tuple_add PySem.F.entry_tuple_add (PySem.F.args_tuple_add_2 _ _)
   (tuple_addW2 t b vs.toArray ws.toArray n n2 dd dd2 sl sl2 (by simpa using hv) (by simpa using hw) (by rw [Ai,Ai];exact hsz)) ⟨ho,ho2,?_⟩
  rw [e]
  exact h2 hw
noncomputable def sIx (n d:Nat):Option Int->Nat
 | none=>d
 | some v=>if v<0 then (v+(n:Int)).toNat else min v.toNat n
theorem LA (n d:Nat):sIx n d none=d:=rfl
theorem NB (n d k:Nat):sIx n d (some (k:Int))=min k n:=by
 show (if (k:Int)<0 then ((k:Int)+(n:Int)).toNat else min (k:Int).toNat n)=min k n
 rw [if_neg (by omega),Int.toNat_natCast]
theorem Yn (n d:Nat)(hd:d≤n)(o:Option Int):sIx n d o≤n:=by
 cases o with
 | none=>exact hd
 | some v =>
  show (if v<0 then (v+(n:Int)).toNat else min v.toNat n)≤n
  by_cases hv:v<0
  ·rw [if_pos hv];omega
  ·rw [if_neg hv];exact Nat.min_le_right _ _
theorem Qy (v:Int)(n d:Nat):(if v<0 then max (v+(n:Int)) 0 else min v (n:Int))=((sIx n d (some v):Nat):Int):=by
 show (if v<0 then max (v+(n:Int)) 0 else min v (n:Int))=(((if v<0 then (v+(n:Int)).toNat else min v.toNat n):Nat):Int)
 by_cases hv:v<0
 ·simp only [if_pos hv];omega
 ·simp only [if_neg hv];omega
theorem Pd (lo hi:Option Int)(n:Nat):Builtin.Slice.sliceAdjust lo hi 1 (n:Int)=(((sIx n 0 lo:Nat):Int),((sIx n n hi:Nat):Int)):=by
 have h1:¬ ((1:Int)<0):=by omega
 unfold Builtin.Slice.sliceAdjust
 simp only [h1,A4]
 refine Prod.ext ?_ ?_
 ·cases lo with
  | none=>rfl
  | some v=>exact Qy v n 0
 ·cases hi with
  | none=>rfl
  | some v=>exact Qy v n n
theorem Pt (i j:Nat):Builtin.Slice.slicePlaces (i:Int) (j:Int) 1=j-i:=by
 unfold Builtin.Slice.slicePlaces
 have h1:(1:Int) > 0:=by omega
 simp only [h1,if_true,Int.ediv_one]
 split<;>omega
theorem GC {v:Value}{o:Option Int}{Q:Option Int->Shared->Prop}(p:IsPart v o)(h:Q o s):wpAny (model prog w) A (Builtin.Slice.slicePartIndex v) Q E s:=by
 cases p with
 | none=>exact slicePart_none h
 | int i t=>exact slicePart_int h
theorem G7 {sl:Addr}{vl vu:Value}{lo hi:Option Int}{n:Nat}{Q:Int×Int×Nat->Shared->Prop}(hs:s.heap.IsSliceOf sl vl vu .none)(pl:IsPart vl lo)(pu:IsPart vu hi)
  (h:Q (((sIx n 0 lo:Nat):Int),1,sIx n n hi-sIx n 0 lo) s):wpAny (model prog w) A (Builtin.Slice.sliceApplied (.ref sl) (pure (n:Int))) Q E s:=by
 obtain ⟨os,hos,hcs,hds⟩:=id hs
 unfold Builtin.Slice.sliceApplied Builtin.Slice.sliceFields
 refine Aa (Aa (wpAny_field hos hds (x:=vl) rfl (Aa (wpAny_field hos hds (x:=vu) rfl (Aa (wpAny_field hos hds (x:=.none) rfl (Ac ?_)))))))
 refine Aa (slicePart_none ?_)
 show wpAny _ _ (if ((1:Int)==0)=true then _ else _) _ _ s
 rw [if_neg (by decide)]
 refine Aa (GC pl (Aa (GC pu (Aa (Ac ?_)))))
 show wpAny _ _ (match Builtin.Slice.sliceAdjust lo hi 1 (n:Int) with|(lo,hi)=>pure (lo,(1:Int),Builtin.Slice.slicePlaces lo hi 1)) _ _ s
 rw [Pd lo hi n]
 show wpAny _ _ (pure (((sIx n 0 lo:Nat):Int),(1:Int),Builtin.Slice.slicePlaces ((sIx n 0 lo:Nat):Int) ((sIx n n hi:Nat):Int) 1)) _ _ s
 rw [Pt]
 exact Ac h
theorem S1 (xs:Array Value)(i k:Nat):((List.range k).filterMap λ(m:Nat)=>xs[((i:Int)+(m:Int)*1).toNat]?).toArray=((xs.toList.drop i).take k).toArray:=by
 have e:(λ(m:Nat)=>xs[((i:Int)+(m:Int)*1).toNat]?)=λm=>xs[i+m]?:=by
  funext m
  have:((i:Int)+(m:Int)*1).toNat=i+m:=by omega
  rw [this]
 rw [e]
 have:=pick_run xs i k
 rw [List.filterMap_map] at this
 have e2:((λx=>xs[x]?)∘λx=>i+x)=λm=>xs[i+m]?:=rfl
 rw [e2] at this
 rw [this]
theorem Jx {t sl:Addr}{items:Array Value}{vl vu:Value}{lo hi:Option Int}{Q:Value->Shared->Prop}(ht:IsTup s.heap t items)(hs:s.heap.IsSliceOf sl vl vu .none)(pl:IsPart vl lo)(pu:IsPart vu hi)
  (hw:¬ (sIx items.size 0 lo=0∧sIx items.size items.size hi=items.size))
  (h:Q (.ref s.heap.objs.size) { s with heap:=s.heap.push { cls:=.type "tuple",data:=.seq ((items.toList.drop (sIx items.size 0 lo)).take (sIx items.size items.size hi-sIx items.size 0 lo)).toArray } })
  (hsz:items.size≤sizeLine):wpAny (model prog w) A (getItem (.ref t) (.ref sl)) Q E s:=by
 have htake:sizeOk (.seq ((items.toList.drop (sIx items.size 0 lo)).take (sIx items.size items.size hi-sIx items.size 0 lo)).toArray):=by
  show ((items.toList.drop (sIx items.size 0 lo)).take (sIx items.size items.size hi-sIx items.size 0 lo)).toArray.size≤sizeLine
  rw [Ai,Bb,List.length_drop,Array.length_toList]
  omega
 have hj:sIx items.size items.size hi≤items.size:=Yn _ _ (Ah _) hi
 obtain ⟨os,hos,hcs,hds⟩:=id hs
 have hTs:s.TypeIs (.ref sl) "slice":=⟨os,hos,hcs⟩
 unfold getItem
 try with_reducible refine AG ?_
 first|refine Aa (Ac ?_)|skip
 refine Aa (wpAny_sequenceKey ht.typeIs (by decide) ?_)
 refine Aa (A5 (name:=Str.ofString "__getitem__") ht.typeIs AU
  (AY AU ht.typeIs entry_tuple_getitem ?_ (args_tuple_getitem _ _)))
 show wpAny _ _ (Builtin.Tuple.tupleItemsOf (.ref t) >>= _) _ _ s
 refine Aa (tupleItemsOf_ ht ?_)
 refine Aa (BB hTs ?_)
 rw [if_pos (by decide)]
 refine Aa (G7 hs pl pu ?_)
 have hno:¬ ((((sIx items.size 0 lo:Nat):Int)==0&&(1:Int)==1&&(sIx items.size items.size hi-sIx items.size 0 lo)==items.size)=true):=by
  intro q
  rw [Ab,Ab] at q
  have q1:((sIx items.size 0 lo:Nat):Int)=0:=eq_of_beq q.1.1
  have q2:sIx items.size items.size hi-sIx items.size 0 lo=items.size:=eq_of_beq q.2
  exact hw ⟨by omega,by omega⟩
 show wpAny _ _ (if (((sIx items.size 0 lo:Nat):Int)==0&&(1:Int)==1&&(sIx items.size items.size hi-sIx items.size 0 lo)==items.size)=true then _ else _) _ _ s
 rw [if_neg hno,S1]
 first
  | exact Aa (m:=Builtin.Tuple.tupleExact _) (AO (Ac ⟨_,rfl,Ac h⟩) htake)
  | exact Aa (m:=Builtin.Tuple.tupleExact _) (AO (Aa (Ac (Ac ⟨_,rfl,Ac h⟩))) htake)
  | exact Aa (Aa (m:=Builtin.Tuple.tupleExact _) (AO (Ac (Ac ⟨_,rfl,Ac h⟩)) htake))
  | exact Aa (Aa (m:=Builtin.Tuple.tupleExact _) (AO (Ac ⟨_,rfl,Ac h⟩) htake))
end
end HT
namespace L2
open PySem PySem.Spec PyProof.Rows
noncomputable abbrev TO:=St->Hp->(Option Int->Hp->Prop)->Prop
noncomputable def PO (X:Cx)(e:Option Expr)(t:TO):Prop:=
 ∀ (pins:List (Addr×Obj)) (s:Shared) (σ:St) (H:Hp) (Q:Option Int->Hp->Prop),Inv X pins σ H s->t σ H Q ->
  wpAny (model X.prog X.w) X.A (evalPart e X.env) (λu s'=>∃ o H',Inv X pins σ H' s'∧IsPart u o∧Q o H') X.xe s
noncomputable def VR:TO:=λ_ H Q=>Q none H
noncomputable def Y8 (t:TE):TO:=fun σ H Q=>t σ H λx H1=>∃ i,x=.int i∧Q (some i) H1
section
variable {X:Cx} {e:Expr} {te:TE} {lo hi:Option Expr} {tl th:TO} {pos p2:Pos}
theorem Vi:PO X none VR:=by
 intro pins s σ H Q I h
 rw [evalPart_none]
 exact Ac ⟨none,H,I,.none,h⟩
theorem VX (h:PE X e te):PO X (some e) (Y8 te):=by
 intro pins s σ H Q I hw
 rw [evalPart_some]
 refine thn (h pins s σ H _ I hw) λu s1 ⟨x,H1,I1,r1,q1⟩=>?_
 obtain ⟨i,rfl,q⟩:=q1
 obtain ⟨t,rfl⟩:=r1
 exact ⟨some i,H1,I1,.int i t,q⟩
noncomputable def SlR (X:Cx)(r:V->Option Int->Option Int->Hp->VK->Prop):Prop:=
 ∀ (pins:List (Addr×Obj)) (s:Shared) (σ:St) (H:Hp) (x:V) (v vl vu:Value) (lo hi:Option Int) (sl:Addr) (Q:VK),Inv X pins σ H s->RelV x v->s.heap.IsSliceOf sl vl vu .none->IsPart vl lo->IsPart vu hi->r x lo hi H Q ->
  ∃ T id,typeLookup (.type T) "__getitem__"=pure (some (.builtin id))∧s.TypeIs v T∧wpAny (model X.prog X.w) X.A (getItem v (.ref sl)) (EP X pins σ Q) X.xe s
noncomputable def tSl (r:V->Option Int->Option Int->Hp->VK->Prop)(te:TE)(tl th:TO):TE:=fun σ H Q=>te σ H λx H1=>tl σ H1 λl H2=>th σ H2 λu H3=>r x l u H3 Q
theorem Tg {r:V->Option Int->Option Int->Hp->VK->Prop}(hr:SlR X r)(he:PE X e te)(hl:PO X lo tl)(hu:PO X hi th):PE X (.Subscript e (.Slice lo hi none p2) pos) (tSl r te tl th):=by
 intro pins s σ H Q I h
 refine Subscript_ (thn (he pins s σ H _ I h) λv s1 ⟨x,H1,I1,r1,q1⟩=>?_)
 refine wpAny_Slice (thn (hl pins s1 σ H1 _ I1 q1) λvl s2 ⟨l,H2,I2,pl,q2⟩=>thn (hu pins s2 σ H2 _ I2 q2) λvu s3 ⟨u,H3,I3,pu,q3⟩=>?_)
 rw [evalPart_none]
 refine Ac ?_
 have I4:Inv X pins σ H3 { s3 with heap:=s3.heap.push { cls:=.type "slice",data:=.fields #[vl,vu,.none] } }:=I3.kept (t':=s3.toks) λb ob q=>Ad _ q
 obtain ⟨T,id,hT,ht,hg⟩:=hr pins { s3 with heap:=s3.heap.push { cls:=.type "slice",data:=.fields #[vl,vu,.none] } } σ H3 x v vl vu l u s3.heap.objs.size Q I4 r1 (Heap.IsSliceOf.new ..) pl pu q3
 show wpAny (model X.prog X.w) X.A (subscriptTail e (.Slice lo hi none p2) v (.ref s3.heap.objs.size)) (EP X pins σ Q) X.xe { s3 with heap:=s3.heap.push { cls:=.type "slice",data:=.fields #[vl,vu,.none] } }
 exact tail_any (ops:=[.ref s3.heap.objs.size,v]) ht hT hg (by with_unfolding_all rfl)
noncomputable def Ot (xs:List V)(lo hi:Option Int):List V:=(xs.drop (HT.sIx xs.length 0 lo)).take (HT.sIx xs.length xs.length hi-HT.sIx xs.length 0 lo)
theorem KD (xs:List V)(lo hi:Option Int):(Ot xs lo hi).length≤xs.length:=by
 unfold Ot
 rw [Bb,List.length_drop]
 omega
noncomputable def Abt (K:PySem.W.Frag):V->Option Int->Option Int->Hp->VK->Prop:=λx lo hi H Q=>∃ a xs,x=.ref a∧SqT K H a xs ∧
 ¬ (HT.sIx xs.length 0 lo=0∧HT.sIx xs.length xs.length hi=xs.length)∧∀ p,H p=none->Q (.ref p) (upd H p (.tup (Ot xs lo hi)))
theorem X2:SlR X (Abt X.K):=by
 intro pins s σ H x v vl vu lo hi sl Q I rx hs pl pu h
 obtain ⟨a,xs,rfl,hx,hw,q⟩:=h
 cases rx
 obtain ⟨its,r,ht,hz⟩:=I.tuple hx
 have hlen:its.toArray.size=xs.length:=by rw [Ai];exact r.length.symm
 refine ⟨"tuple",_,AU.lookup,ht.typeIs,?_⟩
 refine HT.Jx ht hs pl pu (by rw [hlen];exact hw) ?_ (by rw [hlen];exact hz)
 rw [hlen]
 refine ⟨.ref s.heap.objs.size,_,I.laid (t':=s.toks) (o:=.tup (Ot xs lo hi)) (λb ob q=>Ad _ q) (Ah _) ?_,rfl,q _ (I.hok.fresh (Ah _))⟩
 exact ⟨⟨AK (KD xs lo hi) hz,⟨_,Am _ rfl,rfl⟩⟩,_,(r.drop (HT.sIx xs.length 0 lo)).take (HT.sIx xs.length xs.length hi-HT.sIx xs.length 0 lo),IsTup.new _ _⟩
noncomputable def Zz (K:PySem.W.Frag):R2:=λx y H Q=>∃ a b xs ys,x=.ref a∧y=.ref b∧SqT K H a xs∧SqT K H b ys∧xs≠[]∧xs.length+ys.length≤sizeLine ∧
 (ys=[]->Q (.ref a) H)∧(ys≠[]->∀ p,H p=none->Q (.ref p) (upd H p (.tup (xs++ys))))
theorem Vals.nil_iff {xs:List V}{us:List Value}(r:Vals xs us):us=[] ↔ xs=[]:=by
 cases r with
 | nil=>simp
 | cons _ _=>simp
theorem Vr:OpR X (binaryOp .Add) (Zz X.K):=by
 intro pins s σ H x y v u Q I rx ry h
 obtain ⟨a,b,xs,ys,rfl,rfl,ha,hb,hx,hz,q1,q2⟩:=h
 cases rx
 cases ry
 obtain ⟨its,r1,p1,_⟩:=I.tuple ha
 obtain ⟨its2,r2,p2,_⟩:=I.tuple hb
 refine HT.U7 p1 p2 (λz=>hx (r1.nil_iff.mp z)) (λz=>⟨.ref a,H,I,rfl,q1 (r2.nil_iff.mp z)⟩) (λz=>?_) (by rw [← r1.length,← r2.length];exact hz)
 refine ⟨.ref s.heap.objs.size,_,I.laid (t':=s.toks) (o:=.tup (xs++ys)) (λb ob q=>Ad _ q) (Ah _) ?_,rfl,q2 (λw=>z (r2.nil_iff.mpr w)) _ (I.hok.fresh (Ah _))⟩
 exact ⟨⟨by rw [Aq];exact hz,⟨_,Am _ rfl,rfl⟩⟩,_,r1.append r2,IsTup.new _ _⟩
end
noncomputable def ixN (n:Nat)(i:Int):Option Nat:=if 0≤i then (if i<n then some i.toNat else none) else if -(n:Int)≤i then some (i+n).toNat else none
noncomputable def atI {α:Type}(xs:List α)(i:Int):Option α:=(ixN xs.length i).bind λj=>xs[j]?
theorem Qa {n:Nat}{i:Int}{j:Nat}(h:ixN n i=some j):seqIndex? i n=some j∧j<n∧-(n:Int)≤i∧i<n:=by
 unfold ixN at h
 by_cases h0:0≤i
 ·rw [if_pos h0] at h
  by_cases h1:i<n
  ·rw [if_pos h1] at h
   have e:i.toNat=j:=AJ h
   exact ⟨by rw [seqIndex_of h0 h1,e],by omega,by omega,h1⟩
  ·rw [if_neg h1] at h;cases h
 ·rw [if_neg h0] at h
  by_cases h1:-(n:Int)≤i
  ·rw [if_pos h1] at h
   have e:(i+n).toNat=j:=AJ h
   exact ⟨by rw [seqIndex_neg (by omega) h1,e],by omega,h1,by omega⟩
  ·rw [if_neg h1] at h;cases h
theorem K0 {α:Type}{xs:List α}{i:Int}{v:α}(h:atI xs i=some v):∃ j,seqIndex? i xs.length=some j∧xs[j]? = some v∧j<xs.length∧-(xs.length:Int)≤i∧i<xs.length:=by
 unfold atI at h
 cases e:ixN xs.length i with
 | none=>rw [e] at h;cases h
 | some j =>
  rw [e] at h
  obtain ⟨h1,h2,h3,h4⟩:=Qa e
  exact ⟨j,h1,h,h2,h3,h4⟩
noncomputable def Qp (b:Expr):Prop:=∀ o i,subscripted b false o i=operate [o,i] (getItem o i)
noncomputable def IxR (X:Cx)(r:R2):Prop:=
 ∀ (value slice:Expr) (pins:List (Addr×Obj)) (s:Shared) (σ:St) (H:Hp) (x y:V) (v u:Value) (Q:VK),Inv X pins σ H s->RelV x v->RelV y u->r x y H Q ->
  subscripted slice false v u=operate [v,u] (getItem v u)->wpAny (model X.prog X.w) X.A (subscriptTail value slice v u) (EP X pins σ Q) X.xe s
noncomputable def MtR (X:Cx)(id:String)(r:V->List V->Hp->VK->Prop):Prop:=
 ∀ (pins:List (Addr×Obj)) (s:Shared) (σ:St) (H:Hp) (x:V) (xs:List V) (v:Value) (us:List Value) (Q:VK),Inv X pins σ H s->RelV x v->Vals xs us->r x xs H Q ->
  wpAny (model X.prog X.w) X.A (call (.builtin id) (v::us)) (EP X pins σ Q) X.xe s
section
variable {X:Cx} {a b:Expr} {ta tb:TE} {pos:Pos}
theorem IxR.or {r r':R2}(h:IxR X r)(h':IxR X r'):IxR X (λx y H Q=>r x y H Q∨r' x y H Q):=by
 intro value slice pins s σ H x y v u Q I rx ry q hs
 rcases q with q|q
 ·exact h value slice pins s σ H x y v u Q I rx ry q hs
 ·exact h' value slice pins s σ H x y v u Q I rx ry q hs
theorem ZZ {r:R2}(hr:IxR X r)(ha:PE X a ta)(hb:PE X b tb)(hs:Qp b):PE X (.Subscript a b pos) (tOp r ta tb):=by
 intro pins s σ H Q I h
 exact Subscript_ (WC ha hb I h λv u s2 x y H2 I2 rx ry q=>hr a b pins s2 σ H2 x y v u Q I2 rx ry q (hs _ _))
noncomputable def X9 (K:PySem.W.Frag):R2:=λx y H Q=>∃ p xs i v,x=.ref p∧y=.int i∧SqL K H p xs∧atI xs i=some v∧Q v H
noncomputable def Aag (K:PySem.W.Frag):R2:=λx y H Q=>∃ p xs i v,x=.ref p∧y=.int i∧SqT K H p xs∧atI xs i=some v∧Q v H
noncomputable def YZ:R2:=λx y H Q=>∃ z i c,x=.str z∧y=.int i∧z.length≤sizeLine∧atI z.cps.toList i=some c∧Q (.str ⟨#[c]⟩) H
theorem VY:IxR X (X9 X.K):=by
 intro value slice pins s σ H x y v u Q I rx ry h hs
 obtain ⟨p,xs,i,z,rfl,rfl,hq,he,q⟩:=h
 cases rx
 obtain ⟨t,rfl⟩:=ry
 obtain ⟨its,r,pl,hz⟩:=I.list hq
 obtain ⟨j,h1,h2,h3,h4,h5⟩:=K0 he
 obtain ⟨w,ew,rw'⟩:=r.get h2
 have hl:=r.length
 have hn:=JX
 have fin:EP X pins σ Q w s:=⟨z,H,I,rw',q⟩
 by_cases h0:0≤i
 ·have hj:i.toNat=j:=by
   rw [seqIndex_of h0 h5] at h1
   exact AJ h1
  exact item_listR pl.isList h0 (by omega) (by rw [hj];simpa using ew) fin hs
 ·have hj:(i+(its.toArray.size:Int)).toNat=j:=by
   rw [seqIndex_neg (by omega) h4] at h1
   rw [Ai,← hl]
   exact AJ h1
  exact subscriptTail_builtinR (x:=w) pl.isList.typeIs slot_list_getitem.lookup
   (wpAny_getItem_list_neg (Q:=λr s'=>r=w∧EP X pins σ Q r s') pl.isList (by omega) (by rw [Ai]<;>omega) (by omega) (by rw [hj];simpa using ew) ⟨rfl,fin⟩) hs
theorem W7:IxR X (Aag X.K):=by
 intro value slice pins s σ H x y v u Q I rx ry h hs
 obtain ⟨p,xs,i,z,rfl,rfl,hq,he,q⟩:=h
 cases rx
 obtain ⟨t,rfl⟩:=ry
 obtain ⟨its,r,pl,hz⟩:=I.tuple hq
 obtain ⟨j,h1,h2,h3,h4,h5⟩:=K0 he
 obtain ⟨w,ew,rw'⟩:=r.get h2
 have hl:=r.length
 have hn:=JX
 have fin:EP X pins σ Q w s:=⟨z,H,I,rw',q⟩
 exact subscriptTail_builtinR (x:=w) pl.typeIs slot_tuple_getitem.lookup
  (getItem_tuple (j:=j) (Q:=λr s'=>r=w∧EP X pins σ Q r s') pl (by omega) (by omega) (by rw [Ai,← hl];exact h1) (by simpa using ew) ⟨rfl,fin⟩) hs
theorem WU:IxR X YZ:=by
 intro value slice pins s σ H x y v u Q I rx ry h hs
 obtain ⟨z,i,c,rfl,rfl,hz,he,q⟩:=h
 obtain ⟨t,rfl⟩:=rx
 obtain ⟨t',rfl⟩:=ry
 obtain ⟨j,h1,h2,h3,h4,h5⟩:=K0 he
 have hl:z.cps.toList.length=z.length:=by simp [Str.length]
 rw [hl] at h1 h4 h5
 have hn:=JX
 exact tail_any (typeIs_str s z t) slot_str_getitem.lookup (getItem_str (c:=c) (by
  have e1:decide (i < -(2 ^ 63:Int))=false:=AV (by omega)
  have e2:decide (i ≥ 2 ^ 63)=false:=AV (by omega)
  rw [e1,e2,Bool.or_false]) (by rw [h1];simpa using h2) ⟨.str ⟨#[c]⟩,H,I.tok _,⟨_,rfl⟩,q⟩) hs
noncomputable def rIx (K:PySem.W.Frag):R2:=λx y H Q=>X9 K x y H Q∨Aag K x y H Q∨YZ x y H Q
theorem WD:IxR X (rIx X.K):=VY.or (W7.or WU)
theorem Py (its:List Value)(n j:Nat)(u:Value):Obj.mapSeq (·.setIfInBounds j u) { cls:=.type "list",data:=.seq its.toArray n }={ cls:=.type "list",data:=.seq (its.set j u).toArray n }:=by
 simp [Obj.mapSeq]
theorem Inv.lst {pins:List (Addr×Obj)}{σ:St}{H:Hp}{s:Shared}{p:Addr}{xs:List V}(I:Inv X pins σ H s)(h:H p=some (.lst xs)) :
  ∃ (its:List Value) (n:Nat),Vals xs its∧s.heap.get? p=some { cls:=.type "list",data:=.seq its.toArray n }∧xs.length≤sizeLine:=by
 obtain ⟨z,its,n,r,e⟩:=I.hok p _ h
 exact ⟨its,n,r,e,z⟩
theorem Inv.lstUpd {pins:List (Addr×Obj)}{σ:St}{H:Hp}{s:Shared}{p:Addr}{xs ys:List V}{its its':List Value}{n n':Nat}{f:Obj->Obj}(I:Inv X pins σ H s)(h:H p=some (.lst xs))
  (ho:s.heap.get? p=some { cls:=.type "list",data:=.seq its.toArray n }) (hf:f { cls:=.type "list",data:=.seq its.toArray n }={ cls:=.type "list",data:=.seq its'.toArray n' }) (r:Vals ys its') (hz:ys.length≤sizeLine) (t:Nat) :
  Inv X pins σ (upd H p (.lst ys)) { s with heap:=s.heap.update p f,toks:=t }:=by
 have e:(s.heap.update p f).get? p=some { cls:=.type "list",data:=.seq its'.toArray n' }:=by
  rw [AN f ho (by rw [hf]<;>rfl),hf]
 refine I.write (x:=p) (e:=p) (by rw [h];trivial) (.inl rfl) (λb u hb q=>(BC _ _ (Ne.symm hb)).trans q) ⟨_,e⟩ ?_
 exact ⟨hz,its',n',r,e⟩
noncomputable def Zw:V->V->V->Hp->(Hp->Prop)->Prop:=λo i v H Q=>∃ p xs k j,o=.ref p∧i=.int k∧H p=some (.lst xs)∧ixN xs.length k=some j∧Q (upd H p (.lst (xs.set j v)))
theorem set_list:VN X Zw:=by
 intro pins s σ H o i v ov iv u Q I ro ri rv h
 obtain ⟨p,xs,k,j,rfl,rfl,hp,hj,q⟩:=h
 cases ro
 obtain ⟨t,rfl⟩:=ri
 obtain ⟨its,n,r,ho,hz⟩:=I.lst hp
 obtain ⟨h1,h2,h3,h4⟩:=Qa hj
 have hl:=r.length
 have hn:=JX
 have I':Inv X pins σ (upd H p (.lst (xs.set j v))) { s with heap:=s.heap.update p (Obj.mapSeq (·.setIfInBounds j u)) }:=
  I.lstUpd hp ho (Py its n j u) (r.set rv j) (by rw [List.length_set];exact hz) s.toks
 by_cases h0:0≤k
 ·have hk:k.toNat=j:=by
   rw [seqIndex_of h0 h4] at h1
   exact AJ h1
  exact PySem.W.ki_setAt ho h0 (by omega) (by rw [Ai,← hl];exact h4) (by rw [hk];exact ⟨_,I',q⟩)
 ·have hk:(k+(its.toArray.size:Int)).toNat=j:=by
   rw [seqIndex_neg (by omega) h3] at h1
   rw [Ai,← hl]
   exact AJ h1
  exact PySem.W.ki_setBack ho (by omega) (by rw [Ai,← hl];exact h3) (by omega) (by rw [hk];exact ⟨_,I',q⟩)
theorem M4 (lo hi:Option Int)(n:Nat):(sliceBounds lo hi none n).1=((HT.sIx n 0 lo:Nat):Int)∧(sliceBounds lo hi none n).2.1=((HT.sIx n n hi:Nat):Int)∧(sliceBounds lo hi none n).2.2=1:=by
 refine ⟨?_,?_,rfl⟩
 ·cases lo with
  | none=>simp [sliceBounds,HT.sIx]
  | some i =>
   simp only [sliceBounds,HT.sIx,Option.getD_none,show (1:Int) > 0 by decide,if_true]
   by_cases h:i<0
   ·simp only [h,if_true]<;>omega
   ·simp only [h,A4]<;>omega
 ·cases hi with
  | none=>simp [sliceBounds,HT.sIx]
  | some i =>
   simp only [sliceBounds,HT.sIx,Option.getD_none,show (1:Int) > 0 by decide,if_true]
   by_cases h:i<0
   ·simp only [h,if_true]<;>omega
   ·simp only [h,A4]<;>omega
theorem LX (its:List Value)(lo hi:Option Int):slicePick its.toArray lo hi none=((its.drop (HT.sIx its.length 0 lo)).take (HT.sIx its.length its.length hi-HT.sIx its.length 0 lo)).toArray:=by
 obtain ⟨h1,h2,h3⟩:=M4 lo hi its.toArray.size
 unfold slicePick
 rw [h1,h2,h3]
 simp only [sliceRange_one,pick_run,Ai]<;>rfl
noncomputable def ZS (K:PySem.W.Frag):V->Option Int->Option Int->Hp->VK->Prop:=λx lo hi H Q=>∃ a xs,x=.ref a∧SqL K H a xs∧∀ p,H p=none->Q (.ref p) (upd H p (.lst (Ot xs lo hi)))
theorem Va:SlR X (ZS X.K):=by
 intro pins s σ H x v vl vu lo hi sl Q I rx hs pl pu h
 obtain ⟨a,xs,rfl,hx,q⟩:=h
 cases rx
 obtain ⟨its,r,ht,hz⟩:=I.list hx
 have hlen:=r.length
 refine ⟨"list",_,slot_list_getitem.lookup,ht.isList.typeIs,?_⟩
 refine wpAny_getItem_list_slice ht.isList hs pl pu .none (by simp) ?_ (by rw [Ai]<;>omega)
 rw [LX,← hlen]
 refine ⟨.ref s.heap.objs.size,_,I.laid (t':=s.toks) (o:=.lst (Ot xs lo hi)) (λb ob q=>Ad _ q) (Ah _) ?_,rfl,q _ (I.hok.fresh (Ah _))⟩
 exact ⟨AK (KD xs lo hi) hz,_,0,(r.drop (HT.sIx xs.length 0 lo)).take (HT.sIx xs.length xs.length hi-HT.sIx xs.length 0 lo),Am _ rfl⟩
theorem Ho:GY X (.builtin "len") (λxs H Q=>∃ p ys,xs=[.ref p]∧(SqL X.K H p ys∨SqT X.K H p ys)∧Q (.int ys.length) H):=by
 intro pins s σ H xs us Q I r h
 obtain ⟨p,ys,rfl,hq,q⟩:=h
 obtain ⟨u,rfl,rx⟩:=vals1 r
 cases rx
 have hn:=JX
 rcases hq with hq|hq
 ·obtain ⟨its,r',pl,hz⟩:=I.list hq
  have hlen:=r'.length
  exact Calls.call_len_list pl.isList (by simp only [Ai]<;>omega) ⟨.int ys.length,H,I.tok _,⟨s.toks+1,by rw [Ai,hlen]⟩,q⟩
 ·obtain ⟨its,r',pl,hz⟩:=I.tuple hq
  have hlen:=r'.length
  exact len_tuple pl (by simp only [Ai]<;>omega) ⟨.int ys.length,H,I.tok _,⟨s.toks+1,by rw [Ai,hlen]⟩,q⟩
theorem M7:GY X (.builtin "len") (λxs H Q=>∃ z,xs=[.str z]∧z.length≤sizeLine∧Q (.int z.length) H):=by
 intro pins s σ H xs us Q I r h
 obtain ⟨z,rfl,hz,q⟩:=h
 obtain ⟨u,rfl,t,rfl⟩:=vals1 r
 have hn:=JX
 exact len_str (by omega) ⟨.int z.length,H,I.tok _,⟨_,rfl⟩,q⟩
theorem Nk:GY X (.type "list") (λxs H Q=>∃ p ys,xs=[.ref p]∧(SqL X.K H p ys∨SqT X.K H p ys)∧∀ l,H l=none->Q (.ref l) (upd H l (.lst ys))):=by
 intro pins s σ H xs us Q I r h
 obtain ⟨p,ys,rfl,hq,q⟩:=h
 obtain ⟨u,rfl,rx⟩:=vals1 r
 cases rx
 have fin:∀ (its:List Value),Vals ys its->ys.length≤sizeLine->∀ (h':Heap) (c':Nat),(∀ b o',s.heap.get? b=some o'->h'.get? b=some o') ->
   h'.get? s.heap.objs.size=some { cls:=.type "list",dict:=none,data:=.seq its.toArray c',slots:=#[] }->EP X pins σ Q (.ref s.heap.objs.size) { s with heap:=h' }:=λits r' hz h' c' kp e =>
  ⟨.ref s.heap.objs.size,_,I.laid (t':=s.toks) kp (Ah _) (show ObjOk X.prog X.w _ h' _ (.lst ys) from ⟨hz,its,c',r',e⟩),rfl,q _ (I.hok.fresh (Ah _))⟩
 rcases hq with hq|hq
 ·obtain ⟨its,r',pl,hz⟩:=I.list hq
  have hlen:=r'.length
  obtain ⟨o,ho,hc,n,hd⟩:=pl.isList
  exact call_list_seq p (.inl rfl) ho hc hd (λh' c' kp e=>fin its r' hz h' c' kp e) (by simp only [Ai]<;>omega)
 ·obtain ⟨its,r',pl,hz⟩:=I.tuple hq
  have hlen:=r'.length
  obtain ⟨o,ho,hc,n,hd⟩:=pl
  exact call_list_seq p (.inr rfl) ho hc hd (λh' c' kp e=>fin its r' hz h' c' kp e) (by simp only [Ai]<;>omega)
theorem L4:GY X (.type "tuple") (λxs H Q=>∃ p ys,xs=[.ref p]∧((SqL X.K H p ys∧∀ l,H l=none->Q (.ref l) (upd H l (.tup ys)))∨(SqT X.K H p ys∧Q (.ref p) H))):=by
 intro pins s σ H xs us Q I r h
 obtain ⟨p,ys,rfl,h⟩:=h
 obtain ⟨u,rfl,rx⟩:=vals1 r
 cases rx
 rcases h with ⟨hq,q⟩|⟨hq,q⟩
 ·obtain ⟨its,r',pl,hz⟩:=I.list hq
  have hlen:=r'.length
  refine call_tuple_list pl.isList (λh' kp=>?_) (by simp only [Ai]<;>omega)
  have I1:Inv X pins σ H { s with heap:=h' }:=I.kept (t':=s.toks) kp
  have I2:Inv X pins σ (upd H h'.objs.size (.tup ys)) { s with heap:=h'.push { cls:=.type "tuple",data:=.seq its.toArray } }:=
   I1.laid (t':=s.toks) (λb o e=>Ad _ e) (Ah _) (show ObjOk X.prog X.w _ _ _ (.tup ys) from ⟨⟨hz,⟨_,Am _ rfl,rfl⟩⟩,its,r',IsTup.new _ _⟩)
  exact ⟨.ref h'.objs.size,_,I2,rfl,q _ (I1.hok.fresh (Ah _))⟩
 ·obtain ⟨its,r',pl,hz⟩:=I.tuple hq
  exact call_tuple_same pl ⟨.ref p,H,I,rfl,q⟩
noncomputable def tyV (K:PySem.W.Frag)(T:String)(x:V)(H:Hp):Prop:=match x with
 | .str _=>T="str"
 | .int _=>T="int"
 | .ref p=>(T="list"∧∃ xs,SqL K H p xs)∨(T="tuple"∧∃ o,K.lookup p=some o∧o.cls=.type "tuple"∧o.dict=none) ∨
   (T="dict"∧((∃ kvs,H p=some (.dK kvs))∨∃ kvs,H p=some (.dT kvs)))∨(T="set"∧∃ S n,H p=some (.set S n))
 | _=>False
theorem Yg {pins:List (Addr×Obj)}{σ:St}{H:Hp}{s:Shared}{T:String}{x:V}{v:Value}(I:Inv X pins σ H s)(r:RelV x v)(ty:tyV X.K T x H) :
  s.TypeIs v T∧∀ a,v=.ref a->∃ ob,s.heap.get? a=some ob∧ob.dict=none:=by
 cases x with
 | str z =>
  obtain ⟨t,rfl⟩:=r
  cases (show T="str" from ty)
  exact ⟨typeIs_str s z t,λ_ e=>nomatch e⟩
 | int i =>
  obtain ⟨t,rfl⟩:=r
  cases (show T="int" from ty)
  exact ⟨typeIs_int s i t,λ_ e=>nomatch e⟩
 | ref p =>
  cases r
  rcases ty with ⟨rfl,xs,hq⟩|⟨rfl,o,hk,hc,hd⟩|⟨rfl,hk⟩|⟨rfl,S,n,hk⟩
  ·obtain ⟨its,_,pl,_⟩:=I.list hq
   refine ⟨pl.isList.typeIs,λa e=>?_⟩
   cases e
   obtain ⟨o,n,e,c,hd,_⟩:=pl
   exact ⟨o,e,hd⟩
  ·refine ⟨⟨o,I.kIn p o hk,hc⟩,λa e=>?_⟩
   cases e
   exact ⟨o,I.kIn _ o hk,hd⟩
  ·have z:∃ o,s.heap.get? p=some o∧o.ExactDict:=by
    rcases hk with ⟨kvs,hk⟩|⟨kvs,hk⟩
    ·obtain ⟨_,_,_,_,o,_,_,e,ex,_⟩:=I.hok p _ hk
     exact ⟨o,e,ex⟩
    ·obtain ⟨_,_,_,_,o,_,_,e,ex,_⟩:=I.hok p _ hk
     exact ⟨o,e,ex⟩
   obtain ⟨o,e,ex⟩:=z
   refine ⟨⟨o,e,ex.1⟩,λa e2=>?_⟩
   cases e2
   exact ⟨o,e,ex.2.1⟩
  ·obtain ⟨o,_,_,_,e,ex,_⟩:=I.hok p _ hk
   refine ⟨⟨o,e,ex.1⟩,λa e2=>?_⟩
   cases e2
   exact ⟨o,e,ex.2.1⟩
 | _=>exact False.elim ty
noncomputable def tBM (K:PySem.W.Frag)(T:String)(r:V->List V->Hp->VK->Prop)(to:TE)(t:TA):TE:=fun σ H Q=>to σ H λx H1=>tyV K T x H1∧t σ H1 λxs H2=>r x xs H2 Q
variable {o e:Expr} {es:List Expr} {to:TE} {t:TA} {name:Str} {apos cpos:Pos} {T id:String} {r:V->List V->Hp->VK->Prop}
theorem V8 (pa:PlainAttrs T)(slot:Slot T name id)(hty:typeOf (.builtin id)=pure (.type "method_descriptor"))(hm:MtR X id r)(ho:PE X o to)(ha:PA X (e::es) t)
  (hbase:attributeBase o name X.env (eval o X.env)=eval o X.env:=by rfl)
  (hfew:((backTo cpos (starEach (e::es) X.env)).all (λx=>!x.1)&&(backToKw cpos (keywordEach [] X.env)).all (λx=>x.1.isSome)
   && decide ((e::es).length+([]:List Keyword).length+(if ([]:List Keyword).isEmpty then 0 else 1)<30))=true:=by rfl)
  (hline:(apos.endLine==cpos.line)=true:=by rfl) (hs:starEach (e::es) X.env=(false,eval e X.env)::starEach es X.env:=by rfl) (hplain:(backTo cpos (starEach es X.env)).any (·.1)=false:=by rfl) :
  PE X (.Call (.Attribute o name apos) (e::es) [] cpos) (tBM X.K T r to t):=by
 intro pins s σ H Q I h
 refine wpAny_Call_method_late hbase hfew hline rfl (thn (ho pins s σ H _ I h) λv s1 ⟨x,H1,I1,r1,ty,q1⟩=>?_)
 obtain ⟨h1,h2⟩:=Yg I1 r1 ty
 refine ⟨T,id,pa,slot,hty,h1,h2,?_⟩
 have hA:=ha cpos pins s1 σ H1 _ I1 q1
 rw [hs] at hA ⊢
 refine Calls.callWith_builtin (by show (false||(backTo cpos (starEach es X.env)).any (·.1))=false;rw [hplain]<;>rfl) (Calls.evalArgs_plain ?_)
 exact thn hA λus s2 ⟨vs,H2,I2,r2,q2⟩=>hm pins s2 σ H2 x vs v us Q I2 r1 r2 q2
end
noncomputable def MtM (X:Cx)(id:String)(r:V->List V->Hp->VK->Prop):Prop:=
 ∀ (pins:List (Addr×Obj)) (s:Shared) (σ:St) (H:Hp) (x:V) (xs:List V) (v:Value) (us:List Value) (Q:VK),Inv X pins σ H s->RelV x v->Vals xs us->r x xs H Q ->
  wpAny (model X.prog X.w) X.A (call (.builtin id) (v::us)) (EP X pins σ Q) X.xe s
theorem Vals.one:∀ {x:V} {us:List Value},Vals [x] us->∃ u,us=[u]∧RelV x u
 | _,_,.cons r .nil=>⟨_,rfl,r⟩
theorem Vals.reverse {xs:List V}{us:List Value}(h:Vals xs us):Vals xs.reverse us.reverse:=by
 induction h with
 | nil=>exact .nil
 | cons r t ih=>rw [List.reverse_cons,List.reverse_cons];exact Vals.append ih (.cons r .nil)
theorem Vals.rep {xs:List V}{us:List Value}(h:Vals xs us):∀ k:Nat,Vals (List.replicate k xs).flatten (List.replicate k us).flatten
 | 0=>.nil
 | k+1=>by
  rw [List.replicate_succ,List.replicate_succ,List.flatten_cons,List.flatten_cons]
  exact Vals.append h (Vals.rep h k)
theorem foldl_rep (its:List Value):∀ (k:Nat) (acc:List Value),
  List.foldl (λx1 x2=>x1++x2) acc.toArray (List.replicate k its.toArray)=(acc++(List.replicate k its).flatten).toArray
 | 0,acc=>by simp
 | k+1,acc=>by
  have e:acc.toArray++its.toArray=(acc++its).toArray:=by simp
  have e2:(acc++its)++(List.replicate k its).flatten=acc++(List.replicate (k+1) its).flatten:=by
   rw [List.replicate_succ,List.flatten_cons,List.append_assoc]
  rw [← e2,← foldl_rep its k (acc++its),← e,List.replicate_succ,List.foldl_cons]
section
variable {X:Cx} {pins:List (Addr×Obj)} {σ:St} {H:Hp} {s:Shared} {l b:Addr} {xs ys zs:List V}
theorem Inv.lset {its its':List Value}{n:Nat}{f:Array Value->Array Value}{t':Nat}(I:Inv X pins σ H s)(hH:H l=some (.lst xs))
  (e:s.heap.get? l=some { cls:=.type "list",data:=.seq its.toArray n }) (hf:f its.toArray=its'.toArray) (hv:Vals ys its') (hz:ys.length≤sizeLine) :
  Inv X pins σ (upd H l (.lst ys)) { s with heap:=s.heap.update l (Obj.mapSeq f),toks:=t' }:=by
 have q:=PySem.IsL.update e f
 rw [hf] at q
 refine I.write (x:=l) (e:=l) (by rw [hH];exact trivial) (.inl rfl) (λb' u hb hu=>(BC s.heap (Obj.mapSeq f) (Ne.symm hb)).trans hu) ⟨_,q⟩ ?_
 exact ⟨hz,its',_,hv,q⟩
theorem Inv.lstM (I:Inv X pins σ H s)(hH:H l=some (.lst xs)):xs.length≤sizeLine∧∃ (its:List Value) (n:Nat),Vals xs its∧xs.length=its.length∧s.heap.get? l=some { cls:=.type "list",data:=.seq its.toArray n }:=by
 obtain ⟨z,its,n,r,e⟩:=I.hok l _ hH
 exact ⟨z,its,n,r,r.length,e⟩
theorem Sl {n:Nat}(h:n≤sizeLine):Builtin.List.listTooLong n=false:=by
 unfold Builtin.List.listTooLong
 exact AV (by omega)
end
section
variable {X:Cx}
noncomputable def Vt:V->List V->Hp->VK->Prop:=λx vs H Q=>∃ l xs y,x=.ref l∧vs=[y]∧H l=some (.lst xs)∧xs.length<sizeLine∧Q .non (upd H l (.lst (xs++[y])))
theorem QQ:MtM X "list.append" Vt:=by
 intro pins s σ H x vs v us Q I rx rv h
 obtain ⟨l,xs,y,rfl,rfl,hH,hz,q⟩:=h
 cases rx
 obtain ⟨u,rfl,ru⟩:=rv.one
 obtain ⟨z,its,n,r,hl,e⟩:=I.lstM hH
 refine call_meets F.slot_list_append ⟨_,e,rfl⟩ F.entry_list_append (F.args_list_append_2 _ _) (PySem.list_append l its.toArray n u (by rw [Ai];omega)) ⟨e,?_⟩
 refine ⟨.non,_,I.lset (its':=its++[u]) hH e (by simp) (r.append (.cons ru .nil)) ?_,rfl,q⟩
 rw [Aq,List.length_singleton]
 omega
theorem len_rep {α:Type}(xs:List α)(k:Nat):(List.replicate k xs).flatten.length=k*xs.length:=by
 induction k with
 | zero=>simp
 | succ k ih=>rw [List.replicate_succ,List.flatten_cons,Aq,ih,Nat.succ_mul,Nat.add_comm]
end
end L2
namespace Att
open PySem PySem.W PySem.Calls PyProof.Rows
theorem KJ {P:Params}{h:Heap}:∀ (ns:List Int) (vs:List Value),WellAll P h vs (ns.map WData.int)->IntsAre vs ns:=by
 intro ns
 induction ns with
 | nil =>
  intro vs w
  rw [List.map_nil] at w
  cases w
  exact .nil
 | cons n ns ih =>
  intro vs w
  rw [AM] at w
  cases w with
  | cons a b =>
   cases a
   exact .cons _ _ (ih _ b)
theorem Rl {l:OpenLaw}{n:Nat}(hn:l.most=some n){P:Params}{h:Heap}{args:List WData}{vals:List Value}
  (hpre:l.row.toRowW.claim.pre args=true) (hwl:WellAll P h vals args) :
  ∃ a vs ns,vals=[Value.ref a]∧args=[WData.list (ns.map WData.int)]∧h.get? a=some { cls:=.type "list",data:=.seq vs.toArray }∧IntsAre vs ns∧ns.length≤n:=by
 have hsh:WShape.hasAll [] args [.list .int]=true:=(pre_splitW hpre).1
 have hc:l.pre.holds [] { args:=args }=true:=(pre_splitW hpre).2
 obtain ⟨d,r,rfl,h1,h2⟩:=hasAllW_cons hsh
 obtain rfl:=hasAllW_nil h2
 obtain ⟨xs,rfl,h3⟩:=hasW_list h1
 obtain ⟨ns,rfl⟩:=items_int h3
 have hlen:ns.length≤n:=by
  unfold OpenLaw.pre at hc
  have h4:(WTm.not (.lt (.lit (.int (n:Int))) (.len (.arg 0)))).holds [] { args:=[.list (ns.map .int)] }=true:=by
   have h4:=(holds_andW hc).1
   rw [hn] at h4
   exact h4
  have h5:=condW_of h4 (w_not (w_lt w_lit (w_len_list (w_arg rfl))))
  rw [Ag] at h5
  refine Nat.le_of_not_lt λq=>?_
  have q':(n:Int)<((ns.length:Nat):Int):=by omega
  first
   | (rw [BJ q'] at h5;exact absurd h5 (by decide))
   | (simp at h5;omega)
 cases hwl with
 | cons w1 w2 =>
  cases w2
  cases w1 with
  | list ho hall=>exact ⟨_,_,ns,rfl,rfl,ho,KJ ns _ hall,hlen⟩
theorem Ru (l:OpenLaw)(args:List WData):l.row.toRowW.claim.post args (.bool true) args=true:=
 postW_of (r:=l.row.toRowW) (X:=(true==true))
  (show WShape.has [] (.bool true) .bool=true by first|rfl|decide|simp [WShape.has,WShape.arms,WShape.armsAll])
  (show (WTm.eq .res (.lit (.bool true))).value [] { args:=args,res:=some (.bool true),after:=args }=some (.bool (true==true)) from w_eq_bool (w_res rfl) w_lit) rfl
theorem N1 {l:OpenLaw}{n:Nat}{q:Program}{loose:List Str}{XP:(Str->Option Value)->Heap->Prop}{YP:World->Heap->Prop}{d:DefRec}
  (hn:l.most=some n) (hdf:d.params.defaults=[])
  (call:∀ (w:World) (s₀ s₁:Shared) (mg mb:Str->Option Value) (fa:Addr) (o:Obj) (pm cd doc:Value) (a:Addr) (vs:List Value) (ns:List Int),
   Ground q loose [] XP w s₀ mg mb s₁.heap->YP w s₁.heap ->
   s₁.heap.get? fa=some o->o.data=.func (docDef d.name d.params d.body d.scope pm cd doc)->s₁.heap.CodeRec cd d.name->mg d.name=some (.ref fa) ->
   s₁.heap.get? a=some { cls:=.type "list",data:=.seq vs.toArray }->IntsAre vs ns->ns.length≤n->s₁.gens=#[] ->
   codeAny (model l.prog w) callerA (.call (.ref fa) ⟨[.ref a],[]⟩) (λr s'=>r=.ok (.ret (.bool true))∧OldK s₁.heap s'.heap∧s'.os=s₁.os∧AllBare s'.gens) s₁) :
  WalkO q loose XP YP l.row.toRowW d [] (λf vs=>PySem.call f vs):=by
 intro w s₀ s₁ mg mb G Y fa o pm cd doc dV kV ho hd hcd hD hmg hg args vals as hpre hlay hrd hwl hlo
 obtain rfl:dV=.none:=Dflts.none hD hdf
 obtain rfl:kV=.none:=Dflts.noKw hD
 obtain ⟨a,vs,ns,rfl,rfl,hobj,hints,hlen⟩:=Rl hn hpre hwl
 refine enter_call (codeAny_mono (call w s₀ s₁ mg mb fa o pm cd doc a vs ns G Y ho (fd_plain hd) hcd hmg hobj hints hlen hg) λr s' hq=>?_)
 obtain ⟨rfl,h2,h3,h4⟩:=hq
 exact ⟨.inl ⟨.bool true,.bool true,[],rfl,λ_=>rfl,.bool true,Ru l _,λ_=>⟨List.Pairwise.nil,λ_ hm=>(nomatch hm)⟩⟩,h2,h3,h4⟩
end Att
namespace L2
open PySem PySem.Spec PyProof.Rows
theorem Mp:∀ {vs:List Value} {ns:List Int},IntsAre vs ns->Vals (ns.map V.int) vs
 | _,_,.nil=>.nil
 | _,_,.cons n t h=>.cons ⟨t,rfl⟩ (Mp h)
noncomputable def Yk (H:Hp):Prop:=∀ b,H b=none∨∃ o xs,H b=some (.frz o (.lst xs))
theorem TC {P:Program}{w:World}{K:PySem.W.Frag}{mg mb:Str->Option Value}{CX:CXT}{k:Nat}{fa a:Addr}{fd:FuncData}{x:Str}{sp:Sp}{s₁:Shared}{vs:List Value}{ns:List Int}
  (KX:K.In s₁.heap) (hns:s₁.heap.Ns mainGlobals mg) (hb:s₁.heap.Ns builtinsNs mb) (hbb:∀ x:Str,x≠"__name__"->mb x=bootBuiltins x) (hlim:s₁.heap.NoLimit) (hg:s₁.gens=#[])
  (ha:s₁.heap.get? a=some { cls:=.type "list",data:=.seq vs.toArray }) (hi:IntsAre vs ns) (hl:ns.length≤sizeLine) (hr:Room k callerA)
  (F:∀ base:Heap,K.In base->base.Ns mainGlobals mg->DH P w K mg base CX k fa fd [x] sp) (hbind:∀ (s:Shared) (u:Value),BindsTo s fd ⟨[u],[]⟩ [(x,u)])
  (hsp:∀ H:Hp,Yk H->SqL K H a (ns.map V.int)->sp [.ref a] H (λv _=>v=.bl true) λ_ _ _=>False)
  (hCX:∀ H e s',CX [] H s₁ (λ_ _ _=>False) e s'->False) :
  codeAny (model P w) callerA (.call (.ref fa) ⟨[.ref a],[]⟩) (λr s'=>r=.ok (.ret (.bool true))∧OldK s₁.heap s'.heap∧s'.os=s₁.os∧AllBare s'.gens) s₁:=by
 have rv:=Mp hi
 have lenV:=hi.length
 have core:∀ H:Hp,Yk H->SqL K H a (ns.map V.int)->HOk P w H s₁.heap->(∀ b,H b≠none->b=a)->(H a≠none->K.lookup a=none) ->
   codeAny (model P w) callerA (.call (.ref fa) ⟨[.ref a],[]⟩) (λr s'=>r=.ok (.ret (.bool true))∧OldK s₁.heap s'.heap∧s'.os=s₁.os∧AllBare s'.gens) s₁:=by
  intro H hO hS hok hA hK
  have base_of:∀ {b:Addr} {o:Obj},s₁.heap.get? b=some o->H b=none->(Nq s₁.heap H).get? b=some o:=λe n=>RR e n
  have noA:∀ {b:Addr} {o:Obj} {es:Array DictEntry} {ep:Nat},s₁.heap.get? b=some o->o.data=.dict es ep->H b=none:=λ{b o es ep} e d=>by
   cases q:H b with
   | none=>rfl
   | some u =>
    have e':b=a:=hA b (by rw [q];simp)
    subst e'
    rw [ha] at e;cases e
    have d':Data.seq vs.toArray _=Data.dict es ep:=d
    cases d'
  have nsK:∀ {b:Addr} {m:Str->Option Value},s₁.heap.Ns b m->(Nq s₁.heap H).Ns b m:=λ{b m} ⟨o,es,ep,e,d,r⟩=>⟨o,es,ep,base_of e (noA e d),d,r⟩
  have hKb:K.In (Nq s₁.heap H):=λb o e=>base_of (KX b o e) (by
   cases q:H b with
   | none=>rfl
   | some u =>
    have e':b=a:=hA b (by rw [q];simp)
    subst e'
    rw [hK (by rw [q];simp)] at e;cases e)
  have hM:Mod K mg (Nq s₁.heap H):=⟨hKb,nsK hns,⟨mb,nsK hb,hbb⟩,let ⟨mc,h1,h2⟩:=hlim;⟨mc,nsK h1,h2⟩⟩
  have e0:UZ P w K mg (Nq s₁.heap H) callerA [] s₁ H:=⟨rfl,hM,λb o e=>V3 e,Nat.le_of_eq (Q8 _ _),trivial,λb hb=>absurd (show b∈([]:List Addr) from hb) (by simp),hok,.of_eq hg⟩
  refine codeAny_mono ((F _ hKb (nsK hns)).run callerA [] s₁ H ⟨[.ref a],[]⟩ [.ref a] [.ref a] _ _ hr e0 (hbind s₁ (.ref a)) (.cons rfl .nil) (hsp H hO hS)) λr s' h=>?_
  cases r with
  | error e=>exact (hCX H e s' h).elim
  | ok fl =>
   cases fl with
   | next=>exact False.elim h
   | brk=>exact False.elim h
   | cont=>exact False.elim h
   | ret u =>
    obtain ⟨v,H',os,bare,un,hok',r',q⟩:=h
    have q':v=.bl true:=q
    subst q'
    obtain rfl:u=Value.bool true:=r'
    refine ⟨rfl,OldK.of_keep λb o e=>?_,os,bare⟩
    cases q:H b with
    | none=>exact un.keep b o e q (by intro z;exact absurd (show b∈([]:List Addr) from z) (by simp)) (by simp)
    | some u =>
     rcases hO b with z|⟨ob,xs,z⟩
     ·rw [q] at z;cases z
     ·have z2:=un.frzs b ob _ z
      obtain ⟨e1,_⟩:=hok b _ z
      obtain ⟨e2,_⟩:=hok' b _ z2
      rw [e] at e1;cases e1
      exact e2
 cases hk:K.lookup a with
 | some o =>
  have e:=KX a o hk
  rw [ha] at e
  cases e
  refine core (λ_=>none) (λ_=>.inl rfl) (.inr ⟨_,vs.toArray,_,hk,rfl,rfl,rfl,by rw [Ai,lenV];exact hl,by simpa using rv⟩) (λb u z=>by have z':(none:Option HO)=some u:=z;cases z') (λb z=>absurd rfl z) λz=>absurd rfl z
 | none =>
  refine core (λb=>if b=a then some (.frz { cls:=.type "list",data:=.seq vs.toArray } (.lst (ns.map V.int))) else none) (λb=>?_) (.inl (.inr ⟨{ cls:=.type "list",data:=.seq vs.toArray },if_pos rfl⟩)) (λb u z=>?_) (λb z=>?_) λ_=>hk
  ·by_cases hb:b=a
   ·exact .inr ⟨_,_,if_pos hb⟩
   ·exact .inl (if_neg hb)
  ·by_cases hb:b=a
   ·have z':=(if_pos hb).symm.trans z
    cases z'
    subst hb
    exact ⟨ha,by rw [Ag];exact hl,vs,_,rv,ha⟩
   ·have z':=(if_neg hb).symm.trans z
    cases z'
  ·by_cases hb:b=a
   ·exact hb
   ·exact absurd (if_neg hb) z
theorem V4 {l:PySem.W.OpenLaw}{n k:Nat}{q:Program}{loose:List Str}{XP:(Str->Option Value)->Heap->Prop}{YP:World->Heap->Prop}{d:DefRec}{K:Params->PySem.W.Frag}{CX:World->CXT}{sp:World->Sp}{x:Str}
  (hn:l.most=some n) (hn2:n≤sizeLine) (hdf:d.params.defaults=[]) (hr:Room k callerA)
  (hY:∀ (w:World) (h:Heap),YP w h->(K w.params).In h)
  (F:∀ (w:World) (mg:Str->Option Value) (fa:Addr) (h:Heap),(K w.params).In h->h.Ns mainGlobals mg->mg d.name=some (.ref fa) ->
   ∃ fd:FuncData,(∀ (s:Shared) (u:Value),BindsTo s fd ⟨[u],[]⟩ [(x,u)]) ∧
    ∀ base:Heap,(K w.params).In base->base.Ns mainGlobals mg->DH l.prog w (K w.params) mg base (CX w) k fa fd [x] (sp w))
  (hsp:∀ (w:World) (H:Hp) (a:Addr) (ns:List Int),ns.length≤n->Yk H->SqL (K w.params) H a (ns.map V.int)->sp w [.ref a] H (λv _=>v=.bl true) λ_ _ _=>False)
  (hCX:∀ (w:World) (H:Hp) (s:Shared) (e:Value) (s':Shared),CX w [] H s (λ_ _ _=>False) e s'->False) :
  PySem.W.WalkO q loose XP YP l.row.toRowW d [] (λf vs=>PySem.call f vs):=by
 refine Att.N1 hn hdf λw s₀ s₁ mg mb fa o pm cd doc a vs ns G Y ho hd hcd hmg hobj hints hlen hg=>?_
 have KX:=hY w _ Y
 obtain ⟨fd,hb,hF⟩:=F w mg fa _ KX G.T.g hmg
 exact TC KX G.T.g G.T.b G.T.builtins G.T.nolimit hg hobj hints (AK hlen hn2) hr hF hb (λH hO hS=>hsp w H a ns hlen hO hS) λH e s'=>hCX w H s₁ e s'
noncomputable def Hk (s:Stmt):Arguments:=match s with
 | .FunctionDef _ a _ _ _ _ _ _ _ _=>a
 | _=>{ posonlyargs:=[],args:=[],vararg:=none,kwonlyargs:=[],kw_defaults:=[],kwarg:=none,defaults:=[] }
noncomputable def EV (s:Stmt):List Stmt:=match s with
 | .FunctionDef _ _ b _ _ _ _ _ _ _=>b
 | _=>[]
noncomputable def B9 (s:Stmt):Scope:=match s with
 | .FunctionDef _ _ _ _ _ _ sc _ _ _=>sc
 | _=>{ kind:=.function,names:=[],isGenerator:=false,isCoroutine:=false }
noncomputable abbrev CX0:CXT:=λ_ _ _ _ _ _=>False
noncomputable abbrev E0:XK:=λ_ _ _=>False
theorem Y5 {X:Cx}:Passes CX0 X E0:=λ_ _ _ _ _ _ _ h=>h.elim
structure Fun (K:PySem.W.Frag) (x qual:Str) (st:Stmt) (f:Addr) (fd:FuncData):Prop where
 ex:∃ (oc:Value) (od:Option Addr) (kV doc pm:Value) (an:Option Addr) (cdv ct:Value) (osl:Array (Option Value)),
  fd=PySem.W.fnOf x qual (Hk st) (EV st) (B9 st) .none kV doc pm an cdv ct∧K.lookup f=some ⟨oc,od,.func fd,osl⟩∧PySem.W.codeIn K cdv qual=true
 kp:PySem.W.keepIn K (.ref f)=true
section
variable {P:Program} {w:World} {K:PySem.W.Frag} {mg:Str->Option Value} {base:Heap}
theorem Fun.ok {x qual:Str}{st:Stmt}{f:Addr}{fd:FuncData}{N ps:List Str}{k:Nat}{sp:Sp}(F:Fun K x qual st f fd)(S:Cu N ps (B9 st))(len:∀ vs H Q E,sp vs H Q E->vs.length=ps.length)
  (hbody:∀ (cdv:Value) (A:Around) (outer:List Env) (s:Shared) (H:Hp) (vs:List V) (Q:VK) (E:XK),Room k (A.deeper (envOfC qual (B9 st) s.heap.objs.size f cdv))->sp vs H Q E ->
   ∃ t,PSs (L0 CX0 P w K mg base N qual (B9 st) f cdv A outer s H E).nox (EV st) t∧t { nx:=λ_ H'=>Q .non H',rt:=Q } (start N vs) H):DH P w K mg base CX0 (k+1) f fd ps sp:=by
 obtain ⟨oc,od,kV,doc,pm,an,cdv,ct,osl,rfl,lk,hcd⟩:=F.ex
 refine Aad lk hcd S len λA outer s H vs Q E hr hsp=>?_
 obtain ⟨t,h,q⟩:=hbody cdv A outer s H vs Q E hr hsp
 exact ⟨t,h.nox,q⟩
theorem Fun.binds {x qual:Str}{st:Stmt}{f:Addr}{fd:FuncData}{ps:List Str}(F:Fun K x qual st f fd)
  (h:∀ (kV doc pm:Value) (an:Option Addr) (cdv ct:Value) (us:List Value),us.length=ps.length->bindArgs (PySem.W.fnOf x qual (Hk st) (EV st) (B9 st) .none kV doc pm an cdv ct) ⟨us,[]⟩=pure (ps.zip us)):Binds K fd ps []:=by
 obtain ⟨oc,od,kV,doc,pm,an,cdv,ct,osl,rfl,lk,hcd⟩:=F.ex
 exact .all (h kV doc pm an cdv ct)
theorem SX {x qual:Str}{st:Stmt}{f:Addr}{oc:Value}{od an:Option Addr}{osl:Array (Option Value)}{kV doc pm cdv ct:Value}(l:K.lookup f=some ⟨oc,od,.func (PySem.W.fnOf x qual (Hk st) (EV st) (B9 st) .none kV doc pm an cdv ct),osl⟩)
  (c:PySem.W.codeIn K cdv qual=true) (k:PySem.W.keepIn K (.ref f)=true):Fun K x qual st f (PySem.W.fnOf x qual (Hk st) (EV st) (B9 st) .none kV doc pm an cdv ct):=⟨⟨oc,od,kV,doc,pm,an,cdv,ct,osl,rfl,l,c⟩,k⟩
end
section
variable {X:Cx}
theorem pv (i:Nat){x:Str}{pos:Pos}(hN:X.N[i]? = some x:=by rfl)(hv:Vis X.env.scope x:=by first|exact Or.inl rfl|exact Or.inr (Or.inl rfl)|exact Or.inr (Or.inr rfl))(hd:(x==("__debug__":Str))=false:=by decide)
  (hcd:(x==("__classdict__":Str))=false:=by decide):PE X (.Name x pos) (Zh i):=Up hN hv hd hcd
end
noncomputable abbrev Go (prog:Program) (w:World) (A:Around) {α:Type} (t:Sem α) (Q:α->Shared->Prop) (s:Shared):Prop:=wpAny (model prog w) A t Q (λ_ _=>False) s
noncomputable def tests (env:Env)(ifs:List Expr):Sem Bool:=forIn ifs true λc r =>
 if r=true then (isTrue c env (eval c env) >>= λok=>pure (ForInStep.yield ok)) else pure (ForInStep.yield r)
noncomputable def Uu (prog:Program)(w:World)(A:Around)(target elt:Expr)(ifs:List Expr)(it acc:Value)(env:Env)(fin:Shared->Prop)(v:Value)(s:Shared):Prop:=
 Go prog w A (letOwnedTupleGo target it v) (λ_ s1=>Go prog w A (assign target env v) (λ_ s2=>Go prog w A (tests env ifs) (λok s3 =>
  if ok=true then Go prog w A (eval elt env) (λx s4=>Go prog w A (call (.builtin "list.append") [acc,x]) (λ_ s5=>fin s5) s4) s3 else fin s3) s2) s1) s
theorem Kx {prog:Program}{w:World}{A:Around}{R:Result->Shared->Prop}{s:Shared}{elt target iter:Expr}{ifs:List Expr}{scope:Scope}{pos:Pos}{it acc:Value}{env:Env}(J:Nat->Shared->Prop)
  (turn:∀ (n:Nat) (z:Shared),J n z->Go prog w A (pyNext it) (λr z1=>match r with
   | .none=>R (.ok .next) z1
   | .some v=>Uu prog w A target elt ifs it acc env (λz2=>∃ m,m<n∧J m z2) v z1) z) (n:Nat) (h:J n s) :
  codeAny (model prog w) A (Code.compLoop (Expr.ListComp elt [⟨target,iter,ifs,0⟩] scope pos) 0 it acc env) R s:=by
 have step:∀ (n:Nat) (z:Shared),J n z->Go prog w A (compTurn (Expr.ListComp elt [⟨target,iter,ifs,0⟩] scope pos) 0 it acc env)
   (λfin z'=>match fin with
    | .done f=>R (.ok f) z'
    | .again c'=>c'=Code.compLoop (Expr.ListComp elt [⟨target,iter,ifs,0⟩] scope pos) 0 it acc env∧∃ m,m<n∧J m z') z:=by
  intro n z hz
  rw [compTurn_list]
  refine Aa (wpAny_standAt (Aa (thn (turn n z hz) λr z1 h1=>?_)))
  cases r with
  | none=>exact Ac h1
  | some v =>
   refine Aa (thn h1 λ_ z2 h2=>Aa (thn h2 λ_ z3 h3=>Aa (thn h3 λok z4 h4=>?_)))
   cases ok with
   | false=>exact Ac (And.intro rfl h4)
   | true=>exact Aa (Aa (thn h4 λx z5 h5=>Aa (thn h5 λ_ z6 h6=>Ac (Ac (And.intro rfl h6)))))
 refine codeAny_loop rfl J (λn z hz=>?_) n h
 exact wpAny_noted (BQ (step n z hz) (λ_ _ q=>q) λ_ _ q=>q.elim)
theorem Je {scope:Scope}{env:Env}(h:∀ y∈scope.names,y.2=.free->∃ c,env.cells.lookup y.1=some c) :
  ∃ cl,closureFor scope env=pure cl∧(∀ x c,cl.lookup x=some c->env.cells.lookup x=some c)∧∀ y∈scope.names,y.2=.free->∃ c,cl.lookup y.1=some c:=by
 have gen:∀ (l:List (Str×NameKind)) (acc:List (Str×Addr)),(∀ y∈l,y.2=.free->∃ c,env.cells.lookup y.1=some c)->(∀ x c,acc.lookup x=some c->env.cells.lookup x=some c) ->
   ∃ cl,(forIn l acc λ(x:Str×NameKind) (r:List (Str×Addr))=>if (x.2==NameKind.free)=true then do let c←cellOf env x.1;pure (ForInStep.yield ((x.1,c)::r)) else pure (ForInStep.yield r))=(pure cl:Sem (List (Str×Addr))) ∧
    (∀ x c,cl.lookup x=some c->env.cells.lookup x=some c)∧(∀ y∈l,y.2=.free->∃ c,cl.lookup y.1=some c)∧∀ x c,acc.lookup x=some c->∃ c',cl.lookup x=some c':=by
  intro l
  induction l with
  | nil=>intro acc _ ha;exact ⟨acc,rfl,ha,λ_ z=>(nomatch z),λx c e=>⟨c,e⟩⟩
  | cons y r ih =>
   intro acc hl ha
   obtain ⟨n,k⟩:=y
   by_cases hk:k=.free
   ·subst hk
    obtain ⟨c,hc⟩:=hl (n,.free) List.mem_cons_self rfl
    have ha':∀ x c',((n,c)::acc).lookup x=some c'->env.cells.lookup x=some c':=λx c' e=>by
     by_cases hx:x=n
     ·subst hx
      have hb:(x==x)=true:=beq_iff_eq.mpr rfl
      simp only [List.lookup,hb] at e
      cases e;exact hc
     ·have hb:(x==n)=false:=BR.mpr hx
      simp only [List.lookup,hb] at e
      exact ha x c' e
    obtain ⟨cl,h1,h2,h3,h4⟩:=ih ((n,c)::acc) (λy hy=>hl y (Bn _ hy)) ha'
    refine ⟨cl,?_,h2,λy hy hf=>?_,λx c' e=>?_⟩
    ·rw [List.forIn_cons]
     have e:cellOf env n=pure c:=by unfold cellOf;rw [hc]
     simp only [beq_self_eq_true,if_true,e,pure_bind]
     exact h1
    ·refine (An.mp hy).elim (λz=>?_) λhy=>?_
     ·subst z
      have hb:(n==n)=true:=beq_iff_eq.mpr rfl
      exact h4 n c (by simp only [List.lookup,hb])
     ·exact h3 y hy hf
    ·by_cases hx:x=n
     ·subst hx
      have hb:(x==x)=true:=beq_iff_eq.mpr rfl
      exact h4 x c (by simp only [List.lookup,hb])
     ·have hb:(x==n)=false:=BR.mpr hx
      exact h4 x c' (by simp only [List.lookup,hb];exact e)
   ·obtain ⟨cl,h1,h2,h3,h4⟩:=ih acc (λy hy=>hl y (Bn _ hy)) ha
    refine ⟨cl,?_,h2,λy hy hf=>?_,h4⟩
    ·rw [List.forIn_cons]
     have e:(k==NameKind.free)=false:=by simpa using hk
     simp only [e,AH,A4,pure_bind]
     exact h1
    ·refine (An.mp hy).elim (λz=>?_) λhy=>?_
     ·subst z
      exact absurd hf hk
     ·exact h3 y hy hf
 obtain ⟨cl,h1,h2,h3,_⟩:=gen scope.names [] h (λx c e=>by simp at e)
 refine ⟨cl,?_,h2,h3⟩
 unfold closureFor
 rw [← h1]
 simp only [bind_pure]
noncomputable def CF (X:Cx)(scope:Scope)(N:List Str)(cl:List (Str×Addr))(C:Addr)(s₁:Shared)(H₁:Hp)(fp:List Addr):Cx where
 prog:=X.prog
 w:=X.w
 K:=X.K
 mg:=X.mg
 base:=X.base
 A:=X.A
 N:=N
 s₀:=s₁
 H₀:=H₁
 env:=compEnvC scope cl C X.env
 outer:=X.stack
 stack:=X.stack
 ex:=fp
 fn:=λ_=>false
 calm:=X.calm
 pn:=[]
 xe:=λ_ _=>False
noncomputable def PF (X:Cx)(ifs:List Expr)(t:TT):Prop:=
 ∀ (pins:List (Addr×Obj)) (s:Shared) (σ:St) (H:Hp) (Q:Bool->Hp->Prop),Inv X pins σ H s->t σ H Q ->
  wpAny (model X.prog X.w) X.A (tests X.env ifs) (TP X pins σ Q) X.xe s
noncomputable def AaZ:TT:=λ_ H Q=>Q true H
theorem Xv {X:Cx}:PF X [] AaZ:=λ_ _ _ H _ I h=>wpAny_tests_nil ⟨H,I,h⟩
theorem Yv {X:Cx}{c:Expr}{t:TT}(h:PT X c t):PF X [c] t:=λpins s σ H Q I q=>wpAny_tests_one (h pins s σ H Q I q)
noncomputable def FvOk (X:Cx)(sc:Scope):List (Nat×Str)->Prop
 | []=>True
 | p::r=>(X.N[p.1]? = some p.2∧(X.env.scope.names.lookup p.2=some .cell∨X.env.scope.names.lookup p.2=some .free)∧(sc.names.lookup p.2=some .cell∨sc.names.lookup p.2=some .free))∧FvOk X sc r
theorem FvOk.get {X:Cx}{sc:Scope}:∀ {l:List (Nat×Str)} {k:Nat} {p:Nat×Str},FvOk X sc l->l[k]? = some p ->
  X.N[p.1]? = some p.2∧(X.env.scope.names.lookup p.2=some .cell∨X.env.scope.names.lookup p.2=some .free)∧(sc.names.lookup p.2=some .cell∨sc.names.lookup p.2=some .free)
 | [],_,_,_,h=>(by simp at h)
 | _::_,0,_,hf,h=>by simp at h;subst h;exact hf.1
 | _::_,k+1,_,hf,h=>FvOk.get (k:=k) hf.2 (by simpa using h)
noncomputable def st0 (nc:Nat)(fv:List (Nat×Str))(σ:St):St:=List.replicate nc none++fv.map λp=>σ.getD p.1 none
noncomputable def Aay (J:It)(st:St)(g:TG)(tt:TT)(te:TE)(Q:VK)(H1:Hp):Prop:=
 ∃ W:Nat->Nat->List V->St->Hp->Prop,(∃ m,W 0 m [] st H1)∧∀ i m ys σ' H',W i m ys σ' H'->ys.length≤sizeLine ∧
  ((J.stop i H'∧∀ p,H' p=none->Q (.ref p) (upd H' p (.lst ys))) ∨
   (J.go i H'∧∀ x H2,J.yld i H' x H2->g x σ' H2 fun σ3 H3=>tt σ3 H3 λb H4 =>
    if b=true then te σ3 H4 λv H5=>∃ m',m'<m∧W (i+1) m' (ys++[v]) σ3 H5 else ∃ m',m'<m∧W (i+1) m' ys σ3 H4))
noncomputable def tLC (wi:TI)(nc:Nat)(fv:List (Nat×Str))(g:TG)(tt:TT)(te:TE):TE:=fun σ H Q=>wi σ H λJ H1=>Aay J (st0 nc fv σ) g tt te Q H1
theorem GR {scope:Scope}{env:Env}{x:Str}(hcell:∀ y∈scope.names,y.2≠.cell)
  (h:(relabel scope env).names.lookup x=some .cell∨(relabel scope env).names.lookup x=some .free):(x,NameKind.free)∈scope.names:=by
 have key:∀ k,(relabel scope env).names.lookup x=some k->k=.cell∨k=.free->(x,NameKind.free)∈scope.names:=λk hk hkk=>by
  have hm:=BS hk
  obtain ⟨⟨n,k'⟩,hy,e⟩:=Ax.mp hm
  dsimp only at e
  by_cases hc:(k'==NameKind.free&&env.scope.kind==.function&&env.kindOf n==some .cell)=true
  ·rw [if_pos hc] at e
   cases e
   have:k'=.free:=by
    rw [Ab,Ab] at hc
    exact beq_iff_eq.mp hc.1.1
   subst this
   exact hy
  ·rw [if_neg hc] at e
   cases e
   rcases hkk with e|e
   ·subst e;exact absurd rfl (hcell _ hy)
   ·subst e;exact hy
 rcases h with h|h
 ·exact key _ h (.inl rfl)
 ·exact key _ h (.inr rfl)
theorem Un.lay {fs ex:List Addr}{H H':Hp}{h h':Heap}{D:Addr}{o:HO}(u:Un fs ex H H' h h')(hD:h.objs.size≤D)(hn:H' D=none):Un fs ex H (upd H' D o) h h' where
 keep:=u.keep
 slot:=u.slot
 free:=λb ob q n hx=>by
  rw [Dj (Ar (Aw (Ak q) hD))]
  exact u.free b ob q n hx
 there:=u.there
 tups:=λb xs q=>by have:=u.tups b xs q;rw [Dj (CP this hn)];exact this
 frzs:=λb ob xs q=>by have:=u.frzs b ob xs q;rw [Dj (CP this hn)];exact this
 tbls:=λb ps q=>by
  obtain ⟨m,e⟩:=u.tbls b ps q
  exact ⟨m,by rw [Dj (CP e hn)];exact e⟩
theorem HOk.lay {P:Program}{w:World}{H:Hp}{h:Heap}{D:Addr}{o:HO}(x:HOk P w H h)(hn:H D=none)(new:ObjOk P w (upd H D o) h D o):HOk P w (upd H D o) h:=λb u e=>by
 by_cases hb:b=D
 ·subst hb;rw [Ec] at e;cases e;exact new
 ·rw [Dj hb] at e
  exact (x b u e).stay (λc v _ q=>q) (λc q=>by rw [Dj (CP q hn)];exact q) λc xs q=>by rw [Dj (CP q hn)];exact q
theorem Un.same {fs ex:List Addr}{H H':Hp}{h h1 h2:Heap}{C:Addr}(u:Un fs ex H H' h h1)(hC:h.objs.size≤C)(sb:Heap.SameBut C h1 h2):Un fs ex H H' h h2:=by
 have ne:∀ b o,h.get? b=some o->b≠C:=λb o e=>Ar (Aw (Ak e) hC)
 refine ⟨λb o q n hb hx=>(sb.2 b (ne b o q)).trans (u.keep b o q n hb hx),λb o q n hb hx=>?_,u.free,λb o q hx=>?_,u.tups,u.frzs,u.tbls⟩
 ·obtain ⟨sl,e⟩:=u.slot b o q n hb hx
  exact ⟨sl,(sb.2 b (ne b o q)).trans e⟩
 ·obtain ⟨o',e⟩:=u.there b o q hx
  exact ⟨o',(sb.2 b (ne b o q)).trans e⟩
theorem HOk.same {P:Program}{w:World}{H:Hp}{h1 h2:Heap}{C:Addr}(x:HOk P w H h1)(hn:H C=none)(sb:Heap.SameBut C h1 h2):HOk P w H h2:=λb u e=>by
 refine (x b u e).stay (λc v hc q=>(sb.2 c ?_).trans q) (λ_ q=>q) λ_ _ q=>q
 rcases hc with rfl|hc
 ·exact CP e hn
 ·exact CP hc hn
section
variable {X:Cx} {tg iter elt:Expr} {ifs:List Expr} {scope:Scope} {pos:Pos} {wi:TI} {own:List Str} {fv:List (Nat×Str)} {g:TG} {tt:TT} {te:TE}
structure KS (X:Cx) (scope:Scope) (fv:List (Nat×Str)):Prop where
 calm:X.calm=true
 kind:scope.kind=.function
 cell:∀ y∈scope.names,y.2≠.cell
 names:∀ y∈scope.names,y.2=.local->scope.names.lookup y.1=some .local
 free:∀ y∈scope.names,y.2=.free->X.env.kindOf y.1=some .cell∨X.env.kindOf y.1=some .free
 fv:FvOk X (relabel scope X.env) fv
theorem Ln {pins:List (Addr×Obj)}{σ:St}{H:Hp}{s:Shared}{fp:List Addr}{cl:List (Str×Addr)}{h₁:Heap}{own:List Str}(I:Inv X pins σ H s)(L:KS X scope fv)(hf:∀ b∈fp,IV X pins H b)(hfo:∀ b∈fp,∃ o,s.heap.get? b=some o)
  (hsub:∀ x c,cl.lookup x=some c->X.env.cells.lookup x=some c) (hhas:∀ y∈scope.names,y.2=.free->∃ c,cl.lookup y.1=some c)
  (hns:h₁.Ns (s.heap.objs.size+1) (λx=>([]:List (Str×Value)).reverse.lookup x)) (hold:∀ b o,s.heap.get? b=some o->h₁.get? b=some o) (hD:h₁.get? s.heap.objs.size=some { cls:=.type "list",data:=.seq #[] 0 }) {tk:Nat} :
  Inv (CF X scope (own++fv.map (·.2)) cl (s.heap.objs.size+1) s H fp) [(s.heap.objs.size,{ cls:=.type "list",data:=.seq #[] 0 })] (st0 own.length fv σ) H { s with heap:=h₁,toks:=tk }:=by
 have nst:∀ b,s.heap.objs.size≤b->b∉frs X.stack:=λb hb hm=>by
  rcases An.mp (I.stkSub b hm) with e|e
  ·exact absurd I.lt (by rw [← e];exact Nat.not_lt.mpr hb)
  ·exact I.nofs hb e
 have fpst:∀ b∈fp,b∉frs X.stack:=λb hb hm=>by
  obtain ⟨_,f1,f2,_⟩:=hf b hb
  rcases An.mp (I.stkSub b hm) with e|e
  ·exact f1 e
  ·exact f2 e
 have celllt:∀ x c,cl.lookup x=some c->c<s.heap.objs.size:=λx c e=>by
  obtain ⟨v,z⟩:=I.cell x c (hsub x c e)
  exact z.lt
 refine ⟨⟨I.ok.mod,L.kind,I.ok.glob,I.ok.blt,Bc _,λx y c h1 h2=>I.ok.inj x y c (hsub _ _ h1) (hsub _ _ h2),λx hx=>hhas (x,.free) (GR L.cell hx) rfl,λ_ _ z=>Bool.noConfusion z,I.ok.hd,I.ok.frames,.inl rfl,
   λb hb=>⟨?_,λx c e z=>?_⟩,I.bs,AK I.ok.bsz I.sz,λb o e hb=>?_,fpst,I.stack,I.stkFree⟩,
  rfl,I.bare,Un.kept hold,⟨_,hns,λi x v e1 e2 e3=>?_⟩,λx c e=>?_,I.hok.fresh (Bc _),λx c e=>I.freeC x c (hsub x c e),λp hp=>?_,I.hok.kept hold,?_⟩
 ·obtain ⟨o,e⟩:=hfo b hb
  exact Ar (A0 (Ak e))
 ·exact (hf b hb).2.2.2.2.1 x c (hsub x c e) z
 ·obtain ⟨_,_,_,f3,_⟩:=hf b hb
  rcases f3 with f3|f3
  ·exact I.ok.noex b o e f3
  ·exact absurd (Aw (Ak e) (AK I.ok.bsz f3)) (A6 _)
 ·-- a name that is read
  have e1':(own++fv.map (·.2))[i]? = some x:=e1
  unfold st0 at e2
  by_cases hi:i<own.length
  ·rw [Av (by simpa using hi),Bw] at e2
   split at e2<;>cases e2
  ·rw [AS (by simpa using hi),List.length_replicate,Au] at e2
   rw [AS (by simpa using hi),Au] at e1'
   cases hp:fv[i-own.length]? with
   | none=>rw [hp] at e1';cases e1'
   | some p =>
    rw [hp] at e1' e2
    have ex:p.2=x:=AJ e1'
    have ev:σ.getD p.1 none=some v:=AJ e2
    obtain ⟨q1,q2,q3⟩:=L.fv.get hp
    rw [ex] at q1 q2 q3
    have hσ:σ[p.1]? = some (some v):=by
     rw [AF] at ev
     cases q:σ[p.1]? with
     | none=>rw [q] at ev;cases ev
     | some w=>rw [q] at ev;exact congrArg some ev
    obtain ⟨m,_,hl⟩:=I.loc
    obtain ⟨u,r,l⟩:=hl p.1 x v q1 hσ (by rcases q2 with z|z;exact .inr (.inl z);exact .inr (.inr z))
    refine ⟨u,r,.inr ⟨q3,?_⟩⟩
    rcases l with ⟨k,_⟩|⟨_,c,ec,z⟩
    ·exfalso
     have k':X.env.scope.names.lookup x=some .local:=k
     rcases q2 with z|z<;>rw [k'] at z<;>cases z
    ·obtain ⟨c',ec'⟩:=hhas (x,.free) (GR L.cell q3) rfl
     have:c'=c:=AJ ((hsub x c' ec').symm.trans ec)
     subst this
     obtain ⟨o,ho,hd⟩:=z
     exact ⟨c',ec',o,hold _ _ ho,hd⟩
 ·obtain ⟨v,o,ho,hd⟩:=I.cell x c (hsub x c e)
  exact ⟨v,o,hold _ _ ho,hd⟩
 ·have e:p=(s.heap.objs.size,{ cls:=.type "list",data:=.seq #[] 0 }):=by simpa [CF] using hp
  subst e
  exact ⟨hD,I.hok.fresh (Ah _),Ar (AQ _),nst _ (Ah _),λv z=>by cases z⟩
 ·show (st0 own.length fv σ).length=(own++fv.map (·.2)).length
  unfold st0
  simp
theorem ZN (L:KS X scope fv)(hi:PI X tg iter wi)
  (hg:∀ cl C s₁ H₁ fp,PG (CF X scope (own++fv.map (·.2)) cl C s₁ H₁ fp) tg g)
  (ht:∀ cl C s₁ H₁ fp,PF (CF X scope (own++fv.map (·.2)) cl C s₁ H₁ fp) ifs tt)
  (he:∀ cl C s₁ H₁ fp,PE (CF X scope (own++fv.map (·.2)) cl C s₁ H₁ fp) elt te)
  (hs:∀ x,foldedSetIterable iter X.env x=pure x:=by intro _;rfl) :
  PE X (.ListComp elt [⟨tg,iter,ifs,0⟩] scope pos) (tLC wi own.length fv g tt te):=by
 intro pins s σ H Q I h
 rw [eval_ListComp]
 obtain ⟨cl,hclos,hsub,hhas⟩:=Je (scope:=scope) (env:=X.env) λy hy hf=>I.ok.has y.1 (L.free y hy hf)
 refine wpAny_comprehension_free (use:=none) rfl hs hclos L.kind L.names (thn (hi pins s σ H _ I h) λv s1 h1=>thn h1 λitv s2 h2=>?_)
 obtain ⟨it,fp,tn,J,H2,e,I2,T,st2,f2,W,⟨m0,w0⟩,turn⟩:=h2
 subst e
 have hfo:∀ b∈fp,∃ o,s2.heap.get? b=some o:=λb hb=>let ⟨o,e,_⟩:=T.obj _ _ st2 b hb;⟨o,e⟩
 refine AO (wpAny_newFunctionEnv L.cell (by intro y hy;simp at hy) (λh₁ hns₁ hsb₁=>?_) L.kind)
 dsimp only at hns₁ hsb₁ ⊢
 have hCe:(s2.heap.push { cls:=.type "list",dict:=none,data:=.seq ([]:List Value).toArray }).objs.size=s2.heap.objs.size+1:=Bt _ _
 rw [hCe] at hns₁ hsb₁ ⊢
 have old:∀ b o,s2.heap.get? b=some o->h₁.get? b=some o:=λb o e=>hsb₁.extBut b o (Ar (A0 (Ak e))) (Ad _ (Ad _ e))
 have hD₁:h₁.get? s2.heap.objs.size=some { cls:=.type "list",data:=.seq #[] 0 }:=hsb₁.extBut _ _ (Ar (AQ _)) (Ad _ (Am _ rfl))
 have I4:=Ln (own:=own) (tk:=s2.toks+([]:List (Str×Value)).length) I2 L f2 hfo hsub hhas hns₁ old hD₁
 generalize hXc:CF X scope (own++fv.map (·.2)) cl (s2.heap.objs.size+1) s2 H2 fp=Xc at I4
 have hg':=hg cl (s2.heap.objs.size+1) s2 H2 fp
 have ht':=ht cl (s2.heap.objs.size+1) s2 H2 fp
 have he':=he cl (s2.heap.objs.size+1) s2 H2 fp
 have st4:tn 0 h₁:=T.keep _ _ _ st2 λb _ o e=>old b o e
 have celllt:∀ x c,cl.lookup x=some c->c<s2.heap.objs.size:=λx c e=>by
  obtain ⟨v,z⟩:=I2.cell x c (hsub x c e)
  exact z.lt
 have nst:s2.heap.objs.size∉frs X.stack:=λhm=>by
  rcases An.mp (I2.stkSub _ hm) with e|e
  ·exact absurd I2.lt (by rw [← e];exact A6 _)
  ·exact I2.nofs (Ah _) e
 rw [hXc] at hg' ht' he'
 have loop:∀ s4:Shared,s4={ s2 with heap:=h₁,toks:=s2.toks+([]:List (Str×Value)).length } ->
   codeAny (model X.prog X.w) X.A (.compLoop (.ListComp elt [⟨tg,iter,ifs,0⟩] scope pos) 0 (.ref it) (.ref s2.heap.objs.size) (compEnvC scope cl (s2.heap.objs.size+1) X.env))
    (compPost (model X.prog X.w) X.A X.xe none (EP X pins σ Q) (.ref s2.heap.objs.size) (s2.heap.objs.size+1)) s4:=by
  rintro s4 rfl
  have fpok:∀ {pl:List (Addr×Obj)} {H':Hp},(∀ p∈pl,p.1=s2.heap.objs.size)->(∀ b∈fp,H' b=none)->∀ b∈fp,IV Xc pl H' b:=λ{pl H'} hpl hn b hb=>by
   obtain ⟨o,eo⟩:=hfo b hb
   have blt:=Ak eo
   subst hXc
   refine ⟨hn b hb,Ar (A0 blt),λhm=>?_,.inl hb,λx c e=>(f2 b hb).2.2.2.2.1 x c (hsub x c e),λp hp=>?_⟩
   ·obtain ⟨_,f1,f3,_⟩:=f2 b hb
    rcases An.mp (I2.stkSub b hm) with e|e
    ·exact f1 e
    ·exact f3 e
   ·have hp':p∈pl:=by simpa [CF] using hp
    rw [hpl p hp']
    exact BH blt
  have xP:Xc.prog=X.prog:=by subst hXc;rfl
  have xw:Xc.w=X.w:=by subst hXc;rfl
  have xK:Xc.K=X.K:=by subst hXc;rfl
  have xA:Xc.A=X.A:=by subst hXc;rfl
  have xc:Xc.calm=true:=by subst hXc;exact L.calm
  have xx:Xc.xe=λ_ _=>False:=by subst hXc;rfl
  have xe:Xc.env=compEnvC scope cl (s2.heap.objs.size+1) X.env:=by subst hXc;rfl
  have xs:Xc.s₀=s2:=by subst hXc;rfl
  have xH:Xc.H₀=H2:=by subst hXc;rfl
  have xf:Xc.fs=frs X.stack:=by subst hXc;rfl
  have xex:Xc.ex=fp:=by subst hXc;rfl
  have xpn:Xc.pn=[]:=by subst hXc;rfl
  refine Kx (λn s'=>∃ i ys its k σ' H',Inv Xc [(s2.heap.objs.size,{ cls:=.type "list",data:=.seq its k })] σ' H' s'∧Vals ys its.toList∧tn i s'.heap∧(∀ b∈fp,H' b=none)∧W i n ys σ' H') ?_ m0
   ⟨0,[],#[],0,_,H2,I4,.nil,st4,λb hb=>(f2 b hb).1,w0⟩
  rintro n s5 ⟨i,ys,its,k,σ5,H5,I5,r5,st5,fr5,w5⟩
  obtain ⟨hlen,hst⟩:=turn i n ys σ5 H5 w5
  have hf5:=fpok (pl:=[(s2.heap.objs.size,{ cls:=.type "list",data:=.seq its k })]) (λp hp=>by simp at hp;rw [hp]) fr5
  rcases hst with ⟨stop,qn⟩|⟨go,step⟩
  ·-- the end
   have d:=T.done Xc xP xw xK xc i _ s5 σ5 H5 (λ_ _=>False) I5 hf5 st5 stop
   rw [xA] at d
   refine thn d λr s6 ⟨hr,I6⟩=>?_
   subst hr
   obtain ⟨m,hn,_⟩:=I6.loc
   rw [xe] at hn
   refine ⟨m,hn,λh' sb=>?_⟩
   obtain ⟨eD,nD,_⟩:=I6.pin (s2.heap.objs.size,_) (Aj _ (Al.mpr rfl))
   have nC:H5 (s2.heap.objs.size+1)=none:=by have:=I6.free;rw [xe] at this;exact this
   refine ⟨.ref s2.heap.objs.size,upd H5 s2.heap.objs.size (.lst ys),?_,rfl,qn _ nD⟩
   have U:Un (frs X.stack) fp H2 H5 s2.heap s6.heap:=by have:=I6.base;rw [xf,xex,xs,xH] at this;exact this
   have ok6:HOk X.prog X.w H5 s6.heap:=by have:=I6.hok;rw [xP,xw] at this;exact this
   have eD':h'.get? s2.heap.objs.size=some { cls:=.type "list",data:=.seq its k }:=(sb.2 _ (Ar (AQ _))).trans eD
   refine I2.call' (s':={ s6 with heap:=h' }) (by have:=I6.os;rw [xs] at this;exact this) ((U.same (Bc _) sb).lay (Ah _) nD) ((ok6.same nC sb).lay nD ?_) I6.bare λb hb=>?_
   ·exact ⟨hlen,its.toList,k,r5,by simpa using eD'⟩
   ·obtain ⟨_,f1,_,f3,f4,f5⟩:=f2 b hb
    exact ⟨f3,f1,f4,f5⟩
  ·have d:=T.item Xc xP xw xK xc i _ s5 σ5 H5 (λ_ _=>False) I5 hf5 st5 go
   rw [xA] at d
   refine thn d λr s6 ⟨u,hr,h6⟩=>?_
   subst hr
   refine thn h6 λ_ s7 ⟨x,H7,I7,r7,y7,st7,fr7⟩=>?_
   have I7':=I7.pinned (fpok (pl:=[(s2.heap.objs.size,{ cls:=.type "list",data:=.seq its k })]) (λp hp=>by simp at hp;rw [hp]) fr7) (T.obj _ _ st7)
   have a:=hg' _ s7 σ5 H7 x u _ I7' r7 (step x H7 y7)
   rw [xP,xw,xA,xx,xe] at a
   refine thn a λ_ s8 ⟨σ8,H8,I8,q8⟩=>?_
   have b:=ht' _ s8 σ8 H8 _ I8 q8
   rw [xP,xw,xA,xx,xe] at b
   refine thn b λok s9 ⟨H9,I9,q9⟩=>?_
   have back:∀ {s':Shared} {σ':St} {H':Hp},Inv Xc ([(s2.heap.objs.size,{ cls:=.type "list",data:=.seq its k })]++HG fp s7.heap) σ' H' s' ->
     tn (i+1) s'.heap∧(∀ b∈fp,H' b=none)∧s'.heap.get? s2.heap.objs.size=some { cls:=.type "list",data:=.seq its k }∧H' s2.heap.objs.size=none:=λ{s' σ' H'} J'=>by
    refine ⟨T.keep _ _ _ st7 λb hb o e=>(J'.pin (b,o) (Aj _ (Aj _ (EH hb e)))).1,λb hb=>?_,?_,?_⟩
    ·obtain ⟨o,e,_⟩:=T.obj _ _ st7 b hb
     exact (J'.pin (b,o) (Aj _ (Aj _ (EH hb e)))).2.1
    ·exact (J'.pin (s2.heap.objs.size,_) (Aj _ (AZ _ (Al.mpr rfl)))).1
    ·exact (J'.pin (s2.heap.objs.size,_) (Aj _ (AZ _ (Al.mpr rfl)))).2.1
   cases ok with
   | false =>
    rw [if_neg AB] at q9 ⊢
    obtain ⟨m',hm,w9⟩:=q9
    obtain ⟨b1,b2,_,_⟩:=back I9
    exact ⟨m',hm,i+1,ys,its,k,σ8,H9,I9.unpinned,r5,b1,b2,w9⟩
   | true =>
    rw [if_pos rfl] at q9 ⊢
    have c:=he' _ s9 σ8 H9 _ I9 q9
    rw [xP,xw,xA,xx,xe] at c
    refine thn c λu' s10 ⟨y,H10,I10,r10,m',hm,w10⟩=>?_
    obtain ⟨b1,b2,b3,b4⟩:=back I10
    have hz:its.size≤sizeLine:=by
     have e:=r5.length
     simp only [Array.length_toList] at e
     omega
    refine wpAny_list_append_plain (hsz:=hz) ⟨k,b3⟩ λh' hl' sb=>?_
    obtain ⟨k',hk'⟩:=hl'
    have I11:Inv Xc [] σ8 H10 s10:=I10.pins_of λp hp=>nomatch hp
    have nDL:s2.heap.objs.size≠Xc.env.locals:=by rw [xe];exact Ar (AQ _)
    have I12:Inv Xc [] σ8 H10 { s10 with heap:=h' }:=I11.turned (t':=s10.toks) (it:=s2.heap.objs.size) (λb o hb e=>(sb.2 b hb).trans e) b4 nDL
     (.inr (by rw [xs];exact Ah _)) (λx c e=>by rw [xe] at e;exact Ar (celllt x c e)) (λp hp=>by rw [xpn] at hp;exact nomatch hp)
    have I13:Inv Xc [(s2.heap.objs.size,{ cls:=.type "list",data:=.seq (its.push u') k' })] σ8 H10 { s10 with heap:=h' }:=I12.pins_of λp hp=>by
     have e:p=(s2.heap.objs.size,{ cls:=.type "list",data:=.seq (its.push u') k' }):=by simpa using hp
     subst e
     exact ⟨hk',b4,nDL,by rw [xf];exact nst,λv z=>by cases z⟩
    refine ⟨m',hm,i+1,ys++[y],its.push u',k',σ8,H10,I13,?_,T.keep _ _ _ b1 λb hb o e=>(sb.2 b ?_).trans e,b2,w10⟩
    ·rw [BM]
     exact r5.append (.cons r10 .nil)
    ·obtain ⟨o',eo⟩:=hfo b hb
     exact Ar (Ak eo)
 exact codeAny_compStart_list (loop _ rfl) (T.self _ 0 _ _ _ st4 (loop _ rfl))
end
section
variable {X:Cx}
theorem Tp:OpR X (compareOp .Is) (λx y H Q=>∃ a b,x=.bl a∧y=.bl b∧Q (.bl (a==b)) H):=by
 intro pins s σ H x y v u Q I rx ry h
 obtain ⟨a,b,rfl,rfl,q⟩:=h
 cases rx
 cases ry
 exact is_bool (JS I q rfl)
theorem Oj:OpR X (compareOp .IsNot) (λx y H Q=>∃ a b,x=.bl a∧y=.bl b∧Q (.bl (a != b)) H):=by
 intro pins s σ H x y v u Q I rx ry h
 obtain ⟨a,b,rfl,rfl,q⟩:=h
 cases rx
 cases ry
 exact isnot_bool (JS I q rfl)
theorem Vf {bs:List Bool}{us:List Value}(r:Vals (bs.map V.bl) us){i:Nat}{v:Value}(e:us[i]? = some v):∃ b,bs[i]? = some b∧v=.bool b:=by
 have hl:=r.length
 rw [Ag] at hl
 have hi:i<us.length:=(Af.mp e).1
 obtain ⟨u,hu,ru⟩:=r.get (i:=i) (x:=V.bl (bs[i]'(by omega))) (by simp)
 rw [e] at hu
 cases hu
 exact ⟨_,by simp,ru⟩
theorem OP (bs:List Bool):((List.range bs.length).all λi=>(bs[i]?).getD true)=bs.all id:=by
 refine Bool.eq_iff_iff.mpr ⟨λh=>Ao.mpr λb hb=>?_,λh=>Ao.mpr λi hi=>?_⟩
 ·obtain ⟨k,lk,rfl⟩:=List.mem_iff_getElem.mp hb
  simpa [lk] using Ao.mp h k (BI.mpr lk)
 ·have lk:i<bs.length:=BI.mp hi
  simpa [lk] using Ao.mp h bs[i] (BW lk)
theorem SF (hc:X.calm=true):GY X (.builtin "all") (λxs H Q=>∃ (p:Addr) (bs:List Bool),xs=[.ref p]∧SqL X.K H p (bs.map V.bl)∧Q (.bl (bs.all id)) H):=by
 intro pins s σ H xs us Q I r h
 obtain ⟨p,bs,rfl,hq,q⟩:=h
 obtain ⟨u,rfl,ru⟩:=vals1 r
 cases ru
 obtain ⟨its,rv,pl,hz⟩:=I.list hq
 obtain ⟨m,F⟩:=I.fr
 have hlt:p<s.heap.objs.size:=by obtain ⟨o,n,e,_⟩:=pl;exact Ak e
 refine call_all_walk (wpAny_pyIter_list pl.isList ?_)
 refine ⟨s.heap.objs.size,[s.heap.objs.size,p],[s.heap.objs.size],its.toArray.size,_,_,λi=>(bs[i]?).getD true,rfl,
  Walks.list (A:=X.A.in1) (I.ok.hd hc) _ p (Ar hlt) its.toArray,⟨⟨_,Am _ rfl,rfl,rfl⟩,pl.isList.push _⟩,λi v s' Q' E' hP hQ=>?_,λh' tk hk=>?_⟩
 ·obtain ⟨b,e,rfl⟩:=Vf rv (i:=i) (v:=v) (by simpa using hP)
  exact Bm (by simpa only [e,Option.getD_some] using hQ)
 ·have e:((List.range its.toArray.size).all λi=>(bs[i]?).getD true)=bs.all id:=by
   rw [Ai,← rv.length,Ag]
   exact OP bs
  rw [e]
  exact ⟨.bl _,H,I.kept λb x e=>hk b x (λhm=>absurd (Ak e) (by rw [Al.mp hm];exact A6 _)) (Ad _ e),rfl,q⟩
theorem Pk:OpR X (binaryOp .Mult) (λx y H Q=>∃ (z:Str) (n:Int),x=.str z∧y=.int n∧MulOk z n∧Q (.str (Txt.mul z n)) H):=by
 intro pins s σ H x y v u Q I rx ry h
 obtain ⟨z,n,rfl,rfl,hok,q⟩:=h
 obtain ⟨t,rfl⟩:=rx
 obtain ⟨t',rfl⟩:=ry
 exact SB.mul hok λt' k=>⟨.str _,H,I.tok _,⟨_,rfl⟩,q⟩
theorem part_of {v:Value}{o:Option Int}(p:IsPart v o):∃ l:Option (Int×Tok),v=partValue l∧l.map (·.1)=o:=by
 cases p with
 | none=>exact ⟨none,rfl,rfl⟩
 | int i t=>exact ⟨some (i,t),rfl,rfl⟩
theorem X1:SlR X (λx lo hi H Q=>∃ z:Str,x=.str z∧z.length≤sizeLine∧Q (.str (Txt.slice z lo hi)) H):=by
 intro pins s σ H x v vl vu lo hi sl Q I rx hs pl pu h
 obtain ⟨z,rfl,hz,q⟩:=h
 obtain ⟨t,rfl⟩:=rx
 obtain ⟨l,rfl,rfl⟩:=part_of pl
 obtain ⟨u,rfl,rfl⟩:=part_of pu
 refine ⟨"str",_,PySem.F.slot_str_getitem.lookup,typeIs_str _ _ _,?_⟩
 refine wpAny_getItem_str_slice (l:=l) (u:=u) (st:=none) hs rfl (post_val_or_str ⟨AK (Txt.slice_le z _ _) hz,λt' k=>?_⟩)
 exact ⟨.str _,H,I.tok _,⟨_,rfl⟩,q⟩
end
section
variable {X:Cx} {pins:List (Addr×Obj)} {σ:St} {H:Hp} {s:Shared} {h':Heap}
theorem Inv.turnedL {t':Nat}{ch:List Addr}(I:Inv X pins σ H s)(k:∀ b o,b∉ch->s.heap.get? b=some o->h'.get? b=some o)(hf:∀ b∈ch,IV X pins H b):Inv X pins σ H { s with heap:=h',toks:=t' }:=by
 have nit:∀ b u,H b=some u->b∉ch:=λb u e z=>by rw [(hf b z).1] at e;cases e
 refine I.step (g':=s.gens) (d':=s.drawn) (ch:=ch) (λb hb=>?_) (λb o _ _ hc e _=>k b o hc e) (λb o _ _ hc e _=>⟨o.slots,k b o hc e⟩) (λ_ _ _ _ n=>n) (λb o hc e=>⟨o,k b o hc e⟩)
  (λ_ _ e=>e) (λ_ _ _ e=>e) (λb ps e=>⟨#[],by rw [e];simp⟩) (λm hm=>?_) (λb u e=>?_) I.bare
 ·obtain ⟨_,f1,_,f3,f4,f5⟩:=hf b hb
  exact ⟨f3,f1,f4,f5⟩
 ·obtain ⟨o,es,ep,ho,r⟩:=hm
  exact ⟨o,es,ep,k _ o (λz=>(hf _ z).2.1 rfl) ho,r⟩
 ·refine (I.hok b u e).stay (λc v hc q=>k c v ?_ q) (λ_ q=>q) λ_ _ q=>q
  rcases hc with z|z
  ·rw [z];exact nit b u e
  ·exact nit c _ z
end
noncomputable def Its (x:Str):It:=⟨λi _=>i<x.cps.size,λi H v H'=>H'=H∧∃ c,x.cps[i]? = some c∧v=.str ⟨#[c]⟩,λi _=>i=x.cps.size⟩
theorem TN {P:Program}{w:World}{K:PySem.W.Frag}{tg:Expr}{ty:String}(x:Str)(t:Tok)(it:Addr)
  (W:∀ A:Around,A.handled=none->Walks P w A it [it] [it] x.cps.size (SignAt x) (λi h=>h.IsStrIter it ty x t i)) (W0:∀ A:Around,∀ i (s:Shared) (Q:Value->Shared->Prop) (E:Value->Shared->Prop),s.heap.IsStrIter it ty x t i->Q (.ref it) s->wpAny (model P w) A (pyIter (.ref it)) Q E s)
  (hn:["enumerate","zip","dict_itemiterator","dict_reverseitemiterator","odict_iterator","itertools.zip_longest","itertools.pairwise"].contains ty=false):Turn P w K tg (Its x) [it] it (λi h=>h.IsStrIter it ty x t i) where
 mem:=by simp
 obj:=λi h st b hb=>by
  have e:b=it:=by simpa using hb
  subst e
  obtain ⟨o,e,c,d⟩:=st
  exact ⟨o,e,λv z=>by rw [d] at z;cases z⟩
 keep:=λi h h' st k=>by
  obtain ⟨o,e,r⟩:=st
  exact ⟨o,k it (by simp) o e,r⟩
 item:=by
  intro X hP hw hK hc i pins s σ H E I hf st hg
  subst hP hw hK
  refine (W X.A (I.ok.hd hc)).item i s _ _ hg st λv h' tk hv st' kk=>?_
  obtain ⟨c,u,hc',rfl⟩:=hv
  have I1:Inv X pins σ H { s with heap:=h',toks:=tk }:=I.turnedL kk hf
  obtain ⟨o,e,c2,d⟩:=id st'
  exact ⟨_,rfl,QH (s:={ s with heap:=h',toks:=tk }) e c2 d hn ⟨.str ⟨#[c]⟩,H,I1,⟨u,rfl⟩,⟨rfl,c,hc',rfl⟩,st',λb hb=>(hf b hb).1⟩⟩
 done:=by
  intro X hP hw hK hc i pins s σ H E I hf st hg
  subst hP hw hK
  have e:i=x.cps.size:=hg
  subst e
  exact (W X.A (I.ok.hd hc)).done s _ _ st λh' tk kk=>⟨rfl,I.turnedL kk hf⟩
 self:=λA i s Q E st h=>W0 A i s Q E st h
noncomputable def Abw (tl:TE):TI:=fun σ H R=>tl σ H λx H1=>∃ z,x=.str z∧R (Its z) H1
theorem X3 {X:Cx}{tg l:Expr}{tl:TE}(hl:PE X l tl):PI X tg l (Abw tl):=by
 intro pins s σ H R I h
 refine thn (hl pins s σ H _ I h) λv s1 ⟨x,H1,I1,r1,q1⟩=>?_
 obtain ⟨z,e,q⟩:=q1
 subst e
 obtain ⟨t,rfl⟩:=r1
 have fin:∀ ty:String,(∀ A:Around,A.handled=none->Walks X.prog X.w A s1.heap.objs.size [s1.heap.objs.size] [s1.heap.objs.size] z.cps.size (SignAt z) (λi h=>h.IsStrIter s1.heap.objs.size ty z t i)) ->
   (∀ A:Around,∀ i (s:Shared) (Q:Value->Shared->Prop) (E:Value->Shared->Prop),s.heap.IsStrIter s1.heap.objs.size ty z t i->Q (.ref s1.heap.objs.size) s->wpAny (model X.prog X.w) A (pyIter (.ref s1.heap.objs.size)) Q E s) ->
   ["enumerate","zip","dict_itemiterator","dict_reverseitemiterator","odict_iterator","itertools.zip_longest","itertools.pairwise"].contains ty=false ->
   PIE X pins σ tg R (.ref s1.heap.objs.size) { s1 with heap:=s1.heap.push { cls:=.type ty,data:=.fields #[.str z t,.int 0 0] } }:=λty W W0 hn=>by
  refine ⟨s1.heap.objs.size,[s1.heap.objs.size],_,_,H1,rfl,I1.kept (t':=s1.toks) λb o e=>Ad _ e,TN z t _ W W0 hn,⟨_,Am _ rfl,rfl,rfl⟩,λb hb=>?_,q⟩
  have e:b=s1.heap.objs.size:=by simpa using hb
  subst e
  exact I1.fpOk (Ah _) (I1.hok.fresh (Ah _))
 cases ha:z.cps.all (·<128)
 ·exact wpAny_pyIter_wide ha (fin _ (λA hA=>Walks.strWide hA _ z t) (λA i s Q E st h=>wpAny_pyIter_striter_wide st h) (by decide))
 ·exact wpAny_pyIter_ascii ha (fin _ (λA hA=>Walks.strAscii hA _ z t) (λA i s Q E st h=>wpAny_pyIter_striter_ascii st h) (by decide))
section
variable {prog:Program} {w:World} {A:Around} {E:Value->Shared->Prop} {s:Shared}
theorem VD:isSubtype (.type "tuple") (.type "set")=pure false:=(by rw [isSubtype_type];kernel_rfl)
theorem PL:isSubtype (.type "tuple") (.type "frozenset")=pure false:=(by rw [isSubtype_type];kernel_rfl)
noncomputable abbrev Jn (led:Bool):Obj:={ cls:=.type "set",dict:=none,data:=.set #[] 0 (.fresh 0 0 led) }
theorem call_cls {T nw ini:String}{args:List Value}{Q Q1:Value->Shared->Prop}(ft:TypeCalled T nw ini)(hct:checkTypeCall T ⟨args,[]⟩=pure ())
  (hn:codeAny (model prog w) A.in1 (.call (.builtin nw) ⟨.type T::args,[]⟩) (wants Q1 E) s)
  (hi:∀ obj z,Q1 obj z->z.TypeIs obj T∧codeAny (model prog w) A.in1 (.call (.builtin ini) ⟨obj::args,[]⟩) (wants (λr z'=>r=.none∧Q obj z') E) z) :
  wpAny (model prog w) A (PySem.call (.type T) args) Q E s:=by
 have m1:=ft.made
 have m2:=ft.sub
 have m3:=ft.notType
 have m4:=ft.canCreate
 obtain ⟨_,_,m5⟩:=ft.mro
 have cl:wpAny (model prog w) A.in1 (callAny (.type T) ⟨args,[]⟩) (λfin z=>match fin with
   | .done f=>wants Q E (.ok f) z
   | .again c'=>c'.quiet=true∧codeAny (model prog w) A c' (wants Q E) z) (λe z=>wants Q E (.error e) z) s:=by
  refine Ac (And.intro (Code.quiet_builtin _ (by decide +kernel)) (Bj PySem.F.entry_type_call ?_))
  rw [Around.under_plain (weight_type_call_type T args []) (by rfl)]
  repeat (any_goals (first|wp_step|assumption))
  refine codeAny_mono hn λr z hz=>?_
  cases r with
  | error e=>exact hz
  | ok fl =>
   cases fl<;>first|exact hz.elim|skip
   rename_i obj
   obtain ⟨hT,hc⟩:=hi _ _ hz
   have m6:=ft.init.lookup
   have m7:=ft.init.bind obj
   repeat (any_goals (first|wp_step|assumption))
   refine codeAny_mono hc λr2 z2 h2=>?_
   cases r2 with
   | error e=>exact h2
   | ok f2 =>
    cases f2<;>first|exact h2.elim|skip
    obtain ⟨e0,hq⟩:=h2
    subst e0
    repeat (any_goals (first|wp_step|assumption))
 exact wpAny_call (codeAny_of_tree cl)
end
structure LcS (esc scope:Scope):Prop where
 kind:scope.kind=.function
 cell:∀ y∈scope.names,y.2≠.cell
 names:∀ y∈scope.names,y.2=.local->scope.names.lookup y.1=some .local
 free:∀ y∈scope.names,y.2=.free->esc.names.lookup y.1=some .cell∨esc.names.lookup y.1=some .free
theorem Fi {X:Cx}{scope:Scope}{fv:List (Nat×Str)}(esc:Scope)(he:X.env.scope=esc)(hc:X.calm=true)(h:LcS esc scope)(hf:FvOk X (relabel scope X.env) fv):KS X scope fv:=
 ⟨hc,h.kind,h.cell,h.names,λy hy hk=>by subst he;exact h.free y hy hk,hf⟩
end L2
namespace PV
open PySem L2 PySem.Spec PyProof.Rows
structure Zc where
 K:PySem.W.Frag
 P:Program
 w:World
noncomputable abbrev _root_.L2.Cx.z (X:Cx):Zc:=⟨X.K,X.prog,X.w⟩
inductive D where
 | non|bl (b:Bool)|int (i:Int)|str (x:Str)|tup (ds:List D)|lst (ds:List D)|dct (ks vs:List D)|set (ds:List D)|ref (k:Nat)
noncomputable instance:DecidableEq D:=λa b=>Classical.propDecidable (a=b)
inductive MO where
 | lst (ds:List D)|dct (ks ds:List D)
noncomputable abbrev Sto:=List MO
noncomputable abbrev Rs (α:Type):=Option (α×Sto)
noncomputable abbrev Ro:=List (Option D)
noncomputable abbrev Ex:=Ro->Sto->Rs D
noncomputable abbrev Exs:=Ro->Sto->Rs (List D)
noncomputable abbrev Tx:=Ro->Sto->Rs Bool
inductive Fl where
 | nx|bk|ct|rt (d:D)
noncomputable abbrev Sx:=Ro->Sto->Rs (Fl×Ro)
noncomputable abbrev Fn:=List D->Sto->Rs D
noncomputable def bM {α β:Type}(r:Rs α)(f:α->Sto->Rs β):Rs β:=match r with
 | none=>none
 | some (a,m)=>f a m
theorem FO {α β:Type}{a:α}{m:Sto}{f:α->Sto->Rs β}:bM (some (a,m)) f=f a m:=rfl
theorem Hh {α β:Type}{r:Rs α}{f:α->Sto->Rs β}{b:β}{m':Sto}(h:bM r f=some (b,m')):∃ a m,r=some (a,m)∧f a m=some (b,m'):=by
 cases r with
 | none=>cases h
 | some p=>exact ⟨p.1,p.2,rfl,h⟩
mutual
noncomputable def DJ (w:World):D->Int
 | .non=>reduceHash 0xFCA86420
 | .int i=>hashInt i
 | .str x=>hashStr w x
 | .tup ds=>reduceHash (Builtin.Tuple.tupleHashOf (EN w ds))
 | _=>0
noncomputable def EN (w:World):List D->List Int
 | []=>[]
 | d::ds=>DJ w d::EN w ds
end
mutual
noncomputable def dpt:D->Nat
 | .tup ds=>Ny ds+1
 | _=>0
noncomputable def Ny:List D->Nat
 | []=>0
 | d::ds=>max (dpt d) (Ny ds)
end
mutual
noncomputable def hsh:D->Bool
 | .non=>true
 | .int _=>true
 | .str _=>true
 | .tup ds=>Iz ds
 | _=>false
noncomputable def Iz:List D->Bool
 | []=>true
 | d::ds=>hsh d&&Iz ds
end
noncomputable def Es (d:D):Bool:=hsh d&&decide (dpt d≤8)
structure KeysOk (ks:List D):Prop where
 len:ks.length≤sizeLine
 nd:ks.Nodup
 ok:∀ k∈ks,Es k=true
theorem EE (w:World)(ds:List D):EN w ds=ds.map (DJ w):=by induction ds with
 | nil=>rfl
 | cons d ds ih=>rw [EN,ih];rfl
noncomputable def Yo (a:Addr)(xs:List (Int×V×V))(h:Heap):Prop:=(a==sysModules)=false∧∃ o es ep,h.get? a=some o∧o.ExactDict∧o.data=.dict es ep∧Paired (λ(x:Int×V×V) (e:DictEntry)=>e.hash=x.1∧RelV x.2.1 e.key∧RelV x.2.2 e.val) xs es.toList
noncomputable def Hb (a:Addr)(xs:List (Int×V×V)):HO:=.ext (Yo a xs)
noncomputable def Yb (w:World)(a:Addr)(us:List V)(h:Heap):Prop:=∃ o es ep t,h.get? a=some o∧o.ExactSet∧o.data=.set es ep t∧es.size<scanBound∧t.fits es.size=true∧Vals us (es.toList.map (·.2)) ∧
 (w.params.followText "set-order"=true∨t.led=true∧(t.plain=false∨es.size≤1))
noncomputable def Q6 (w:World)(a:Addr)(us:List V):HO:=.ext (Yb w a us)
noncomputable def FzL (K:Zc)(th:List Addr)(H:Hp)(a:Addr)(vs:List V):Prop:=(a∉th∧Rd H a (.lst vs)) ∨
 ∃ (o:Obj) (its:Array Value) (n:Nat),K.K.lookup a=some o∧o.cls=.type "list"∧o.dict=none∧o.data=.seq its n∧its.size≤sizeLine∧Vals vs its.toList
theorem FzL.sq {K:Zc}{th:List Addr}{H:Hp}{a:Addr}{vs:List V}(h:FzL K th H a vs):SqL K.K H a vs:=h.elim (λh=>.inl h.2) .inr
mutual
noncomputable def Rep (K:Zc)(th:List Addr)(H:Hp):D->V->Prop
 | .non,v=>v=.non
 | .bl b,v=>v=.bl b
 | .int i,v=>v=.int i
 | .str x,v=>v=.str x∧x.length≤sizeLine∧PyData.strOk x=true
 | .tup ds,v=>∃ a vs,v=.ref a∧SqT K.K H a vs∧RepL K th H ds vs∧ds.length≤sizeLine
 | .lst ds,v=>∃ a vs,v=.ref a∧FzL K th H a vs∧RepL K th H ds vs∧ds.length≤sizeLine
 | .dct ks ds,v=>∃ a xs,v=.ref a∧a∉th∧H a=some (Hb a xs)∧xs.map (·.1)=EN K.w ks∧RepL K th H ks (xs.map (·.2.1))∧RepL K th H ds (xs.map (·.2.2))∧KeysOk ks
 | .set ds,v=>∃ a us vs,v=.ref a∧a∉th∧H a=some (Q6 K.w a us)∧us.Perm vs∧RepL K th H ds vs∧ds.Nodup
 | .ref k,v=>∃ a,v=.ref a∧th[k]? = some a
noncomputable def RepL (K:Zc)(th:List Addr)(H:Hp):List D->List V->Prop
 | [],vs=>vs=[]
 | d::ds,vs=>∃ v r,vs=v::r∧Rep K th H d v∧RepL K th H ds r
end
section
variable {K:Zc} {th th':List Addr} {H H':Hp}
theorem RepL.nil:RepL K th H [] []:=by unfold RepL;rfl
theorem RepL.cons {d:D}{ds:List D}{v:V}{r:List V}(h:Rep K th H d v)(t:RepL K th H ds r):RepL K th H (d::ds) (v::r):=by unfold RepL;exact ⟨v,r,rfl,h,t⟩
theorem RepL.inv {d:D}{ds:List D}{vs:List V}(h:RepL K th H (d::ds) vs):∃ v r,vs=v::r∧Rep K th H d v∧RepL K th H ds r:=by unfold RepL at h;exact h
theorem RepL.inv0 {vs:List V}(h:RepL K th H [] vs):vs=[]:=by unfold RepL at h;exact h
theorem RepL.len:∀ {ds:List D} {vs:List V},RepL K th H ds vs->vs.length=ds.length
 | [],_,h=>by rw [h.inv0];rfl
 | d::ds,_,h=>by obtain ⟨v,r,rfl,_,t⟩:=h.inv;simp [RepL.len t]
theorem RepL.get:∀ {ds:List D} {vs:List V} {i:Nat} {d:D},RepL K th H ds vs->ds[i]? = some d->∃ v,vs[i]? = some v∧Rep K th H d v
 | [],_,_,_,_,e=>by simp at e
 | d::ds,_,0,d',h,e=>by obtain ⟨v,r,rfl,h1,_⟩:=h.inv;simp at e;subst e;exact ⟨v,rfl,h1⟩
 | d::ds,_,i+1,d',h,e=>by
  obtain ⟨v,r,rfl,_,t⟩:=h.inv
  obtain ⟨u,e1,e2⟩:=RepL.get (i:=i) t (by simpa using e)
  exact ⟨u,by simpa using e1,e2⟩
theorem RepL.getV:∀ {ds:List D} {vs:List V} {i:Nat} {v:V},RepL K th H ds vs->vs[i]? = some v->∃ d,ds[i]? = some d∧Rep K th H d v
 | [],_,_,_,h,e=>by rw [h.inv0] at e;simp at e
 | d::ds,_,0,v',h,e=>by obtain ⟨v,r,rfl,h1,_⟩:=h.inv;simp at e;subst e;exact ⟨d,rfl,h1⟩
 | d::ds,_,i+1,v',h,e=>by
  obtain ⟨v,r,rfl,_,t⟩:=h.inv
  obtain ⟨u,e1,e2⟩:=RepL.getV (i:=i) t (by simpa using e)
  exact ⟨u,by simpa using e1,e2⟩
theorem RepL.app:∀ {ds es:List D} {vs us:List V},RepL K th H ds vs->RepL K th H es us->RepL K th H (ds++es) (vs++us)
 | [],_,_,_,h,t=>by rw [h.inv0];exact t
 | d::ds,_,_,_,h,t=>by obtain ⟨v,r,rfl,h1,h2⟩:=h.inv;exact .cons h1 (RepL.app h2 t)
theorem RepL.take:∀ {ds:List D} {vs:List V} (n:Nat),RepL K th H ds vs->RepL K th H (ds.take n) (vs.take n)
 | _,_,0,_=>by simp only [List.take_zero];exact .nil
 | [],_,n+1,h=>by rw [h.inv0];exact .nil
 | d::ds,_,n+1,h=>by obtain ⟨v,r,rfl,h1,h2⟩:=h.inv;exact .cons h1 (RepL.take n h2)
theorem RepL.drop:∀ {ds:List D} {vs:List V} (n:Nat),RepL K th H ds vs->RepL K th H (ds.drop n) (vs.drop n)
 | _,_,0,h=>h
 | [],_,n+1,h=>by rw [h.inv0];exact .nil
 | d::ds,_,n+1,h=>by obtain ⟨v,r,rfl,h1,h2⟩:=h.inv;exact RepL.drop n h2
theorem RepL.rev:∀ {ds:List D} {vs:List V},RepL K th H ds vs->RepL K th H ds.reverse vs.reverse
 | [],_,h=>by rw [h.inv0];exact .nil
 | d::ds,_,h=>by
  obtain ⟨v,r,rfl,h1,h2⟩:=h.inv
  rw [List.reverse_cons,List.reverse_cons]
  exact (RepL.rev h2).app (.cons h1 .nil)
theorem RepL.setAt:∀ {ds:List D} {vs:List V} (i:Nat) {d:D} {v:V},RepL K th H ds vs->Rep K th H d v->RepL K th H (ds.set i d) (vs.set i v)
 | [],_,_,_,_,h,_=>by rw [h.inv0];exact .nil
 | d::ds,_,0,_,_,h,g=>by obtain ⟨v,r,rfl,h1,h2⟩:=h.inv;exact .cons g h2
 | d::ds,_,i+1,_,_,h,g=>by obtain ⟨v,r,rfl,h1,h2⟩:=h.inv;exact .cons h1 (RepL.setAt i h2 g)
structure Ext (th:List Addr) (H:Hp) (th':List Addr) (H':Hp):Prop where
 pre:∃ more,th'=th++more
 out:∀ a o,a∉th->H a=some o->a∉th'
 keep:∀ a o,a∉th->H a=some o->H' a=some o
theorem Ext.refl (th:List Addr)(H:Hp):Ext th H th H:=⟨⟨[],by simp⟩,λ_ _ n _=>n,λ_ _ _ h=>h⟩
theorem Ext.trans {th2:List Addr}{H2:Hp}(a:Ext th H th' H')(b:Ext th' H' th2 H2):Ext th H th2 H2:=by
 obtain ⟨m1,e1⟩:=a.pre
 obtain ⟨m2,e2⟩:=b.pre
 exact ⟨⟨m1++m2,by rw [e2,e1,List.append_assoc]⟩,λx o n h=>b.out x o (a.out x o n h) (a.keep x o n h),λx o n h=>b.keep x o (a.out x o n h) (a.keep x o n h)⟩
theorem Ext.at (e:Ext th H th' H'){k:Nat}{a:Addr}(h:th[k]? = some a):th'[k]? = some a:=by
 obtain ⟨m,rfl⟩:=e.pre
 rw [Av (Af.mp h).1]
 exact h
theorem Ext.new {p:Addr}(h:H p=none)(o:HO):Ext th H th (upd H p o):=⟨⟨[],by simp⟩,λ_ _ n _=>n,λa u _ e=>by rw [Dj (CP e h)];exact e⟩
theorem Ext.newM {p:Addr}(h:H p=none)(o:HO):Ext th H (th++[p]) (upd H p o):=⟨⟨[p],rfl⟩,λa u n e z=>(AI.mp z).elim n λz=>(by rw [Al.mp z,h] at e;cases e),
 λa u _ e=>by rw [Dj (CP e h)];exact e⟩
theorem Ext.mut {p:Addr}(h:p∈th)(o:HO):Ext th H th (upd H p o):=⟨⟨[],by simp⟩,λ_ _ n _=>n,λa u n e=>by rw [Dj (λz=>n (by rw [z];exact h))];exact e⟩
theorem Ext.rd (e:Ext th H th' H'){a:Addr}{u:HO}(n:a∉th)(h:Rd H a u):a∉th'∧Rd H' a u:=by
 rcases h with h|⟨o,h⟩
 ·exact ⟨e.out _ _ n h,.inl (e.keep _ _ n h)⟩
 ·exact ⟨e.out _ _ n h,.inr ⟨o,e.keep _ _ n h⟩⟩
theorem Ext.fz (e:Ext th H th' H'){a:Addr}{vs:List V}(h:FzL K th H a vs):FzL K th' H' a vs:=h.elim (λh=>.inl (e.rd h.1 h.2)) .inr
noncomputable def Jd (th:List Addr)(H:Hp):Prop:=∀ a,a∈th->∃ o,H a=some o∧((∃ xs,o=.lst xs)∨∃ φ,o=.ext φ)
theorem Ext.sqT (e:Ext th H th' H')(t:Jd th H){a:Addr}{xs:List V}(h:SqT K.K H a xs):SqT K.K H' a xs:=by
 rcases h with h|h
 ·refine .inl (e.rd (λz=>?_) h).2
  obtain ⟨o',q,q2⟩:=t a z
  rcases h with h|⟨o,h⟩
  ·rcases q2 with ⟨_,rfl⟩|⟨_,rfl⟩<;>(rw [q] at h;cases h)
  ·rcases q2 with ⟨_,rfl⟩|⟨_,rfl⟩<;>(rw [q] at h;cases h)
 ·exact .inr h
mutual
theorem Rep.ext (e:Ext th H th' H')(t:Jd th H):∀ {d:D} {v:V},Rep K th H d v->Rep K th' H' d v
 | .non,_,h=>h
 | .bl _,_,h=>h
 | .int _,_,h=>h
 | .str _,_,h=>h
 | .tup ds,_,h=>by
  unfold Rep at h ⊢
  obtain ⟨a,vs,q,h1,h2,z⟩:=h
  exact ⟨a,vs,q,e.sqT t h1,RepL.ext e t h2,z⟩
 | .lst ds,_,h=>by
  unfold Rep at h ⊢
  obtain ⟨a,vs,q,h1,h2,z⟩:=h
  exact ⟨a,vs,q,e.fz h1,RepL.ext e t h2,z⟩
 | .dct ks ds,_,h=>by
  unfold Rep at h ⊢
  obtain ⟨a,xs,q,n,h1,h2,h3,h4,h5⟩:=h
  exact ⟨a,xs,q,e.out _ _ n h1,e.keep _ _ n h1,h2,RepL.ext e t h3,RepL.ext e t h4,h5⟩
 | .set ds,_,h=>by
  unfold Rep at h ⊢
  obtain ⟨a,us,vs,q,n,h1,h2,h3,h4⟩:=h
  exact ⟨a,us,vs,q,e.out _ _ n h1,e.keep _ _ n h1,h2,RepL.ext e t h3,h4⟩
 | .ref k,_,h=>by
  unfold Rep at h ⊢
  obtain ⟨a,q,h1⟩:=h
  exact ⟨a,q,e.at h1⟩
theorem RepL.ext (e:Ext th H th' H')(t:Jd th H):∀ {ds:List D} {vs:List V},RepL K th H ds vs->RepL K th' H' ds vs
 | [],_,h=>by rw [h.inv0];exact .nil
 | _::_,_,h=>by
  obtain ⟨v,r,rfl,h1,h2⟩:=h.inv
  exact .cons (Rep.ext e t h1) (RepL.ext e t h2)
end
theorem Wa {N:List Addr}(hN:N.Nodup){i j:Nat}{x:Addr}(a:N[i]? = some x)(b:N[j]? = some x):i=j:=by
 obtain ⟨hi,ei⟩:=Af.mp a
 obtain ⟨hj,ej⟩:=Af.mp b
 have:=List.pairwise_iff_getElem.mp hN
 rcases Nat.lt_trichotomy i j with h|h|h
 ·exact absurd (ei.trans ej.symm) (this i j hi hj h)
 ·exact h
 ·exact absurd (ej.trans ei.symm) (this j i hj hi h)
noncomputable def MRep (K:Zc)(th:List Addr)(H:Hp)(a:Addr):MO->Prop
 | .lst ds=>∃ vs,H a=some (.lst vs)∧RepL K th H ds vs∧ds.length≤sizeLine
 | .dct ks ds=>∃ xs,H a=some (Hb a xs)∧xs.map (·.1)=EN K.w ks∧RepL K th H ks (xs.map (·.2.1))∧RepL K th H ds (xs.map (·.2.2))∧KeysOk ks
theorem MRep.ext (e:Ext th H th' H')(t:Jd th H){a:Addr}{o:MO}(ha:∀ u,H a=some u->H' a=some u)(h:MRep K th H a o):MRep K th' H' a o:=by
 cases o with
 | lst ds=>obtain ⟨vs,q1,q2,z⟩:=h;exact ⟨vs,ha _ q1,q2.ext e t,z⟩
 | dct ks ds=>obtain ⟨xs,q1,q2,q3,q4,z⟩:=h;exact ⟨xs,ha _ q1,q2,q3.ext e t,q4.ext e t,z⟩
structure StoOk (K:Zc) (th:List Addr) (mu:Sto) (H:Hp):Prop where
 len:th.length=mu.length
 nd:th.Nodup
 at':∀ (k:Nat) (a:Addr) (o:MO),th[k]? = some a->mu[k]? = some o->MRep K th H a o
theorem StoOk.out {mu:Sto}(s:StoOk K th mu H):Jd th H:=λa ha=>by
 obtain ⟨k,hk,rfl⟩:=List.mem_iff_getElem.mp ha
 have hk':k<mu.length:=by rw [← s.len];exact hk
 have q:=s.at' k th[k] mu[k] (by simp) (by simp)
 cases e:mu[k] with
 | lst ds=>rw [e] at q;obtain ⟨vs,q,_⟩:=q;exact ⟨_,q,.inl ⟨_,rfl⟩⟩
 | dct ks ds=>rw [e] at q;obtain ⟨vs,q,_⟩:=q;exact ⟨_,q,.inr ⟨_,rfl⟩⟩
theorem StoOk.new {mu:Sto}(s:StoOk K th mu H){p:Addr}(h:H p=none)(o:HO):StoOk K th mu (upd H p o):=
 ⟨s.len,s.nd,λk a o' e1 e2=>(s.at' k a o' e1 e2).ext (.new h o) s.out λu q=>by rw [Dj (CP q h)];exact q⟩
theorem StoOk.newG {mu:Sto}(s:StoOk K th mu H){p:Addr}(h:H p=none)(o:HO)(mo:MO)(r:MRep K (th++[p]) (upd H p o) p mo):StoOk K (th++[p]) (mu++[mo]) (upd H p o):=by
 have ex:Ext th H (th++[p]) (upd H p o):=.newM h _
 refine ⟨by simp [s.len],?_,λk a o' e1 e2=>?_⟩
 ·refine Br.mpr ⟨s.nd,by simp,λx hx y hy=>?_⟩
  rw [Al.mp hy]
  obtain ⟨xs,q,_⟩:=s.out x hx
  exact CP q h
 ·by_cases hk:k<th.length
  ·rw [Av hk] at e1
   rw [Av (by rw [← s.len];exact hk)] at e2
   exact (s.at' k a o' e1 e2).ext ex s.out λu q=>by rw [Dj (CP q h)];exact q
  ·have hk2:k=th.length:=by
    have:=(Af.mp e1).1
    simp at this
    omega
   subst hk2
   have e1':a=p:=by simpa using e1.symm
   have e2':o'=mo:=by rw [s.len] at e2;simpa using e2.symm
   subst e1' e2'
   exact r
theorem StoOk.newM {mu:Sto}(s:StoOk K th mu H){p:Addr}(h:H p=none){ds:List D}{vs:List V}(r:RepL K th H ds vs)(hz:ds.length≤sizeLine):StoOk K (th++[p]) (mu++[.lst ds]) (upd H p (.lst vs)):=
 s.newG h _ _ ⟨vs,Ec,r.ext (.newM h _) s.out,hz⟩
theorem StoOk.putG {mu:Sto}(s:StoOk K th mu H){k:Nat}{a:Addr}(hk:th[k]? = some a)(o:HO)(mo:MO)(r:MRep K th (upd H a o) a mo):StoOk K th (mu.set k mo) (upd H a o):=by
 have ex:Ext th H th (upd H a o):=.mut (Ap hk) _
 refine ⟨by simp [s.len],s.nd,λj b o' e1 e2=>?_⟩
 by_cases hj:j=k
 ·subst hj
  rw [hk] at e1
  cases e1
  have:j<mu.length:=by rw [← s.len];exact (Af.mp hk).1
  have e2':o'=mo:=by simpa [this] using e2.symm
  subst e2'
  exact r
 ·rw [AE (Ne.symm hj)] at e2
  have nb:b≠a:=λz=>by
   subst z
   exact hj (Wa s.nd e1 hk)
  exact (s.at' j b o' e1 e2).ext ex s.out λu q=>by rw [Dj nb];exact q
theorem StoOk.put {mu:Sto}(s:StoOk K th mu H){k:Nat}{a:Addr}(hk:th[k]? = some a){ds:List D}{vs:List V}(r:RepL K th H ds vs)(hz:ds.length≤sizeLine):StoOk K th (mu.set k (.lst ds)) (upd H a (.lst vs)):=
 s.putG hk _ _ ⟨vs,Ec,r.ext (.mut (Ap hk) _) s.out,hz⟩
theorem KeysOk.nil:KeysOk []:=⟨A3 _,List.nodup_nil,λ_ h=>nomatch h⟩
noncomputable def Tr (K:Zc){A:Type}(th:List Addr)(H:Hp)(r:Rs A)(k:A->List Addr->Sto->Hp->Prop):Prop:=
 ∃ a mu',r=some (a,mu')∧∀ th' H',Ext th H th' H'->StoOk K th' mu' H'->k a th' mu' H'
theorem Tr.mono {A:Type}{r:Rs A}{k k':A->List Addr->Sto->Hp->Prop}(h:Tr K th H r k)(f:∀ a th' mu' H',Ext th H th' H'->StoOk K th' mu' H'->k a th' mu' H'->k' a th' mu' H'):Tr K th H r k':=by
 obtain ⟨a,mu',e,q⟩:=h
 exact ⟨a,mu',e,λth' H' x s=>f a th' mu' H' x s (q th' H' x s)⟩
theorem Tr.ahead {A:Type}{r:Rs A}{k:A->List Addr->Sto->Hp->Prop}(h:Tr K th H r k)(x:Ext th H th' H'):Tr K th' H' r k:=by
 obtain ⟨a,mu',e,q⟩:=h
 exact ⟨a,mu',e,λth2 H2 y s=>q th2 H2 (x.trans y) s⟩
theorem Tr.bind {A B:Type}{r:Rs A}{f:A->Sto->Rs B}{k:B->List Addr->Sto->Hp->Prop}(h:Tr K th H (bM r f) k):Tr K th H r λa th1 mu1 H1=>Tr K th1 H1 (f a mu1) k:=by
 obtain ⟨b,mu',e,q⟩:=h
 obtain ⟨a,m,e1,e2⟩:=Hh e
 exact ⟨a,m,e1,λth1 H1 x1 s1=>⟨b,mu',e2,λth' H' x s=>q th' H' (x1.trans x) s⟩⟩
theorem Tr.bindE {A B:Type}{r:Rs A}{f:A->Sto->Rs B}{k:B->List Addr->Sto->Hp->Prop}(h:Tr K th H (bM r f) k):Tr K th H r λa th1 mu1 H1=>r=some (a,mu1)∧Tr K th1 H1 (f a mu1) k:=by
 obtain ⟨b,mu',e,q⟩:=h
 obtain ⟨a,m,e1,e2⟩:=Hh e
 exact ⟨a,m,e1,λth1 H1 x1 s1=>⟨e1,b,mu',e2,λth' H' x s=>q th' H' (x1.trans x) s⟩⟩
theorem Tr.ret {A:Type}{a:A}{mu:Sto}{k:A->List Addr->Sto->Hp->Prop}(h:Tr K th H (some (a,mu)) k)(s:StoOk K th mu H):k a th mu H:=by
 obtain ⟨b,mu',e,q⟩:=h
 cases e
 exact q th H (.refl _ _) s
theorem Tr.retX {A:Type}{a:A}{mu:Sto}{k:A->List Addr->Sto->Hp->Prop}(h:Tr K th H (some (a,mu)) k)(x:Ext th H th' H')(s:StoOk K th' mu H'):k a th' mu H':=by
 obtain ⟨b,mu',e,q⟩:=h
 cases e
 exact q th' H' x s
theorem Tr.no {A:Type}{k:A->List Addr->Sto->Hp->Prop}(h:Tr K th H (none:Rs A) k):False:=by
 obtain ⟨b,mu',e,q⟩:=h
 cases e
noncomputable def EnvOk (K:Zc)(th:List Addr)(H:Hp)(ro:Ro)(st:L2.St):Prop:=ro.length=st.length∧∀ (i:Nat) (d:D),ro[i]? = some (some d)->∃ v,st[i]? = some (some v)∧Rep K th H d v
theorem EnvOk.ext {ro:Ro}{st:L2.St}(h:EnvOk K th H ro st)(e:Ext th H th' H')(t:Jd th H):EnvOk K th' H' ro st:=⟨h.1,λi d q=>by
 obtain ⟨v,a,b⟩:=h.2 i d q
 exact ⟨v,a,b.ext e t⟩⟩
theorem EnvOk.set {ro:Ro}{st:L2.St}(h:EnvOk K th H ro st)(i:Nat){d:D}{v:V}(r:Rep K th H d v):EnvOk K th H (ro.set i (some d)) (st.set i (some v)):=by
 refine ⟨by simp [h.1],λj d' q=>?_⟩
 by_cases hj:j=i
 ·subst hj
  have hl:j<ro.length:=by
   have:=(Af.mp q).1
   simpa using this
  have:d'=d:=by simpa [hl] using q.symm
  subst this
  exact ⟨v,by simp [← h.1,hl],r⟩
 ·rw [AE (Ne.symm hj)] at q ⊢
  exact h.2 j d' q
noncomputable abbrev KV' (K:Zc) (Q:VK):D->List Addr->Sto->Hp->Prop:=λd th' _ H'=>∀ v,Rep K th' H' d v->Q v H'
noncomputable def rdE (K:Zc)(m:Ex):TE:=λst H Q=>∃ th mu ro,StoOk K th mu H∧EnvOk K th H ro st∧Tr K th H (m ro mu) (KV' K Q)
noncomputable def rdA (K:Zc)(m:Exs):TA:=λst H Q=>∃ th mu ro,StoOk K th mu H∧EnvOk K th H ro st∧Tr K th H (m ro mu) λds th' _ H'=>∀ vs,RepL K th' H' ds vs->Q vs H'
noncomputable def rdT (K:Zc)(m:Tx):TT:=λst H Q=>∃ th mu ro,StoOk K th mu H∧EnvOk K th H ro st∧Tr K th H (m ro mu) λb _ _ H'=>Q b H'
noncomputable def XX (K:Zc)(E:Ends)(p:Fl×Ro)(th:List Addr)(_:Sto)(H:Hp):Prop:=∀ st',EnvOk K th H p.2 st'->match p.1 with
 | .nx=>E.nx st' H
 | .bk=>E.bk st' H
 | .ct=>E.ct st' H
 | .rt d=>∀ v,Rep K th H d v->E.rt v H
noncomputable def rdS (K:Zc)(m:Sx):TS:=λE st H=>∃ th mu ro,StoOk K th mu H∧EnvOk K th H ro st∧Tr K th H (m ro mu) (XX K E)
noncomputable def r2 (K:Zc)(op:D->D->Sto->Rs D):R2:=λx y H Q=>∃ th mu d e,StoOk K th mu H∧Rep K th H d x∧Rep K th H e y∧Tr K th H (op d e mu) (KV' K Q)
noncomputable def rL (K:Zc)(f:Fn):List V->Hp->VK->Prop:=λxs H Q=>∃ th mu ds,StoOk K th mu H∧RepL K th H ds xs∧Tr K th H (f ds mu) (KV' K Q)
end
structure SV (X:Cx) (e:Expr) (m:Ex):Prop where
 r:PE X e (rdE X.z m)
structure SVT (X:Cx) (e:Expr) (m:Tx):Prop where
 r:PT X e (rdT X.z m)
structure SVW (X:Cx) (e:Expr) (m:Tx):Prop where
 r:PW X e (rdT X.z m)
noncomputable def SVA (X:Cx)(es:List Expr)(m:Exs):Prop:=PA X es (rdA X.z m)∧∀ ro mu ds mu',m ro mu=some (ds,mu')->ds.length=es.length
structure SVS (X:Cx) (s:Stmt) (m:Sx):Prop where
 r:PS X s (rdS X.z m)
structure SVB (X:Cx) (b:List Stmt) (m:Sx):Prop where
 r:PSs X b (rdS X.z m)
noncomputable def OpV (X:Cx)(f:Value->Value->Sem Value)(op:D->D->Sto->Rs D):Prop:=OpR X f (r2 X.z op)
noncomputable def CallV (X:Cx)(f:Value)(g:Fn):Prop:=GY X f (rL X.z g)
theorem PE.weak {X:Cx}{e:Expr}{t t':TE}(h:PE X e t)(f:∀ st H Q,t' st H Q->t st H Q):PE X e t':=λpins s st H Q I q=>h pins s st H Q I (f st H Q q)
theorem PT.weak {X:Cx}{e:Expr}{t t':TT}(h:PT X e t)(f:∀ st H Q,t' st H Q->t st H Q):PT X e t':=λpins s st H Q I q=>h pins s st H Q I (f st H Q q)
theorem PW.weak {X:Cx}{e:Expr}{t t':TT}(h:PW X e t)(f:∀ st H Q,t' st H Q->t st H Q):PW X e t':=λwh pins s st H Q I q=>h wh pins s st H Q I (f st H Q q)
theorem PA.weak {X:Cx}{e:List Expr}{t t':TA}(h:PA X e t)(f:∀ st H Q,t' st H Q->t st H Q):PA X e t':=λpos pins s st H Q I q=>h pos pins s st H Q I (f st H Q q)
theorem PS.weak {X:Cx}{e:Stmt}{t t':TS}(h:PS X e t)(f:∀ E st H,t' E st H->t E st H):PS X e t':=λpins s st H E I q=>h pins s st H E I (f E st H q)
theorem PSs.weak {X:Cx}{e:List Stmt}{t t':TS}(h:PSs X e t)(f:∀ E st H,t' E st H->t E st H):PSs X e t':=λpins s st H E I q=>h pins s st H E I (f E st H q)
section
variable {X:Cx} {K:Zc} {th:List Addr} {mu:Sto} {H:Hp}
noncomputable def B0 (i:Nat):Ex:=λro mu=>match ro[i]? with
 | some (some d)=>some (d,mu)
 | _=>none
noncomputable def eC (d:D):Ex:=λ_ mu=>some (d,mu)
theorem BZ (i:Nat){x:Str}{pos:Pos}(hN:X.N[i]? = some x:=by rfl)(hv:Vis X.env.scope x:=by first|exact Or.inl rfl|exact Or.inr (Or.inl rfl)|exact Or.inr (Or.inr rfl))(hd:(x==("__debug__":Str))=false:=by decide)
  (hcd:(x==("__classdict__":Str))=false:=by decide):SV X (.Name x pos) (B0 i):=⟨PE.weak (Up hN hv hd hcd) λst H Q h=>by
 obtain ⟨th,mu,ro,so,en,t⟩:=h
 unfold B0 at t
 cases e:ro[i]? with
 | none=>rw [e] at t;exact t.no.elim
 | some o =>
  cases o with
  | none=>rw [e] at t;exact t.no.elim
  | some d =>
   rw [e] at t
   obtain ⟨v,ev,rv⟩:=en.2 i d e
   exact ⟨v,ev,t.ret so v rv⟩⟩
theorem G5 {e:Expr}{d:D}{v:V}(h:PE X e (tC v))(r:∀ K th H,Rep K th H d v):SV X e (eC d):=⟨PE.weak h λst H Q q=>by
 obtain ⟨th,mu,ro,so,en,t⟩:=q
 exact t.ret so v (r _ _ _)⟩
theorem B4 {i j pos}:SV X (.Constant (.int i) j pos) (eC (.int i)):=G5 Tc λ_ _ _=>by unfold Rep;rfl
theorem Gd {i j pos}:SV X (.Constant (.bool i) j pos) (eC (.bl i)):=G5 Y7 λ_ _ _=>by unfold Rep;rfl
theorem CT {j pos}:SV X (.Constant .none j pos) (eC .non):=G5 Xt λ_ _ _=>by unfold Rep;rfl
theorem Cd {i j pos}(h:i.length≤sizeLine∧PyData.strOk i=true:=by decide +kernel):SV X (.Constant (.str i) j pos) (eC (.str i)):=G5 Yz λ_ _ _=>by unfold Rep;exact ⟨rfl,h⟩
theorem ND {x:Str}{i:Int}{pos:Pos}(hm:∃ t,X.mg x=some (.int i t))(hg:Gl X x:=by rfl)(hd:(x==("__debug__":Str))=false:=by decide):SV X (.Name x pos) (eC (.int i)):=by
 obtain ⟨t,hm⟩:=hm
 exact G5 (Nx (v:=.int i) hg hm ⟨t,rfl⟩ hd) λ_ _ _=>by unfold Rep;rfl
theorem V2 {x:Str}{i:Str}{pos:Pos}(hm:∃ t,X.mg x=some (.str i t))(h:i.length≤sizeLine∧PyData.strOk i=true:=by decide +kernel)(hg:Gl X x:=by rfl)(hd:(x==("__debug__":Str))=false:=by decide):SV X (.Name x pos) (eC (.str i)):=by
 obtain ⟨t,hm⟩:=hm
 exact G5 (Nx (v:=.str i) hg hm ⟨t,rfl⟩ hd) λ_ _ _=>by unfold Rep;exact ⟨rfl,h⟩
noncomputable def B8 (g:D->D->Sto->Rs D)(a b:Ex):Ex:=λro mu=>bM (a ro mu) λx m1=>bM (b ro m1) λy m2=>g x y m2
theorem M6 {a b:Ex}{g:D->D->Sto->Rs D}{st:L2.St}{Q:VK}(h:rdE K (B8 g a b) st H Q):tOp (r2 K g) (rdE K a) (rdE K b) st H Q:=by
 obtain ⟨th,mu,ro,so,en,t⟩:=h
 refine ⟨th,mu,ro,so,en,t.bind.mono λx th1 mu1 H1 e1 s1 t1 v rv=>?_⟩
 exact ⟨th1,mu1,ro,s1,en.ext e1 so.out,t1.bind.mono λy th2 mu2 H2 e2 s2 t2 u ru=>⟨th2,mu2,x,y,s2,rv.ext e2 s1.out,ru,t2⟩⟩
theorem Ci {a b:Expr}{op:Operator}{g:D->D->Sto->Rs D}{ma mb:Ex}{pos:Pos}(ho:OpV X (binaryOp op) g)(ha:SV X a ma)(hb:SV X b mb):SV X (.BinOp a op b pos) (B8 g ma mb):=
 ⟨PE.weak (ZA ho ha.r hb.r) λ_ _ _ h=>M6 h⟩
theorem Et {a b:Expr}{op:CmpOp}{g:D->D->Sto->Rs D}{ma mb:Ex}{pos:Pos}(ho:OpV X (compareOp op) g)(ha:SV X a ma)(hb:SV X b mb)(hm:behindInMarks op b=false:=by first|exact RK _|with_unfolding_all rfl):SV X (.Compare a [op] [b] pos) (B8 g ma mb):=
 ⟨PE.weak (Vw ho ha.r hb.r hm) λ_ _ _ h=>M6 h⟩
theorem Cm {a b:Expr}{g:D->D->Sto->Rs D}{ma mb:Ex}{pos:Pos}(ho:IxR X (r2 X.z g))(ha:SV X a ma)(hb:SV X b mb)(hs:Qp b:=by intro _ _;rfl):SV X (.Subscript a b pos) (B8 g ma mb):=
 ⟨PE.weak (ZZ ho ha.r hb.r hs) λ_ _ _ h=>M6 h⟩
noncomputable def e1 (g:D->Sto->Rs D)(a:Ex):Ex:=λro mu=>bM (a ro mu) λx m1=>g x m1
noncomputable def asB:D->Option Bool
 | .bl b=>some b
 | _=>none
noncomputable def tV (a:Ex):Tx:=λro mu=>bM (a ro mu) λx m1=>(asB x).map λb=>(b,m1)
theorem K5 {d:D}{b:Bool}{v:V}(h:asB d=some b)(r:Rep K th H d v):v=.bl b:=by
 cases d with
 | bl c=>cases h;exact r
 | _=>cases h
theorem Uk {a:Ex}{st:L2.St}{Q:Bool->Hp->Prop}(h:rdT K (tV a) st H Q):Sz (rdE K a) st H Q:=by
 obtain ⟨th,mu,ro,so,en,t⟩:=h
 refine ⟨th,mu,ro,so,en,t.bind.mono λx th1 mu1 H1 e1 s1 t1 v rv=>?_⟩
 cases e:asB x with
 | none=>rw [e] at t1;exact t1.no.elim
 | some b=>rw [e] at t1;exact ⟨b,K5 e rv,t1.ret s1⟩
theorem CK {e:Expr}{m:Ex}(h:SV X e m)(he:∀ whole,isTrue e X.env whole=(do let v←whole;standAt e.pos;holding [v] (truthy v)):=by intro _;rfl):SVT X e (tV m):=⟨PT.weak (WJ h.r he) λ_ _ _ h=>Uk h⟩
theorem Cf {a b:Expr}{op:CmpOp}{g:D->D->Sto->Rs D}{ma mb:Ex}{pos:Pos}(ho:OpV X (compareOp op) g)(ha:SV X a ma)(hb:SV X b mb)(hm:behindInMarks op b=false:=by first|exact RK _|with_unfolding_all rfl):SVT X (.Compare a [op] [b] pos) (tV (B8 g ma mb)):=
 ⟨PT.weak (UI ho ha.r hb.r hm) λ_ _ _ h=>by
  obtain ⟨th,mu,ro,so,en,t⟩:=Uk h
  exact M6 ⟨th,mu,ro,so,en,t⟩⟩
noncomputable def tNt (a:Tx):Tx:=λro mu=>bM (a ro mu) λb m1=>some (!b,m1)
theorem C0 {e:Expr}{m:Tx}{pos:Pos}(h:SVT X e m):SVT X (.UnaryOp .Not e pos) (tNt m):=⟨PT.weak (Yu h.r) λst H Q h=>by
 obtain ⟨th,mu,ro,so,en,t⟩:=h
 exact ⟨th,mu,ro,so,en,t.bind.mono λb th1 mu1 H1 e1 s1 t1=>t1.ret s1⟩⟩
noncomputable def tAn (a b:Tx):Tx:=λro mu=>bM (a ro mu) λx m1=>if x=true then b ro m1 else some (false,m1)
noncomputable def tO (a b:Tx):Tx:=λro mu=>bM (a ro mu) λx m1=>if x=true then some (true,m1) else b ro m1
theorem Om {a:Expr}{m:Tx}{pos:Pos}(ha:SVT X a m):SVW X (.BoolOp .And [a] pos) m:=⟨Vy ha.r⟩
theorem Ew {a:Expr}{m:Tx}{pos:Pos}(ha:SVT X a m):SVW X (.BoolOp .Or [a] pos) m:=⟨WV ha.r⟩
theorem QD {a b:Expr}{rest:List Expr}{m n:Tx}{pos:Pos}(ha:SVT X a m)(hb:SVW X (.BoolOp .And (b::rest) pos) n):SVW X (.BoolOp .And (a::b::rest) pos) (tAn m n):=⟨PW.weak (XB ha.r hb.r) λst H Q h=>by
 obtain ⟨th,mu,ro,so,en,t⟩:=h
 refine ⟨th,mu,ro,so,en,t.bind.mono λb th1 mu1 H1 e1 s1 t1=>?_⟩
 cases b with
 | true=>exact ⟨th1,mu1,ro,s1,en.ext e1 so.out,t1⟩
 | false=>exact t1.ret s1⟩
theorem D9 {a b:Expr}{rest:List Expr}{m n:Tx}{pos:Pos}(ha:SVT X a m)(hb:SVW X (.BoolOp .Or (b::rest) pos) n):SVW X (.BoolOp .Or (a::b::rest) pos) (tO m n):=⟨PW.weak (Aaa ha.r hb.r) λst H Q h=>by
 obtain ⟨th,mu,ro,so,en,t⟩:=h
 refine ⟨th,mu,ro,so,en,t.bind.mono λb th1 mu1 H1 e1 s1 t1=>?_⟩
 cases b with
 | true=>exact t1.ret s1
 | false=>exact ⟨th1,mu1,ro,s1,en.ext e1 so.out,t1⟩⟩
theorem SVW.t {e:Expr}{m:Tx}(h:SVW X e m):SVT X e m:=⟨PW.pt h.r⟩
noncomputable def eAn (a b:Ex):Ex:=λro mu=>bM (a ro mu) λx m1=>match asB x with
 | none=>none
 | some c=>if c=true then b ro m1 else some (.bl false,m1)
noncomputable def eO (a b:Ex):Ex:=λro mu=>bM (a ro mu) λx m1=>match asB x with
 | none=>none
 | some c=>if c=true then some (.bl true,m1) else b ro m1
noncomputable def eNt (a:Ex):Ex:=λro mu=>bM (a ro mu) λx m1=>match asB x with
 | none=>none
 | some c=>some (.bl (!c),m1)
theorem F7 {a:Expr}{op}{m:Ex}{pos:Pos}(h:SV X a m):SV X (.BoolOp op [a] pos) m:=⟨Xo h.r⟩
theorem Fo {a b:Expr}{rest:List Expr}{m n:Ex}{pos:Pos}(ha:SV X a m)(hb:SV X (.BoolOp .And (b::rest) pos) n):SV X (.BoolOp .And (a::b::rest) pos) (eAn m n):=⟨PE.weak (Yj ha.r hb.r) λst H Q h=>by
 obtain ⟨th,mu,ro,so,en,t⟩:=h
 refine ⟨th,mu,ro,so,en,t.bind.mono λx th1 mu1 H1 e1 s1 t1 v rv=>?_⟩
 cases e:asB x with
 | none=>rw [e] at t1;exact t1.no.elim
 | some c =>
  rw [e] at t1
  refine ⟨c,K5 e rv,?_⟩
  cases c with
  | true=>exact ⟨th1,mu1,ro,s1,en.ext e1 so.out,t1⟩
  | false=>exact t1.ret s1 _ (by unfold Rep;rfl)⟩
theorem ZH {a b:Expr}{rest:List Expr}{m n:Ex}{pos:Pos}(ha:SV X a m)(hb:SV X (.BoolOp .Or (b::rest) pos) n):SV X (.BoolOp .Or (a::b::rest) pos) (eO m n):=⟨PE.weak (ZK ha.r hb.r) λst H Q h=>by
 obtain ⟨th,mu,ro,so,en,t⟩:=h
 refine ⟨th,mu,ro,so,en,t.bind.mono λx th1 mu1 H1 e1 s1 t1 v rv=>?_⟩
 cases e:asB x with
 | none=>rw [e] at t1;exact t1.no.elim
 | some c =>
  rw [e] at t1
  refine ⟨c,K5 e rv,?_⟩
  cases c with
  | true=>exact t1.ret s1 _ (by unfold Rep;rfl)
  | false=>exact ⟨th1,mu1,ro,s1,en.ext e1 so.out,t1⟩⟩
noncomputable def eIf (c:Tx)(a b:Ex):Ex:=λro mu=>bM (c ro mu) λx m1=>if x=true then a ro m1 else b ro m1
theorem Dv {c a b:Expr}{mc:Tx}{ma mb:Ex}{pos:Pos}(hc:SVT X c mc)(ha:SV X a ma)(hb:SV X b mb):SV X (.IfExp c a b pos) (eIf mc ma mb):=⟨PE.weak (SN hc.r ha.r hb.r) λst H Q h=>by
 obtain ⟨th,mu,ro,so,en,t⟩:=h
 refine ⟨th,mu,ro,so,en,t.bind.mono λb th1 mu1 H1 e1 s1 t1=>?_⟩
 cases b with
 | true=>exact ⟨th1,mu1,ro,s1,en.ext e1 so.out,t1⟩
 | false=>exact ⟨th1,mu1,ro,s1,en.ext e1 so.out,t1⟩⟩
noncomputable def B5:Exs:=λ_ mu=>some ([],mu)
noncomputable def BY (a:Ex)(r:Exs):Exs:=λro mu=>bM (a ro mu) λx m1=>bM (r ro m1) λxs m2=>some (x::xs,m2)
theorem B3:SVA X [] B5:=by
 refine ⟨PA.weak T4 λst H Q h=>?_,λro mu ds mu' h=>by cases h;rfl⟩
 obtain ⟨th,mu,ro,so,en,t⟩:=h
 exact t.ret so [] .nil
theorem BX {e:Expr}{es:List Expr}{m:Ex}{n:Exs}(ha:SV X e m)(hr:SVA X es n)(hs:starEach (e::es) X.env=(false,eval e X.env)::starEach es X.env:=by rfl):SVA X (e::es) (BY m n):=by
 refine ⟨PA.weak (MK ha.r hr.1 hs) λst H Q h=>?_,λro mu ds mu' h=>?_⟩
 ·obtain ⟨th,mu,ro,so,en,t⟩:=h
  refine ⟨th,mu,ro,so,en,t.bind.mono λx th1 mu1 H1 e1 s1 t1 v rv=>?_⟩
  exact ⟨th1,mu1,ro,s1,en.ext e1 so.out,t1.bind.mono λxs th2 mu2 H2 e2 s2 t2 vs rvs=>t2.ret s2 _ (.cons (rv.ext e2 s1.out) rvs)⟩
 ·obtain ⟨x,m1,_,h⟩:=Hh h
  obtain ⟨xs,m2,h1,h⟩:=Hh h
  cases h
  rw [List.length_cons,List.length_cons,hr.2 _ _ _ _ h1]
noncomputable def CL (a:Exs):Ex:=λro mu=>bM (a ro mu) λxs m1=>some (.tup xs,m1)
noncomputable def GW (a:Exs):Ex:=λro mu=>bM (a ro mu) λxs m1=>some (.lst xs,m1)
noncomputable def HM (a:Exs):Ex:=λro mu=>bM (a ro mu) λxs m1=>some (.ref m1.length,m1++[.lst xs])
theorem Rep.newTup (so:StoOk K th mu H){p:Addr}(h:H p=none){ds:List D}{vs:List V}(r:RepL K th H ds vs)(hz:ds.length≤sizeLine):Rep K th (upd H p (.tup vs)) (.tup ds) (.ref p):=by
 unfold Rep
 exact ⟨p,vs,rfl,SqT.of Ec,r.ext (.new h _) so.out,hz⟩
theorem StoOk.notin (so:StoOk K th mu H){p:Addr}(h:H p=none):p∉th:=λz=>by
 obtain ⟨xs,e,_⟩:=so.out p z
 rw [h] at e
 cases e
theorem Rep.newLst (so:StoOk K th mu H){p:Addr}(h:H p=none){ds:List D}{vs:List V}(r:RepL K th H ds vs)(hz:ds.length≤sizeLine):Rep K th (upd H p (.lst vs)) (.lst ds) (.ref p):=by
 unfold Rep
 exact ⟨p,vs,rfl,.inl ⟨so.notin h,.inl Ec⟩,r.ext (.new h _) so.out,hz⟩
theorem Cr {es:List Expr}{m:Exs}{x1}{pos:Pos}(h:SVA X es m)(hl:es.length≤1000:=by decide):SV X (.Tuple es x1 pos) (CL m):=⟨PE.weak (XI h.1) λst H Q q=>by
 obtain ⟨th,mu,ro,so,en,t⟩:=q
 obtain ⟨d,mu',e,_⟩:=id t
 obtain ⟨xs0,m0,e0,_⟩:=Hh e
 have hn:=h.2 _ _ _ _ e0
 have tb:Tr X.z th H (m ro mu) λds th' mu' H'=>ds.length≤1000∧Tr X.z th' H' (some (D.tup ds,mu')) (KV' X.z Q):=by
  obtain ⟨a,mu1,e1,q1⟩:=t.bind
  exact ⟨a,mu1,e1,λth' H' x s=>⟨by rw [h.2 _ _ _ _ e1];exact hl,q1 th' H' x s⟩⟩
 refine ⟨th,mu,ro,so,en,tb.mono λxs th1 mu1 H1 e1 s1 t1 vs rvs=>⟨?_,λp hp=>?_⟩⟩
 ·rw [rvs.len];exact AK t1.1 (by decide)
 ·exact t1.2.retX (.new hp _) (s1.new hp _) _ (Rep.newTup s1 hp rvs (AK t1.1 (by decide)))⟩
theorem Uh {es:List Expr}{m:Exs}{C:List D->Sto->Rs D}{st:L2.St}{ro:Ro}{k:D->List Addr->Sto->Hp->Prop}(h:SVA X es m)(hl:es.length≤1000)(t:Tr K th H (bM (m ro mu) C) k) :
  Tr K th H (m ro mu) λds th' mu' H'=>ds.length≤1000∧Tr K th' H' (C ds mu') k:=by
 obtain ⟨a,mu1,e1,q1⟩:=t.bind
 exact ⟨a,mu1,e1,λth' H' x s=>⟨by rw [h.2 _ _ _ _ e1];exact hl,q1 th' H' x s⟩⟩
theorem ED {es:List Expr}{m:Exs}{pos:Pos}(h:SVA X es m)(hl:es.length≤1000:=by decide):SV X (.List es pos) (GW m):=⟨PE.weak (R6 h.1) λst H Q q=>by
 obtain ⟨th,mu,ro,so,en,t⟩:=q
 refine ⟨th,mu,ro,so,en,(Uh (st:=st) h hl t).mono λxs th1 mu1 H1 e1 s1 t1 vs rvs=>⟨?_,λp hp=>?_⟩⟩
 ·rw [rvs.len];exact AK t1.1 (by decide)
 ·exact t1.2.retX (.new hp _) (s1.new hp _) _ (Rep.newLst s1 hp rvs (AK t1.1 (by decide)))⟩
theorem JM {es:List Expr}{m:Exs}{pos:Pos}(h:SVA X es m)(hl:es.length≤1000:=by decide):SV X (.List es pos) (HM m):=⟨PE.weak (R6 h.1) λst H Q q=>by
 obtain ⟨th,mu,ro,so,en,t⟩:=q
 refine ⟨th,mu,ro,so,en,(Uh (st:=st) h hl t).mono λxs th1 mu1 H1 e1 s1 t1 vs rvs=>⟨?_,λp hp=>?_⟩⟩
 ·rw [rvs.len];exact AK t1.1 (by decide)
 ·refine t1.2.retX (.newM hp _) (s1.newM hp rvs (AK t1.1 (by decide))) _ ?_
  unfold Rep
  exact ⟨p,rfl,by rw [← s1.len];simp⟩⟩
noncomputable def B7 (f:Fn)(a:Exs):Ex:=λro mu=>bM (a ro mu) λxs m1=>f xs m1
theorem Tj {f:Fn}{a:Exs}{st:L2.St}{Q:VK}(h:rdE K (B7 f a) st H Q):tCB (rL K f) (rdA K a) st H Q:=by
 obtain ⟨th,mu,ro,so,en,t⟩:=h
 exact ⟨th,mu,ro,so,en,t.bind.mono λxs th1 mu1 H1 e1 s1 t1 vs rvs=>⟨th1,mu1,xs,s1,rvs,t1⟩⟩
theorem Ck {x:Str}{id:String}{g:Fn}{e:Expr}{es:List Expr}{m:Exs}{p pos:Pos}(hc:CallV X (.builtin id) g)(hm:X.mg x=none)(hv:bootBuiltins x=some (.builtin id))(ha:SVA X (e::es) m)(hg:Gl X x:=by rfl)
  (hn:x≠"__name__":=by decide) (hdb:(x==("__debug__":Str))=false:=by decide) (hs1:starEach (e::es) X.env=(false,eval e X.env)::starEach es X.env:=by rfl) (hs2:(backTo pos (starEach es X.env)).any (·.1)=false:=by rfl):SV X (.Call (.Name x p) (e::es) [] pos) (B7 g m):=
 ⟨PE.weak (Oo hc hg hm hv ha.1 hn hdb hs1 hs2) λ_ _ _ h=>Tj h⟩
theorem Cw {x:Str}{T:String}{g:Fn}{e:Expr}{es:List Expr}{m:Exs}{p pos:Pos}(hc:CallV X (.type T) g)(hm:X.mg x=none)(hv:bootBuiltins x=some (.type T))(ha:SVA X (e::es) m)(hg:Gl X x:=by rfl)
  (hn:x≠"__name__":=by decide) (hdb:(x==("__debug__":Str))=false:=by decide) (hs1:starEach (e::es) X.env=(false,eval e X.env)::starEach es X.env:=by rfl) (hs2:(backTo pos (starEach es X.env)).any (·.1)=false:=by rfl):SV X (.Call (.Name x p) (e::es) [] pos) (B7 g m):=
 ⟨PE.weak (Ry hc hg hm hv ha.1 hn hdb hs1 hs2) λ_ _ _ h=>Tj h⟩
noncomputable def spF (K:Zc)(f:Fn)(n:Nat):Sp:=λvs H Q _=>∃ th mu ds,StoOk K th mu H∧RepL K th H ds vs∧ds.length=n∧Tr K th H (f ds mu) (KV' K Q)
structure Cal (P:Program) (w:World) (K:PySem.W.Frag) (mg:Str->Option Value) (base:Heap) (k:Nat) (x:Str) (f:Fn) (n:Nat):Prop where
 ex:∃ (ps:List Str) (a:Addr) (fd:FuncData),ps.length=n∧DH P w K mg base CX0 k a fd ps (spF ⟨K,P,w⟩ f n)∧Binds K fd ps []∧PySem.W.keepIn K (.ref a)=true∧mg x=some (.ref a)
theorem Ca {x:Str}{k:Nat}{f:Fn}{n:Nat}{e:Expr}{es:List Expr}{m:Exs}{p pos:Pos}(C:Cal X.prog X.w X.K X.mg X.base k x f n)(hr:Room k X.A)(ha:SVA X (e::es) m)(hl:(e::es).length=n:=by rfl)(hg:Gl X x:=by rfl)
  (hdb:(x==("__debug__":Str))=false:=by decide) (he:starEach (e::es) X.env=(false,eval e X.env)::starEach es X.env:=by rfl) (hpl:(backTo pos (starEach es X.env)).any (·.1)=false:=by rfl):SV X (.Call (.Name x p) (e::es) [] pos) (B7 f m):=⟨by
 obtain ⟨ps,a,fd,hn,F,b,kp,mm⟩:=C.ex
 refine PE.weak (U5 F hr hg mm kp b .nil Y5 ha.1 hdb he hpl) λst H Q h=>?_
 obtain ⟨th,mu,ro,so,en,t⟩:=h
 have tb:Tr X.z th H (m ro mu) λds th' mu' H'=>ds.length=n∧Tr X.z th' H' (f ds mu') (KV' X.z Q):=by
  obtain ⟨a,mu1,e1,q1⟩:=t.bind
  exact ⟨a,mu1,e1,λth' H' x s=>⟨by rw [ha.2 _ _ _ _ e1];exact hl,q1 th' H' x s⟩⟩
 exact ⟨th,mu,ro,so,en,tb.mono λxs th1 mu1 H1 e1 s1 t1 vs rvs=>⟨th1,mu1,xs,s1,by simpa using rvs,t1.1,t1.2⟩⟩⟩
noncomputable def sNx:Sx:=λro mu=>some ((.nx,ro),mu)
noncomputable def Cn (a b:Sx):Sx:=λro mu=>bM (a ro mu) λp m1=>match p.1 with
 | .nx=>b p.2 m1
 | _=>some (p,m1)
theorem Co:SVB X [] sNx:=⟨PSs.weak UR λE st H h=>by
 obtain ⟨th,mu,ro,so,en,t⟩:=h
 exact t.ret so st en⟩
theorem Cb {s:Stmt}{m:Sx}(h:SVS X s m):SVB X [s] m:=⟨UC h.r⟩
theorem B6 {s:Stmt}{r:List Stmt}{m n:Sx}(h1:SVS X s m)(h2:SVB X r n):SVB X (s::r) (Cn m n):=⟨PSs.weak (Td h1.r h2.r) λE st H h=>by
 obtain ⟨th,mu,ro,so,en,t⟩:=h
 refine ⟨th,mu,ro,so,en,t.bind.mono λp th1 mu1 H1 e1 s1 t1 st' en'=>?_⟩
 obtain ⟨fl,ro'⟩:=p
 cases fl with
 | nx=>exact ⟨th1,mu1,ro',s1,en',t1⟩
 | bk=>exact t1.ret s1 st' en'
 | ct=>exact t1.ret s1 st' en'
 | rt d=>exact t1.ret s1 st' en'⟩
noncomputable def sRt (a:Ex):Sx:=λro mu=>bM (a ro mu) λd m1=>some ((.rt d,ro),m1)
theorem Cc {e:Expr}{m:Ex}{pos:Pos}(h:SV X e m):SVS X (.Return (some e) pos) (sRt m):=⟨PS.weak (WG h.r) λE st H h=>by
 obtain ⟨th,mu,ro,so,en,t⟩:=h
 exact ⟨th,mu,ro,so,en,t.bind.mono λd th1 mu1 H1 e1 s1 t1 v rv=>t1.ret s1 st (en.ext e1 so.out) v rv⟩⟩
noncomputable def sEx (a:Ex):Sx:=λro mu=>bM (a ro mu) λ_ m1=>some ((.nx,ro),m1)
theorem JO {e:Expr}{m:Ex}{pos:Pos}(h:SV X e m)(hs:swapsWith e none pos.line X.env=pure false:=by rfl):SVS X (.Expr e pos) (sEx m):=⟨PS.weak (UN h.r hs) λE st H h=>by
 obtain ⟨th,mu,ro,so,en,t⟩:=h
 exact ⟨th,mu,ro,so,en,t.bind.mono λd th1 mu1 H1 e1 s1 t1 v rv=>t1.ret s1 st (en.ext e1 so.out)⟩⟩
noncomputable def sIf (c:Tx)(a b:Sx):Sx:=λro mu=>bM (c ro mu) λx m1=>if x=true then a ro m1 else b ro m1
theorem Ct {c:Expr}{a b:List Stmt}{mc:Tx}{ma mb:Sx}{pos:Pos}(hc:SVT X c mc)(ha:SVB X a ma)(hb:SVB X b mb):SVS X (.If c a b pos) (sIf mc ma mb):=⟨PS.weak (Aaj hc.r ha.r hb.r) λE st H h=>by
 obtain ⟨th,mu,ro,so,en,t⟩:=h
 refine ⟨th,mu,ro,so,en,t.bind.mono λb th1 mu1 H1 e1 s1 t1=>?_⟩
 cases b with
 | true=>exact ⟨th1,mu1,ro,s1,en.ext e1 so.out,t1⟩
 | false=>exact ⟨th1,mu1,ro,s1,en.ext e1 so.out,t1⟩⟩
noncomputable abbrev Gx:=D->Ro->Sto->Rs Ro
noncomputable abbrev Gxs:=List D->Ro->Sto->Rs Ro
noncomputable def rdG (K:Zc)(g:Gx):TG:=λv st H Q=>∃ th mu ro d,StoOk K th mu H∧EnvOk K th H ro st∧Rep K th H d v∧Tr K th H (g d ro mu) λro' th' _ H'=>∀ st',EnvOk K th' H' ro' st'->Q st' H'
noncomputable def AaP (K:Zc)(g:Gxs):TGs:=λvs st H Q=>∃ th mu ro ds,StoOk K th mu H∧EnvOk K th H ro st∧RepL K th H ds vs∧Tr K th H (g ds ro mu) λro' th' _ H'=>∀ st',EnvOk K th' H' ro' st'->Q st' H'
structure SVG (X:Cx) (e:Expr) (g:Gx):Prop where
 r:PG X e (rdG X.z g)
structure V0 (X:Cx) (es:List Expr) (g:Gxs):Prop where
 r:PGs X es (AaP X.z g)
theorem PG.weak {e:Expr}{t t':TG}(h:PG X e t)(f:∀ v st H Q,t' v st H Q->t v st H Q):PG X e t':=λpins s st H v u Q I r q=>h pins s st H v u Q I r (f v st H Q q)
theorem PGs.weak {e:List Expr}{t t':TGs}(h:PGs X e t)(f:∀ v st H Q,t' v st H Q->t v st H Q):PGs X e t':=λpins s st H v u Q I r q=>h pins s st H v u Q I r (f v st H Q q)
noncomputable def gNm (i:Nat):Gx:=λd ro mu=>some (ro.set i (some d),mu)
theorem Ce (i:Nat){x:Str}{pos:Pos}(hN:X.N.Nodup)(hi:X.N[i]? = some x:=by rfl)(hx:Loc X.env.scope x:=by first|exact Or.inl rfl|exact Or.inr rfl)(hf:X.fn x=true∨X.env.scope.names.lookup x=some .local:=by first|exact .inl rfl|exact .inr rfl):SVG X (.Name x pos) (gNm i):=
 ⟨PG.weak (VP hN hi hx hf) λv st H Q h=>by
  obtain ⟨th,mu,ro,d,so,en,r,t⟩:=h
  exact t.ret so _ (en.set i r)⟩
noncomputable def EB:Gxs:=λds ro mu=>match ds with
 | []=>some (ro,mu)
 | _=>none
noncomputable def Cy (g:Gx)(r:Gxs):Gxs:=λds ro mu=>match ds with
 | d::ds=>bM (g d ro mu) λro' m1=>r ds ro' m1
 | []=>none
theorem Fg:V0 X [] EB:=⟨PGs.weak VT λv st H Q h=>by
 obtain ⟨th,mu,ro,ds,so,en,r,t⟩:=h
 cases ds with
 | nil=>exact ⟨r.inv0,t.ret so _ en⟩
 | cons d ds=>exact t.no.elim⟩
theorem CN {e:Expr}{es:List Expr}{g:Gx}{gs:Gxs}(h1:SVG X e g)(h2:V0 X es gs)(hs:(assignEach (e::es) X.env).map (·.2)=assign e X.env::(assignEach es X.env).map (·.2):=by rfl):V0 X (e::es) (Cy g gs):=⟨PGs.weak (Sb h1.r h2.r hs) λv st H Q h=>by
 obtain ⟨th,mu,ro,ds,so,en,r,t⟩:=h
 cases ds with
 | nil=>exact t.no.elim
 | cons d ds =>
  obtain ⟨v,vr,rfl,r1,r2⟩:=r.inv
  refine ⟨v,vr,rfl,th,mu,ro,d,so,en,r1,?_⟩
  exact Tr.mono (Tr.bind t) λro' th1 mu1 H1 e1 s1 t1 st' en'=>⟨th1,mu1,ro',ds,s1,en',r2.ext e1 so.out,t1⟩⟩
noncomputable def gTp (n:Nat)(g:Gxs):Gx:=λd ro mu=>match d with
 | .tup ds=>if ds.length=n then g ds ro mu else none
 | _=>none
theorem Gi {es:List Expr}{k n:Nat}{g:Gxs}{pos:Pos}(hc:X.calm=true)(h:V0 X es g)(hn:(assignEach es X.env).length=n:=by rfl)(hst:(assignEach es X.env).findIdx? (·.1)=none:=by rfl):SVG X (.Tuple es k pos) (gTp n g):=
 ⟨PG.weak (XA hc h.r hn hst) λv st H Q q=>by
  obtain ⟨th,mu,ro,d,so,en,r,t⟩:=q
  cases d with
  | tup ds =>
   unfold Rep at r
   obtain ⟨a,vs,rfl,hs,rl,_⟩:=r
   unfold gTp at t;dsimp only at t
   by_cases e:ds.length=n
   ·rw [if_pos e] at t
    exact ⟨a,vs,rfl,hs,by rw [rl.len];exact e,th,mu,ro,ds,so,en,rl,t⟩
   ·rw [if_neg e] at t;exact t.no.elim
  | _=>exact t.no.elim⟩
noncomputable def CM (a:Ex)(g:Gx):Sx:=λro mu=>bM (a ro mu) λd m1=>bM (g d ro m1) λro' m2=>some ((.nx,ro'),m2)
theorem VF {a:Ex}{g:Gx}{st:L2.St}{E:Ends}(h:rdS K (CM a g) E st H):Us (rdE K a) (rdG K g) E st H:=by
 obtain ⟨th,mu,ro,so,en,t⟩:=h
 refine ⟨th,mu,ro,so,en,t.bind.mono λd th1 mu1 H1 e1 s1 t1 v rv=>?_⟩
 refine ⟨th1,mu1,ro,d,s1,en.ext e1 so.out,rv,t1.bind.mono λro' th2 mu2 H2 e2 s2 t2 st' en'=>?_⟩
 exact t2.ret s2 st' en'
theorem HB {tg e:Expr}{m:Ex}{g:Gx}{pos:Pos}(he:SV X e m)(hg:SVG X tg g)(hs:swapsWithSole [tg] e pos.line X.env=pure false:=by rfl)(hw:swappedStores [tg] e X.env=pure none:=by rfl)
  (h1:(assignEach [tg] X.env).map (·.2)=[assign tg X.env]:=by rfl):SVS X (.Assign [tg] e pos) (CM m g):=⟨PS.weak (W8 he.r hg.r hs hw h1) λ_ _ _ h=>VF h⟩
theorem Cp (i:Nat){x:Str}{e:Expr}{m:Ex}{pos pos':Pos}(hN:X.N.Nodup)(he:SV X e m)(hi:X.N[i]? = some x:=by rfl)(hx:Loc X.env.scope x:=by first|exact Or.inl rfl|exact Or.inr rfl)(hs:swapsWith e (some (.Name x pos')) pos.line X.env=pure false:=by rfl)
  (hf:X.fn x=true∨X.env.scope.names.lookup x=some .local:=by first|exact .inl rfl|exact .inr rfl):SVS X (.Assign [.Name x pos'] e pos) (CM m (gNm i)):=⟨PS.weak (WA hN hi hx he.r hs hf) λE st H h=>by
 obtain ⟨th,mu,ro,so,en,t⟩:=h
 refine ⟨th,mu,ro,so,en,t.bind.mono λd th1 mu1 H1 e1 s1 t1 v rv=>?_⟩
 exact t1.ret s1 _ ((en.ext e1 so.out).set i rv)⟩
noncomputable def VH (i j:Nat)(a:Exs):Sx:=λro mu=>bM (a ro mu) λds m1=>match ds with
 | [x,y]=>some ((.nx,(ro.set i (some x)).set j (some y)),m1)
 | _=>none
theorem UH (i j:Nat){x y:Str}{a b:Expr}{m:Exs}{px py pt:Pos}{kt k2 pt2}{pos:Pos}(hc:X.calm=true)(hN:X.N.Nodup)(ha:SVA X [a,b] m)
  (hw:swappedStores [.Tuple [.Name x px,.Name y py] kt pt] (.Tuple [a,b] k2 pt2) X.env=pure (some [x,y]))
  (hi:X.N[i]? = some x:=by rfl) (hj:X.N[j]? = some y:=by rfl) (hij:i≠j:=by decide)
  (hx:X.env.scope.names.lookup x=some .local:=by rfl) (hy:X.env.scope.names.lookup y=some .local:=by rfl)
  (hs:swapsWithSole [.Tuple [.Name x px,.Name y py] kt pt] (.Tuple [a,b] k2 pt2) pos.line X.env=pure false:=by rfl) :
  SVS X (.Assign [.Tuple [.Name x px,.Name y py] kt pt] (.Tuple [a,b] k2 pt2) pos) (VH i j m):=⟨PS.weak (X8 hc hN hi hj hij hx hy ha.1 hw hs) λE st H h=>by
 obtain ⟨th,mu,ro,so,en,t⟩:=h
 refine ⟨th,mu,ro,so,en,t.bind.mono λds th1 mu1 H1 e1 s1 t1 vs rvs=>?_⟩
 match ds,t1,rvs with
 | [d,d'],t1,rvs =>
  obtain ⟨v,r,rfl,r1,r2⟩:=rvs.inv
  obtain ⟨u,r',rfl,r3,r4⟩:=r2.inv
  cases r4.inv0
  exact ⟨v,u,rfl,t1.ret s1 _ (((en.ext e1 so.out).set i r1).set j r3)⟩
 | [],t1,_=>exact t1.no.elim
 | [_],t1,_=>exact t1.no.elim
 | _::_::_::_,t1,_=>exact t1.no.elim⟩
noncomputable def fnB (n:Nat)(m:Sx):Fn:=λds mu=>bM (m (ds.map some++List.replicate (n-ds.length) none) mu) λp m1=>match p.1 with
 | .rt d=>some (d,m1)
 | .nx=>some (.non,m1)
 | _=>none
theorem Kt {N:List Str}{ds:List D}{vs:List V}(r:RepL K th H ds vs):EnvOk K th H (ds.map some++List.replicate (N.length-ds.length) none) (L2.start N vs):=by
 unfold L2.start
 refine ⟨by simp [r.len],λi d e=>?_⟩
 by_cases hi:i<ds.length
 ·rw [Av (by simpa using hi),Au] at e
  cases q:ds[i]? with
  | none=>rw [q] at e;cases e
  | some d' =>
   rw [q] at e
   have:d'=d:=by simpa using e
   subst this
   obtain ⟨v,ev,rv⟩:=r.get q
   exact ⟨v,by rw [Av (by simpa [r.len] using hi),Au,ev];rfl,rv⟩
 ·rw [AS (by simpa using hi),Bw] at e
  split at e<;>cases e
theorem ZX {P:Program}{w:World}{K:PySem.W.Frag}{mg:Str->Option Value}{base:Heap}{x qual:Str}{st:Stmt}{f:Addr}{fd:FuncData}{N ps:List Str}{k:Nat}{m:Sx}(F:Fun K x qual st f fd)(S:Cu N ps (B9 st))
  (hbody:∀ (cdv:Value) (A:Around) (outer:List Env) (s:Shared) (H:Hp) (E:XK),Room k (A.deeper (envOfC qual (B9 st) s.heap.objs.size f cdv)) ->
   SVB (L0 CX0 P w K mg base N qual (B9 st) f cdv A outer s H E).nox (EV st) m):DH P w K mg base CX0 (k+1) f fd ps (spF ⟨K,P,w⟩ (fnB N.length m) ps.length):=by
 refine F.ok S (λvs H Q E h=>?_) (λcdv A outer s H vs Q E hr h=>?_)
 ·obtain ⟨th,mu,ds,_,r,hl,_⟩:=h
  rw [r.len]
  exact hl
 ·obtain ⟨th,mu,ds,so,r,hl,t⟩:=h
  refine ⟨_,(hbody cdv A outer s H E hr).r,?_⟩
  refine ⟨th,mu,_,so,Kt r,t.bind.mono λp th1 mu1 H1 e1 s1 t1 st' en'=>?_⟩
  obtain ⟨fl,ro'⟩:=p
  cases fl with
  | nx=>exact t1.ret s1 _ (by unfold Rep;rfl)
  | bk=>exact t1.no.elim
  | ct=>exact t1.no.elim
  | rt d=>exact λv rv=>t1.ret s1 v rv
theorem CS (n np:Nat){P:Program}{w:World}{K:PySem.W.Frag}{mg:Str->Option Value}{base:Heap}{x qual:Str}{st:Stmt}{f:Addr}{fd:FuncData}{N ps:List Str}{k:Nat}{m:Sx}(F:Fun K x qual st f fd)(S:Cu N ps (B9 st))(hn:N.length=n)(hp:ps.length=np)
  (hbody:∀ (cdv:Value) (A:Around) (outer:List Env) (s:Shared) (H:Hp) (E:XK),Room k (A.deeper (envOfC qual (B9 st) s.heap.objs.size f cdv)) ->
   SVB (L0 CX0 P w K mg base N qual (B9 st) f cdv A outer s H E).nox (EV st) m):DH P w K mg base CX0 (k+1) f fd ps (spF ⟨K,P,w⟩ (fnB n m) np):=by
 subst hn hp
 exact ZX F S hbody
theorem CH {P:Program}{w:World}{K:PySem.W.Frag}{mg:Str->Option Value}{base:Heap}{x:Str}{st:Stmt}{f:Addr}{fd:FuncData}{ps:List Str}{k n:Nat}{g:Fn}(F:Fun K x x st f fd)(hm:mg x=some (.ref f))(h:DH P w K mg base CX0 k f fd ps (spF ⟨K,P,w⟩ g n))(hb:Binds K fd ps [])(hn:ps.length=n:=by rfl):Cal P w K mg base k x g n:=
 ⟨ps,f,fd,hn,h,hb,F.kp,hm⟩
noncomputable abbrev Ix:=Ro->Sto->Rs (List D×Option Nat)
noncomputable def gOk (g:Option Nat)(m0 m:Sto):Prop:=match g with
 | none=>True
 | some k=>m0[k]? = m[k]?
structure QI (K:Zc) (J:It) (th:List Addr) (mu:Sto) (H:Hp) (ds:List D) (g:Option Nat):Prop where
 sz:ds.length≤sizeLine
 go:∀ th' mu' H',Ext th H th' H'->StoOk K th' mu' H'->gOk g mu mu'->∀ (i:Nat) (d:D),ds[i]? = some d->J.go i H'∧∀ x H2,J.yld i H' x H2->Ext th' H' th' H2∧StoOk K th' mu' H2∧Rep K th' H2 d x
 stop:∀ th' mu' H',Ext th H th' H'->StoOk K th' mu' H'->gOk g mu mu'->J.stop ds.length H'
noncomputable def rdI (K:Zc)(m:Ix):TI:=λst H R=>∃ th mu ro,StoOk K th mu H∧EnvOk K th H ro st∧Tr K th H (m ro mu) λp th' mu' H'=>∀ J,QI K J th' mu' H' p.1 p.2->R J H'
structure SVI (X:Cx) (tg iter:Expr) (m:Ix):Prop where
 r:PI X tg iter (rdI X.z m)
theorem PI.weak {tg e:Expr}{t t':TI}(h:PI X tg e t)(f:∀ st H R,t' st H R->t st H R):PI X tg e t':=λpins s st H R I q=>h pins s st H R I (f st H R q)
open Classical in
noncomputable def EY {A:Type}(g:Option Nat)(m0 m:Sto)(r:Rs A):Rs A:=if gOk g m0 m then r else none
theorem PC {A:Type}{m0 m:Sto}{r:Rs A}:EY none m0 m r=r:=by unfold EY;rw [if_pos (show gOk none m0 m from True.intro)]
theorem Gu {A:Type}{g:Option Nat}{m0 m:Sto}{r:Rs A}{p:A×Sto}(h:EY g m0 m r=some p):gOk g m0 m∧r=some p:=by
 unfold EY at h
 by_cases e:gOk g m0 m
 ·rw [if_pos e] at h;exact ⟨e,h⟩
 ·rw [if_neg e] at h;cases h
noncomputable def Hc (g:Option Nat)(m0:Sto)(tg:Gx)(body:Sx):List D->Ro->Sto->Rs (Fl×Ro)
 | [],ro,mu=>some ((.nx,ro),mu)
 | d::ds,ro,mu=>bM (tg d ro mu) λro1 m1=>bM (body ro1 m1) λp m2=>match p.1 with
  | .nx=>EY g m0 m2 (Hc g m0 tg body ds p.2 m2)
  | .ct=>EY g m0 m2 (Hc g m0 tg body ds p.2 m2)
  | .bk=>some ((.nx,p.2),m2)
  | .rt d=>some ((.rt d,p.2),m2)
noncomputable def Lc (i:Ix)(tg:Gx)(body:Sx):Sx:=λro mu=>bM (i ro mu) λp m1=>Hc p.2 m1 tg body p.1 ro m1
theorem IQ {tg iter:Expr}{body:List Stmt}{i:Ix}{g:Gx}{m:Sx}{pos:Pos}(hp:PassesOwn (model X.prog X.w) X.A X.env X.xe)(hc:X.calm=true)(hi:SVI X tg iter i)(hg:SVG X tg g)(hb:SVB X body m)
  (hs:∀ x,foldedSetIterable iter X.env x=pure x:=by intro _;rfl):SVS X (.For tg iter body [] pos) (Lc i g m):=⟨PS.weak (Wv hp hc hi.r hg.r hb.r hs) λE st H h=>by
 obtain ⟨th,mu,ro,so,en,t⟩:=h
 refine ⟨th,mu,ro,so,en,t.bind.mono λp th1 mu1 H1 e1 s1 t1 J ok=>?_⟩
 obtain ⟨ds,gd⟩:=p
 have en1:=en.ext e1 so.out
 refine ⟨λk n st' H'=>n=ds.length-k∧k≤ds.length∧∃ th' mu' ro',StoOk X.z th' mu' H'∧EnvOk X.z th' H' ro' st'∧Ext th1 H1 th' H'∧gOk gd mu1 mu'∧Tr X.z th' H' (Hc gd mu1 g m (ds.drop k) ro' mu') (XX X.z E),⟨_,rfl,A3 _,th1,mu1,ro,s1,en1,.refl _ _,?_,t1⟩,?_⟩
 ·cases gd with
  | none=>exact True.intro
  | some k=>exact rfl
 rintro k n st2 H2 ⟨rfl,hk,th2,mu2,ro2,s2,en2,e2,g2,t2⟩
 by_cases lt:k<ds.length
 ·refine .inr ?_
  have ek:ds[k]? = some ds[k]:=by simp
  obtain ⟨a1,a2⟩:=ok.go th2 mu2 H2 e2 s2 g2 k ds[k] ek
  refine ⟨a1,λst' H'=>k+1≤ds.length∧∃ th' mu' ro',StoOk X.z th' mu' H'∧EnvOk X.z th' H' ro' st'∧Ext th1 H1 th' H'∧gOk gd mu1 mu'∧Tr X.z th' H' (Hc gd mu1 g m (ds.drop (k+1)) ro' mu') (XX X.z E),λst' H' q=>⟨ds.length-(k+1),by omega,rfl,q⟩,λx H3 y=>?_⟩
  obtain ⟨e3,s3,r3⟩:=a2 x H3 y
  rw [BF lt] at t2
  unfold Hc at t2
  refine ⟨th2,mu2,ro2,ds[k],s3,en2.ext e3 s2.out,r3,?_⟩
  refine (t2.ahead e3).bind.mono λro4 th4 mu4 H4 e4 s4 t4 st4 en4=>?_
  refine ⟨th4,mu4,ro4,s4,en4,t4.bind.mono λp th5 mu5 H5 e5 s5 t5 st5 en5=>?_⟩
  obtain ⟨fl,ro5⟩:=p
  have e15:Ext th1 H1 th5 H5:=((e2.trans e3).trans e4).trans e5
  cases fl with
  | nx =>
   obtain ⟨a,mu',q1,q2⟩:=t5
   obtain ⟨go5,q1⟩:=Gu q1
   exact ⟨lt,th5,mu5,ro5,s5,en5,e15,go5,a,mu',q1,q2⟩
  | ct =>
   obtain ⟨a,mu',q1,q2⟩:=t5
   obtain ⟨go5,q1⟩:=Gu q1
   exact ⟨lt,th5,mu5,ro5,s5,en5,e15,go5,a,mu',q1,q2⟩
  | bk=>exact t5.ret s5 st5 en5
  | rt d=>exact t5.ret s5 st5 en5
 ·have e:k=ds.length:=by omega
  subst e
  rw [List.drop_length] at t2
  unfold Hc at t2
  exact .inl ⟨ok.stop th2 mu2 H2 e2 s2 g2,t2.ret s2 st2 en2⟩⟩
end
end PV
namespace L2
open PySem PySem.Spec PyProof.Rows
section
variable {X:Cx} {tg iter elt:Expr} {ifs:List Expr} {scope:Scope} {pos:Pos} {wi:TI} {own:List Str} {fv:List (Nat×Str)} {g:TG} {tt:TT} {te:TE}
theorem XH {pos2:Pos}{pins:List (Addr×Obj)}{s:Shared}{σ:L2.St}{H:Hp}{Q:VK}{use:Option (Value->Sem Unit)}{Qc:Value->Shared->Prop}(L:KS X scope fv)(hi:PI X tg iter wi)
  (hg:∀ cl C s₁ H₁ fp,PG (CF X scope (own++fv.map (·.2)) cl C s₁ H₁ fp) tg g)
  (ht:∀ cl C s₁ H₁ fp,PF (CF X scope (own++fv.map (·.2)) cl C s₁ H₁ fp) ifs tt)
  (he:∀ cl C s₁ H₁ fp,PE (CF X scope (own++fv.map (·.2)) cl C s₁ H₁ fp) elt te)
  (hs:∀ x,foldedSetIterable iter X.env x=pure x) (I:Inv X pins σ H s) (h:tLC wi own.length fv g tt te σ H Q)
  (fin:∀ (s6:Shared) (H':Hp) (D C:Addr) (m:Str->Option Value),Inv X pins σ H' s6->IV X pins H' C->s6.heap.Ns C m->Q (.ref D) H'->compPost (model X.prog X.w) X.A X.xe use Qc (.ref D) C (.ok .next) s6) :
  wpAny (model X.prog X.w) X.A (comprehension (.ListComp elt [⟨tg,iter,ifs,0⟩] scope pos) scope X.env pos2 (newList []) false (eval iter X.env) use) Qc X.xe s:=by
 obtain ⟨cl,hclos,hsub,hhas⟩:=Je (scope:=scope) (env:=X.env) λy hy hf=>I.ok.has y.1 (L.free y hy hf)
 refine wpAny_comprehension_free (use:=use) rfl hs hclos L.kind L.names (thn (hi pins s σ H _ I h) λv s1 h1=>thn h1 λitv s2 h2=>?_)
 obtain ⟨it,fp,tn,J,H2,e,I2,T,st2,f2,W,⟨m0,w0⟩,turn⟩:=h2
 subst e
 have hfo:∀ b∈fp,∃ o,s2.heap.get? b=some o:=λb hb=>let ⟨o,e,_⟩:=T.obj _ _ st2 b hb;⟨o,e⟩
 refine AO (wpAny_newFunctionEnv L.cell (by intro y hy;simp at hy) (λh₁ hns₁ hsb₁=>?_) L.kind)
 dsimp only at hns₁ hsb₁ ⊢
 have hCe:(s2.heap.push { cls:=.type "list",dict:=none,data:=.seq ([]:List Value).toArray }).objs.size=s2.heap.objs.size+1:=Bt _ _
 rw [hCe] at hns₁ hsb₁ ⊢
 have old:∀ b o,s2.heap.get? b=some o->h₁.get? b=some o:=λb o e=>hsb₁.extBut b o (Ar (A0 (Ak e))) (Ad _ (Ad _ e))
 have hD₁:h₁.get? s2.heap.objs.size=some { cls:=.type "list",data:=.seq #[] 0 }:=hsb₁.extBut _ _ (Ar (AQ _)) (Ad _ (Am _ rfl))
 have I4:=Ln (own:=own) (tk:=s2.toks+([]:List (Str×Value)).length) I2 L f2 hfo hsub hhas hns₁ old hD₁
 generalize hXc:CF X scope (own++fv.map (·.2)) cl (s2.heap.objs.size+1) s2 H2 fp=Xc at I4
 have hg':=hg cl (s2.heap.objs.size+1) s2 H2 fp
 have ht':=ht cl (s2.heap.objs.size+1) s2 H2 fp
 have he':=he cl (s2.heap.objs.size+1) s2 H2 fp
 have st4:tn 0 h₁:=T.keep _ _ _ st2 λb _ o e=>old b o e
 have celllt:∀ x c,cl.lookup x=some c->c<s2.heap.objs.size:=λx c e=>by
  obtain ⟨v,z⟩:=I2.cell x c (hsub x c e)
  exact z.lt
 have nst:s2.heap.objs.size∉frs X.stack:=λhm=>by
  rcases An.mp (I2.stkSub _ hm) with e|e
  ·exact absurd I2.lt (by rw [← e];exact A6 _)
  ·exact I2.nofs (Ah _) e
 rw [hXc] at hg' ht' he'
 have loop:∀ s4:Shared,s4={ s2 with heap:=h₁,toks:=s2.toks+([]:List (Str×Value)).length } ->
   codeAny (model X.prog X.w) X.A (.compLoop (.ListComp elt [⟨tg,iter,ifs,0⟩] scope pos) 0 (.ref it) (.ref s2.heap.objs.size) (compEnvC scope cl (s2.heap.objs.size+1) X.env))
    (compPost (model X.prog X.w) X.A X.xe use Qc (.ref s2.heap.objs.size) (s2.heap.objs.size+1)) s4:=by
  rintro s4 rfl
  have fpok:∀ {pl:List (Addr×Obj)} {H':Hp},(∀ p∈pl,p.1=s2.heap.objs.size)->(∀ b∈fp,H' b=none)->∀ b∈fp,IV Xc pl H' b:=λ{pl H'} hpl hn b hb=>by
   obtain ⟨o,eo⟩:=hfo b hb
   have blt:=Ak eo
   subst hXc
   refine ⟨hn b hb,Ar (A0 blt),λhm=>?_,.inl hb,λx c e=>(f2 b hb).2.2.2.2.1 x c (hsub x c e),λp hp=>?_⟩
   ·obtain ⟨_,f1,f3,_⟩:=f2 b hb
    rcases An.mp (I2.stkSub b hm) with e|e
    ·exact f1 e
    ·exact f3 e
   ·have hp':p∈pl:=by simpa [CF] using hp
    rw [hpl p hp']
    exact BH blt
  have xP:Xc.prog=X.prog:=by subst hXc;rfl
  have xw:Xc.w=X.w:=by subst hXc;rfl
  have xK:Xc.K=X.K:=by subst hXc;rfl
  have xA:Xc.A=X.A:=by subst hXc;rfl
  have xc:Xc.calm=true:=by subst hXc;exact L.calm
  have xx:Xc.xe=λ_ _=>False:=by subst hXc;rfl
  have xe:Xc.env=compEnvC scope cl (s2.heap.objs.size+1) X.env:=by subst hXc;rfl
  have xs:Xc.s₀=s2:=by subst hXc;rfl
  have xH:Xc.H₀=H2:=by subst hXc;rfl
  have xf:Xc.fs=frs X.stack:=by subst hXc;rfl
  have xex:Xc.ex=fp:=by subst hXc;rfl
  have xpn:Xc.pn=[]:=by subst hXc;rfl
  refine Kx (λn s'=>∃ i ys its k σ' H',Inv Xc [(s2.heap.objs.size,{ cls:=.type "list",data:=.seq its k })] σ' H' s'∧Vals ys its.toList∧tn i s'.heap∧(∀ b∈fp,H' b=none)∧W i n ys σ' H') ?_ m0
   ⟨0,[],#[],0,_,H2,I4,.nil,st4,λb hb=>(f2 b hb).1,w0⟩
  rintro n s5 ⟨i,ys,its,k,σ5,H5,I5,r5,st5,fr5,w5⟩
  obtain ⟨hlen,hst⟩:=turn i n ys σ5 H5 w5
  have hf5:=fpok (pl:=[(s2.heap.objs.size,{ cls:=.type "list",data:=.seq its k })]) (λp hp=>by simp at hp;rw [hp]) fr5
  rcases hst with ⟨stop,qn⟩|⟨go,step⟩
  ·-- the end
   have d:=T.done Xc xP xw xK xc i _ s5 σ5 H5 (λ_ _=>False) I5 hf5 st5 stop
   rw [xA] at d
   refine thn d λr s6 ⟨hr,I6⟩=>?_
   subst hr
   obtain ⟨m,hn,_⟩:=I6.loc
   rw [xe] at hn
   obtain ⟨eD,nD,_⟩:=I6.pin (s2.heap.objs.size,_) (Aj _ (Al.mpr rfl))
   have nC:H5 (s2.heap.objs.size+1)=none:=by have:=I6.free;rw [xe] at this;exact this
   have U:Un (frs X.stack) fp H2 H5 s2.heap s6.heap:=by have:=I6.base;rw [xf,xex,xs,xH] at this;exact this
   have ok6:HOk X.prog X.w H5 s6.heap:=by have:=I6.hok;rw [xP,xw] at this;exact this
   have J6:Inv X pins σ (upd H5 s2.heap.objs.size (.lst ys)) s6:=I2.call' (s':=s6) (by have:=I6.os;rw [xs] at this;exact this) (U.lay (Ah _) nD) (ok6.lay nD ⟨hlen,its.toList,k,r5,by simpa using eD⟩) I6.bare λb hb=>by
    obtain ⟨_,f1,_,f3,f4,f5⟩:=f2 b hb
    exact ⟨f3,f1,f4,f5⟩
   exact fin s6 _ _ _ m J6 (I2.fpOk (Bc _) (by rw [Dj (BH (AQ _))];exact nC)) hn (qn _ nD)
  ·have d:=T.item Xc xP xw xK xc i _ s5 σ5 H5 (λ_ _=>False) I5 hf5 st5 go
   rw [xA] at d
   refine thn d λr s6 ⟨u,hr,h6⟩=>?_
   subst hr
   refine thn h6 λ_ s7 ⟨x,H7,I7,r7,y7,st7,fr7⟩=>?_
   have I7':=I7.pinned (fpok (pl:=[(s2.heap.objs.size,{ cls:=.type "list",data:=.seq its k })]) (λp hp=>by simp at hp;rw [hp]) fr7) (T.obj _ _ st7)
   have a:=hg' _ s7 σ5 H7 x u _ I7' r7 (step x H7 y7)
   rw [xP,xw,xA,xx,xe] at a
   refine thn a λ_ s8 ⟨σ8,H8,I8,q8⟩=>?_
   have b:=ht' _ s8 σ8 H8 _ I8 q8
   rw [xP,xw,xA,xx,xe] at b
   refine thn b λok s9 ⟨H9,I9,q9⟩=>?_
   have back:∀ {s':Shared} {σ':St} {H':Hp},Inv Xc ([(s2.heap.objs.size,{ cls:=.type "list",data:=.seq its k })]++HG fp s7.heap) σ' H' s' ->
     tn (i+1) s'.heap∧(∀ b∈fp,H' b=none)∧s'.heap.get? s2.heap.objs.size=some { cls:=.type "list",data:=.seq its k }∧H' s2.heap.objs.size=none:=λ{s' σ' H'} J'=>by
    refine ⟨T.keep _ _ _ st7 λb hb o e=>(J'.pin (b,o) (Aj _ (Aj _ (EH hb e)))).1,λb hb=>?_,?_,?_⟩
    ·obtain ⟨o,e,_⟩:=T.obj _ _ st7 b hb
     exact (J'.pin (b,o) (Aj _ (Aj _ (EH hb e)))).2.1
    ·exact (J'.pin (s2.heap.objs.size,_) (Aj _ (AZ _ (Al.mpr rfl)))).1
    ·exact (J'.pin (s2.heap.objs.size,_) (Aj _ (AZ _ (Al.mpr rfl)))).2.1
   cases ok with
   | false =>
    rw [if_neg AB] at q9 ⊢
    obtain ⟨m',hm,w9⟩:=q9
    obtain ⟨b1,b2,_,_⟩:=back I9
    exact ⟨m',hm,i+1,ys,its,k,σ8,H9,I9.unpinned,r5,b1,b2,w9⟩
   | true =>
    rw [if_pos rfl] at q9 ⊢
    have c:=he' _ s9 σ8 H9 _ I9 q9
    rw [xP,xw,xA,xx,xe] at c
    refine thn c λu' s10 ⟨y,H10,I10,r10,m',hm,w10⟩=>?_
    obtain ⟨b1,b2,b3,b4⟩:=back I10
    have hz:its.size≤sizeLine:=by
     have e:=r5.length
     simp only [Array.length_toList] at e
     omega
    refine wpAny_list_append_plain (hsz:=hz) ⟨k,b3⟩ λh' hl' sb=>?_
    obtain ⟨k',hk'⟩:=hl'
    have I11:Inv Xc [] σ8 H10 s10:=I10.pins_of λp hp=>nomatch hp
    have nDL:s2.heap.objs.size≠Xc.env.locals:=by rw [xe];exact Ar (AQ _)
    have I12:Inv Xc [] σ8 H10 { s10 with heap:=h' }:=I11.turned (t':=s10.toks) (it:=s2.heap.objs.size) (λb o hb e=>(sb.2 b hb).trans e) b4 nDL
     (.inr (by rw [xs];exact Ah _)) (λx c e=>by rw [xe] at e;exact Ar (celllt x c e)) (λp hp=>by rw [xpn] at hp;exact nomatch hp)
    have I13:Inv Xc [(s2.heap.objs.size,{ cls:=.type "list",data:=.seq (its.push u') k' })] σ8 H10 { s10 with heap:=h' }:=I12.pins_of λp hp=>by
     have e:p=(s2.heap.objs.size,{ cls:=.type "list",data:=.seq (its.push u') k' }):=by simpa using hp
     subst e
     exact ⟨hk',b4,nDL,by rw [xf];exact nst,λv z=>by cases z⟩
    refine ⟨m',hm,i+1,ys++[y],its.push u',k',σ8,H10,I13,?_,T.keep _ _ _ b1 λb hb o e=>(sb.2 b ?_).trans e,b2,w10⟩
    ·rw [BM]
     exact r5.append (.cons r10 .nil)
    ·obtain ⟨o',eo⟩:=hfo b hb
     exact Ar (Ak eo)
 exact codeAny_compStart_list (loop _ rfl) (T.self _ 0 _ _ _ st4 (loop _ rfl))
theorem Ml {C:Addr}{h h':Heap}(sb:Heap.SameBut C h h'):∀ b o,b∉[C]->h.get? b=some o->h'.get? b=some o:=λb o hb e=>(sb.2 b (by simpa using hb)).trans e
theorem RU {i:Nat}{x:Str}{px spos:Pos}(L:KS X scope fv)(hi:PI X tg iter wi)
  (hg:∀ cl C s₁ H₁ fp,PG (CF X scope (own++fv.map (·.2)) cl C s₁ H₁ fp) tg g)
  (ht:∀ cl C s₁ H₁ fp,PF (CF X scope (own++fv.map (·.2)) cl C s₁ H₁ fp) ifs tt)
  (he:∀ cl C s₁ H₁ fp,PE (CF X scope (own++fv.map (·.2)) cl C s₁ H₁ fp) elt te)
  (hN:X.N.Nodup) (hix:X.N[i]? = some x) (hx:Loc X.env.scope x) (hf:X.fn x=true∨X.env.scope.names.lookup x=some .local)
  (hsw:swapsWith (.ListComp elt [⟨tg,iter,ifs,0⟩] scope pos) (some (.Name x px)) spos.line X.env=pure true) (hs:∀ x,foldedSetIterable iter X.env x=pure x) :
  PS X (.Assign [.Name x px] (.ListComp elt [⟨tg,iter,ifs,0⟩] scope pos) spos) (Us (tLC wi own.length fv g tt te) (Tq i)):=by
 intro pins s σ H E I h
 (rw [exec_Assign_Name_used _ _ _ _ hsw])
 refine Aa (wpAny_standAt (Aa ?_))
 show wpAny _ X.A (do let _←comprehension (.ListComp elt [⟨tg,iter,ifs,0⟩] scope pos) scope X.env _ (newList []) false (eval iter X.env) (some (assign (.Name x px) X.env))) _ _ s
 refine Aa (BQ (XH (use:=some (assign (.Name x px) X.env)) (Qc:=λ_ s'=>SP X pins E .next s') (pos:=pos) L hi hg ht he hs I h λs6 H' D C m J6 fC nsC q=>?_) (λ_ s' hq=>Ac (Ac hq)) λ_ _ e=>e)
 obtain ⟨oC,es,ep,hoC,hdC,rC⟩:=id nsC
 have J7:Inv X (pins++[(C,oC)]) σ H' s6:=J6.pins_of λp hp=>(AI.mp hp).elim (λz=>J6.pin p (Aj _ z)) λz=>by
  have e:p=(C,oC):=by simpa using z
  subst e
  obtain ⟨f0,f1,f2,_⟩:=fC
  exact ⟨hoC,f0,f1,f2,λv z=>by rw [hdC] at z;cases z⟩
 show wpAny _ X.A (assign (.Name x px) X.env (.ref D)) _ _ _
 refine wpAny_assign_Name (FW J7 hN hix hx (show RelV (.ref D) (.ref D) from rfl) (λs8 I8=>?_) hf)
 have eC:=(I8.pin (C,oC) (Aj _ (Aj _ (Al.mpr rfl)))).1
 refine ⟨m,⟨oC,es,ep,eC,hdC,rC⟩,λh' sb=>?_⟩
 exact ⟨_,H',(I8.unpinned).turnedL (ch:=[C]) (t':=s8.toks) (Ml sb) (λb hb=>by rw [Al.mp hb];exact fC),q⟩
end
end L2
namespace PV
open PySem L2 PySem.Spec PyProof.Rows
section
variable {X:Cx} {K:Zc} {th:List Addr} {mu:Sto} {H:Hp}
noncomputable def FD (g:Option Nat)(m0:Sto)(tg:Gx)(tt:Tx)(el:Ex)(ro:Ro):List D->Sto->Rs (List D)
 | [],mu=>some ([],mu)
 | d::ds,mu=>bM (tg d ro mu) λro1 m1=>bM (tt ro1 m1) λb m2 =>
  if b=true then bM (el ro1 m2) λy m3=>EY g m0 m3 (bM (FD g m0 tg tt el ro ds m3) λys m4=>some (y::ys,m4)) else EY g m0 m2 (FD g m0 tg tt el ro ds m2)
noncomputable def r0 (nc:Nat)(fvs:List Nat)(ro:Ro):Ro:=List.replicate nc none++fvs.map λk=>ro.getD k none
noncomputable def eLC (i:Ix)(nc:Nat)(fvs:List Nat)(tg:Gx)(tt:Tx)(el:Ex):Ex:=λro mu=>bM (i ro mu) λp m1=>bM (FD p.2 m1 tg tt el (r0 nc fvs ro) p.1 m1) λys m2=>some (.lst ys,m2)
noncomputable def Rh (nc:Nat)(tg:Gx):Prop:=∀ d ro mu ro' mu',tg d ro mu=some (ro',mu')->ro'.length=ro.length∧∀ i,nc≤i->ro'[i]? = ro[i]?
noncomputable def PY (nc:Nat)(tg:Gxs):Prop:=∀ d ro mu ro' mu',tg d ro mu=some (ro',mu')->ro'.length=ro.length∧∀ i,nc≤i->ro'[i]? = ro[i]?
theorem Cq {nc i:Nat}(h:i<nc:=by decide):Rh nc (gNm i):=λd ro mu ro' mu' e=>by
 cases e
 exact ⟨by simp,λj hj=>AE (by omega)⟩
theorem L8 {nc:Nat}:PY nc EB:=λds ro mu ro' mu' e=>by
 cases ds with
 | nil=>cases e;exact ⟨rfl,λ_ _=>rfl⟩
 | cons d ds=>cases e
theorem HE {nc:Nat}{g:Gx}{gs:Gxs}(h1:Rh nc g)(h2:PY nc gs):PY nc (Cy g gs):=λds ro mu ro' mu' e=>by
 cases ds with
 | nil=>cases e
 | cons d ds =>
  obtain ⟨ro1,m1,e1,e2⟩:=Hh e
  obtain ⟨a1,a2⟩:=h1 _ _ _ _ _ e1
  obtain ⟨b1,b2⟩:=h2 _ _ _ _ _ e2
  exact ⟨b1.trans a1,λi hi=>(b2 i hi).trans (a2 i hi)⟩
theorem N4 {nc n:Nat}{g:Gxs}(h:PY nc g):Rh nc (gTp n g):=λd ro mu ro' mu' e=>by
 cases d with
 | tup ds =>
  unfold gTp at e
  dsimp only at e
  by_cases q:ds.length=n
  ·rw [if_pos q] at e;exact h _ _ _ _ _ e
  ·rw [if_neg q] at e;cases e
 | _=>cases e
theorem N6 {nc:Nat}{fv:List (Nat×Str)}{ro:Ro}{st:L2.St}(en:EnvOk K th H ro st):EnvOk K th H (r0 nc (fv.map (·.1)) ro) (st0 nc fv st):=by
 unfold r0 st0
 refine ⟨by simp,λi d e=>?_⟩
 by_cases hi:i<nc
 ·rw [Av (by simpa using hi),Bw] at e
  split at e<;>cases e
 ·rw [AS (by simpa using hi)] at e ⊢
  simp only [List.length_replicate,AA,Au] at e ⊢
  cases q:fv[i-nc]? with
  | none=>rw [q] at e;cases e
  | some p =>
   rw [q] at e
   have e':ro.getD p.1 none=some d:=by simpa using e
   rw [AF] at e'
   have e2:ro[p.1]? = some (some d):=by
    cases w:ro[p.1]? with
    | none=>rw [w] at e';cases e'
    | some o=>rw [w] at e';exact congrArg some e'
   obtain ⟨v,ev,rv⟩:=en.2 _ _ e2
   exact ⟨v,by simp [AF,ev],rv⟩
theorem Le {nc:Nat}{fvs:List Nat}{ro:Ro}{i:Nat}{d:D}(e:(r0 nc fvs ro)[i]? = some (some d)):nc≤i:=by
 rcases Nat.lt_or_ge i nc with h|h
 ·unfold r0 at e
  rw [Av (by simpa using h),Bw] at e
  split at e<;>cases e
 ·exact h
theorem Uo {i:Ix}{nc:Nat}{fv:List (Nat×Str)}{tg:Gx}{tt:Tx}{el:Ex}{st:L2.St}{Q:VK}(ow:Rh nc tg)(h:rdE K (eLC i nc (fv.map (·.1)) tg tt el) st H Q):tLC (rdI K i) nc fv (rdG K tg) (rdT K tt) (rdE K el) st H Q:=by
 obtain ⟨th,mu,ro,so,en,t⟩:=h
 refine ⟨th,mu,ro,so,en,t.bind.mono λp th1 mu1 H1 e1 s1 t1 J ok=>?_⟩
 obtain ⟨ds,gd⟩:=p
 have en1:=N6 (nc:=nc) (fv:=fv) (en.ext e1 so.out)
 generalize hro:r0 nc (fv.map (·.1)) ro=ro0 at t1 en1
 have own:∀ i d,ro0[i]? = some (some d)->nc≤i:=λi d e=>by subst hro;exact Le e
 refine ⟨λk n ys st' H'=>n=ds.length-k∧k≤ds.length∧∃ th' mu' zs,StoOk K th' mu' H'∧EnvOk K th' H' ro0 st'∧Ext th1 H1 th' H'∧gOk gd mu1 mu'∧RepL K th' H' zs ys∧zs.length≤k ∧
  Tr K th' H' (FD gd mu1 tg tt el ro0 (ds.drop k) mu') λrest th'' mu'' H''=>∀ th3 H3 v,Ext th'' H'' th3 H3->StoOk K th3 mu'' H3->Rep K th3 H3 (.lst (zs++rest)) v->Q v H3,⟨_,rfl,A3 _,th1,mu1,[],s1,en1,.refl _ _,?_,.nil,A3 _,?_⟩,?_⟩
 ·cases gd with
  | none=>exact True.intro
  | some k=>exact rfl
 ·exact t1.bind.mono λrest th2 mu2 H2 e2 s2 t2 th3 H3 v e3 s3 rv=>t2.retX e3 s3 v rv
 rintro k n ys st2 H2 ⟨rfl,hk,th2,mu2,zs,s2,en2,e2,g2,rz,hz,t2⟩
 have hsz:=ok.sz
 dsimp only at hsz
 refine ⟨by rw [rz.len];omega,?_⟩
 by_cases lt:k<ds.length
 ·refine .inr ?_
  have ek:ds[k]? = some ds[k]:=by simp
  obtain ⟨a1,a2⟩:=ok.go th2 mu2 H2 e2 s2 g2 k ds[k] ek
  refine ⟨a1,λx H3 y=>?_⟩
  obtain ⟨e3,s3,r3⟩:=a2 x H3 y
  rw [BF lt] at t2
  unfold FD at t2
  refine ⟨th2,mu2,ro0,ds[k],s3,en2.ext e3 s2.out,r3,?_⟩
  refine (t2.ahead e3).bindE.mono λro1 th4 mu4 H4 e4 s4 t4 st4 en4=>?_
  obtain ⟨eq4,t4⟩:=t4
  obtain ⟨ol,ow'⟩:=ow _ _ _ _ _ eq4
  have back:∀ {th' H'},Ext th4 H4 th' H'->EnvOk K th' H' ro0 st4:=λ{th' H'} ex=>by
   have en':=en4.ext ex s4.out
   refine ⟨by rw [← ol];exact en'.1,λi d e=>?_⟩
   exact en'.2 i d (by rw [ow' i (own i d e)];exact e)
  refine ⟨th4,mu4,ro1,s4,en4,t4.bind.mono λb th5 mu5 H5 e5 s5 t5=>?_⟩
  have e14:Ext th1 H1 th5 H5:=((e2.trans e3).trans e4).trans e5
  cases b with
  | false =>
   obtain ⟨a,mu',q1,q2⟩:=t5
   obtain ⟨go5,q1⟩:=Gu q1
   refine ⟨ds.length-(k+1),by omega,rfl,lt,th5,mu5,zs,s5,back e5,e14,go5,rz.ext ((e3.trans e4).trans e5) s2.out,by omega,a,mu',q1,q2⟩
  | true =>
   refine ⟨th5,mu5,ro1,s5,en4.ext e5 s4.out,Tr.mono (Tr.bind t5) λy th6 mu6 H6 e6 s6 t6 v rv=>?_⟩
   obtain ⟨a,mu',q1,q2⟩:=t6
   obtain ⟨go6,q1⟩:=Gu q1
   obtain ⟨rest,m7,q3,q4⟩:=Hh q1
   cases q4
   refine ⟨ds.length-(k+1),by omega,rfl,lt,th6,mu6,zs++[y],s6,back (e5.trans e6),e14.trans e6,go6,(rz.ext (((e3.trans e4).trans e5).trans e6) s2.out).app (.cons rv .nil),by rw [Aq];exact Nat.add_le_add_right hz 1,rest,mu',q3,λth7 H7 e7 s7 th8 H8 v' e8 s8 rv'=>?_⟩
   rw [List.append_assoc] at rv'
   exact q2 th7 H7 e7 s7 th8 H8 v' e8 s8 rv'
 ·have e:k=ds.length:=by omega
  subst e
  rw [List.drop_length] at t2
  unfold FD at t2
  refine .inl ⟨ok.stop th2 mu2 H2 e2 s2 g2,λp hp=>?_⟩
  refine t2.ret s2 th2 _ _ (.new hp _) (s2.new hp _) ?_
  rw [List.append_nil]
  exact Rep.newLst s2 hp rz (by omega)
noncomputable def tY:Tx:=λ_ mu=>some (true,mu)
structure SVF (X:Cx) (ifs:List Expr) (m:Tx):Prop where
 r:PF X ifs (rdT X.z m)
theorem CV:SVF X [] tY:=⟨λpins s st H Q I h=>Xv pins s st H Q I (by
 obtain ⟨th,mu,ro,so,en,t⟩:=h
 exact t.ret so)⟩
theorem IB {c:Expr}{m:Tx}(h:SVT X c m):SVF X [c] m:=⟨Yv h.r⟩
section
variable {tg iter elt:Expr} {ifs:List Expr} {scope:Scope} {pos:Pos} {i:Ix} {g:Gx} {tt:Tx} {el:Ex}
theorem D8 (own:List Str)(fv:List (Nat×Str))(L:KS X scope fv)(hi:SVI X tg iter i)(ow:Rh own.length g)
  (hg:∀ cl C s₁ H₁ fp,SVG (CF X scope (own++fv.map (·.2)) cl C s₁ H₁ fp) tg g)
  (ht:∀ cl C s₁ H₁ fp,SVF (CF X scope (own++fv.map (·.2)) cl C s₁ H₁ fp) ifs tt)
  (he:∀ cl C s₁ H₁ fp,SV (CF X scope (own++fv.map (·.2)) cl C s₁ H₁ fp) elt el)
  (hs:∀ x,foldedSetIterable iter X.env x=pure x:=by intro _;rfl):SV X (.ListComp elt [⟨tg,iter,ifs,0⟩] scope pos) (eLC i own.length (fv.map (·.1)) g tt el):=
 ⟨PE.weak (ZN (own:=own) (g:=rdG X.z g) (tt:=rdT X.z tt) (te:=rdE X.z el) L hi.r (λcl C s₁ H₁ fp=>(hg cl C s₁ H₁ fp).r) (λcl C s₁ H₁ fp=>(ht cl C s₁ H₁ fp).r) (λcl C s₁ H₁ fp=>(he cl C s₁ H₁ fp).r) hs) λ_ _ _ h=>Uo ow h⟩
theorem IT (j:Nat){x:Str}{px spos:Pos}(own:List Str)(fv:List (Nat×Str))(L:KS X scope fv)(hi:SVI X tg iter i)(ow:Rh own.length g)
  (hg:∀ cl C s₁ H₁ fp,SVG (CF X scope (own++fv.map (·.2)) cl C s₁ H₁ fp) tg g)
  (ht:∀ cl C s₁ H₁ fp,SVF (CF X scope (own++fv.map (·.2)) cl C s₁ H₁ fp) ifs tt)
  (he:∀ cl C s₁ H₁ fp,SV (CF X scope (own++fv.map (·.2)) cl C s₁ H₁ fp) elt el)
  (hN:X.N.Nodup) (hix:X.N[j]? = some x:=by rfl) (hx:Loc X.env.scope x:=by first|exact Or.inl rfl|exact Or.inr rfl) (hf:X.fn x=true∨X.env.scope.names.lookup x=some .local:=by first|exact .inl rfl|exact .inr rfl)
  (hsw:swapsWith (.ListComp elt [⟨tg,iter,ifs,0⟩] scope pos) (some (.Name x px)) spos.line X.env=pure true:=by rfl) (hs:∀ x,foldedSetIterable iter X.env x=pure x:=by intro _;rfl) :
  SVS X (.Assign [.Name x px] (.ListComp elt [⟨tg,iter,ifs,0⟩] scope pos) spos) (CM (eLC i own.length (fv.map (·.1)) g tt el) (gNm j)):=
 ⟨PS.weak (RU (own:=own) (g:=rdG X.z g) (tt:=rdT X.z tt) (te:=rdE X.z el) L hi.r (λcl C s₁ H₁ fp=>(hg cl C s₁ H₁ fp).r) (λcl C s₁ H₁ fp=>(ht cl C s₁ H₁ fp).r) (λcl C s₁ H₁ fp=>(he cl C s₁ H₁ fp).r) hN hix hx hf hsw hs) λE st H h=>by
  obtain ⟨th,mu,ro,so,en,t⟩:=h
  refine Uo ow ⟨th,mu,ro,so,en,t.bind.mono λd th1 mu1 H1 e1 s1 t1 v rv=>?_⟩
  exact t1.ret s1 _ ((en.ext e1 so.out).set j rv)⟩
end
noncomputable def chars (x:Str):List D:=x.cps.toList.map λc=>.str ⟨#[c]⟩
noncomputable def D0 (a:Ex):Ix:=λro mu=>bM (a ro mu) λd m1=>match d with
 | .tup ds=>some ((ds,none),m1)
 | .lst ds=>some ((ds,none),m1)
 | .str x=>some ((chars x,none),m1)
 | .ref k=>match m1[k]? with
  | some (.lst ds)=>some ((ds,some k),m1)
  | _=>none
 | _=>none
theorem L6 {a:Addr}{ds:List D}{g:Option Nat}(hz:ds.length≤sizeLine)(h:∀ th' mu' H',Ext th H th' H'->StoOk K th' mu' H'->gOk g mu mu'->∃ vs,SqL K.K H' a vs∧RepL K th' H' ds vs):QI K (Itl K.K a) th mu H ds g where
 sz:=hz
 go:=λth' mu' H' e s go i d ed=>by
  obtain ⟨vs,h1,h2⟩:=h th' mu' H' e s go
  obtain ⟨v,ev,rv⟩:=h2.get ed
  refine ⟨⟨vs,v,h1,ev⟩,λx H2 y=>?_⟩
  obtain ⟨rfl,y⟩:=y
  have ex:=y vs h1
  rw [ev] at ex
  cases ex
  exact ⟨.refl _ _,s,rv⟩
 stop:=λth' mu' H' e s go=>by
  obtain ⟨vs,h1,h2⟩:=h th' mu' H' e s go
  exact ⟨vs,h1,by rw [h2.len];exact Ah _⟩
theorem Se {a:Addr}{ds:List D}{vs:List V}(so:StoOk K th mu H)(hz:ds.length≤sizeLine)(h:SqT K.K H a vs)(r:RepL K th H ds vs):QI K (Itt K.K a) th mu H ds none where
 sz:=hz
 go:=λth' mu' H' e s go i d ed=>by
  have h1:=e.sqT so.out h
  obtain ⟨v,ev,rv⟩:=(r.ext e so.out).get ed
  refine ⟨⟨vs,v,h1,ev⟩,λx H2 y=>?_⟩
  obtain ⟨rfl,y⟩:=y
  have ex:=y vs h1
  rw [ev] at ex
  cases ex
  exact ⟨.refl _ _,s,rv⟩
 stop:=λth' mu' H' e s go=>⟨vs,e.sqT so.out h,by rw [r.len];exact Ah _⟩
theorem Oh {x:Str}{c:Nat}(ok:PyData.strOk x=true)(h:c∈x.cps.toList):Rep K th H (.str ⟨#[c]⟩) (.str ⟨#[c]⟩):=by
 unfold Rep
 refine ⟨rfl,by show 1≤sizeLine;decide,?_⟩
 unfold PyData.strOk at ok ⊢
 rw [← Array.all_toList] at ok ⊢
 simpa using Ao.mp ok c h
theorem RW {x:Str}(hz:x.length≤sizeLine)(ok:PyData.strOk x=true):QI K (Its x) th mu H (chars x) none where
 sz:=by unfold chars;rw [Ag,Array.length_toList];exact hz
 go:=λth' mu' H' e s go i d ed=>by
  unfold chars at ed
  rw [Au] at ed
  cases q:x.cps.toList[i]? with
  | none=>rw [q] at ed;cases ed
  | some c =>
   rw [q] at ed
   have hd:D.str ⟨#[c]⟩=d:=by simpa using ed
   subst hd
   have hlt:=(Af.mp q).1
   refine ⟨by show i<x.cps.size;simpa using hlt,λv H2 y=>?_⟩
   obtain ⟨rfl,c',hc',rfl⟩:=y
   have:c'=c:=by
    rw [← Az,q] at hc'
    exact (AJ hc').symm
   subst this
   exact ⟨.refl _ _,s,Oh ok (Ap q)⟩
 stop:=λth' mu' H' e s go=>by show (chars x).length=x.cps.size;unfold chars;simp
theorem CJ {tg e:Expr}{m:Ex}(h:SV X e m):SVI X tg e (D0 m):=⟨by
 intro pins s st H R I q
 obtain ⟨th,mu,ro,so,en,t⟩:=q
 obtain ⟨p,mu',e1,q1⟩:=id t
 obtain ⟨d,m1,e2,e3⟩:=Hh e1
 have t':=t.bindE
 cases d with
 | tup ds =>
  refine WH h.r pins s st H R I ⟨th,mu,ro,so,en,t'.mono λd th1 mu1 H1 x1 s1 t1 v rv=>?_⟩
  obtain ⟨eq,t1⟩:=t1
  rw [e2] at eq
  cases eq
  unfold Rep at rv
  obtain ⟨a,vs,rfl,hs,rl,hz⟩:=rv
  exact ⟨a,rfl,⟨vs,hs⟩,t1.ret s1 _ (Se s1 hz hs rl)⟩
 | lst ds =>
  refine QC h.r pins s st H R I ⟨th,mu,ro,so,en,t'.mono λd th1 mu1 H1 x1 s1 t1 v rv=>?_⟩
  obtain ⟨eq,t1⟩:=t1
  rw [e2] at eq
  cases eq
  unfold Rep at rv
  obtain ⟨a,vs,rfl,hs,rl,hz⟩:=rv
  exact ⟨a,rfl,⟨vs,hs.sq⟩,t1.ret s1 _ (L6 hz λth' mu' H' e s' _=>⟨vs,(e.fz hs).sq,rl.ext e s1.out⟩)⟩
 | str x =>
  refine X3 h.r pins s st H R I ⟨th,mu,ro,so,en,t'.mono λd th1 mu1 H1 x1 s1 t1 v rv=>?_⟩
  obtain ⟨eq,t1⟩:=t1
  rw [e2] at eq
  cases eq
  unfold Rep at rv
  obtain ⟨rfl,hz,ok⟩:=rv
  exact ⟨x,rfl,t1.ret s1 _ (RW hz ok)⟩
 | ref k =>
  refine QC h.r pins s st H R I ⟨th,mu,ro,so,en,t'.mono λd th1 mu1 H1 x1 s1 t1 v rv=>?_⟩
  obtain ⟨eq,t1⟩:=t1
  rw [e2] at eq
  cases eq
  unfold Rep at rv
  obtain ⟨a,rfl,ha⟩:=rv
  dsimp only at t1
  cases em:m1[k]? with
  | none=>rw [em] at t1;exact t1.no.elim
  | some o =>
   cases o with
   | dct _ _=>rw [em] at t1;exact t1.no.elim
   | lst ds =>
    rw [em] at t1
    obtain ⟨vs,h1,h2,hz⟩:=s1.at' k a _ ha em
    refine ⟨a,rfl,⟨vs,.inl (.inl h1)⟩,t1.ret s1 _ (L6 hz λth' mu' H' e s' go=>?_)⟩
    have em':mu'[k]? = some (.lst ds):=by rw [← em];exact (show m1[k]? = mu'[k]? from go).symm
    obtain ⟨vs',h1',h2',_⟩:=s'.at' k a _ (e.at ha) em'
    exact ⟨vs',.inl (.inl h1'),h2'⟩
 | non=>cases e3
 | bl b=>cases e3
 | int b=>cases e3
 | dct _ _=>cases e3
 | set _=>cases e3⟩
end
mutual
noncomputable def toPy:D->PyData
 | .non=>.none
 | .bl b=>.bool b
 | .int i=>.int i
 | .str x=>.str x
 | .tup ds=>.tuple (CG ds)
 | .lst ds=>.list (CG ds)
 | .dct _ _=>.none
 | .set _=>.none
 | .ref _=>.none
noncomputable def CG:List D->List PyData
 | []=>[]
 | d::ds=>toPy d::CG ds
end
mutual
noncomputable def CQ:D->Bool
 | .tup ds=>Em ds
 | .lst ds=>Em ds
 | .dct _ _=>false
 | .set _=>false
 | .ref _=>false
 | _=>true
noncomputable def Em:List D->Bool
 | []=>true
 | d::ds=>CQ d&&Em ds
end
noncomputable def seen (mu:Sto):D->D
 | .ref k=>match mu[k]? with
  | some (.lst ds)=>.lst ds
  | _=>.ref k
 | d=>d
noncomputable def eqB (mu:Sto)(d e:D):Option Bool:=if CQ (seen mu d)&&CQ (seen mu e)&&decide (min (toPy (seen mu d)).depth (toPy (seen mu e)).depth≤60) then some (PyData.eqv (toPy (seen mu d)) (toPy (seen mu e))) else none
noncomputable def eqD (d e:D)(mu:Sto):Rs D:=(eqB mu d e).map λb=>(.bl b,mu)
noncomputable def neD (d e:D)(mu:Sto):Rs D:=(eqB mu d e).map λb=>(.bl (!b),mu)
section
variable {X:Cx} {K:Zc} {th:List Addr} {mu:Sto} {H:Hp}
mutual
theorem Fv {pins:List (Addr×Obj)}{st:L2.St}{s:Shared}(I:L2.Inv X pins st H s):∀ (d:D) (v:V) (u:Value),CQ d=true->Rep X.z th H d v->RelV v u->∃ as,Reads s.heap u (toPy d) as∧(toPy d).canLay0=true
 | .non,_,_,_,r,q=>by cases (show _=_ from r);cases q;exact ⟨_,.none,rfl⟩
 | .bl b,_,_,_,r,q=>by cases (show _=_ from r);cases q;exact ⟨_,.bool b,rfl⟩
 | .int i,_,_,_,r,q=>by cases (show _=_ from r);obtain ⟨t,rfl⟩:=q;exact ⟨_,.int i t,rfl⟩
 | .str x,_,_,_,r,q=>by obtain ⟨rfl,hz,ok⟩:=(show _∧_∧_ from r);obtain ⟨t,rfl⟩:=q;exact ⟨_,.str x t,ok⟩
 | .tup ds,_,_,p,r,q=>by
  unfold Rep at r
  obtain ⟨a,vs,rfl,hs,rl,_⟩:=r
  cases q
  obtain ⟨its,rv,⟨o,h1,h2,n,h3⟩,_⟩:=I.tuple hs
  unfold CQ at p
  obtain ⟨as,h4,h5⟩:=GP I ds vs its p rl rv
  exact ⟨as,by unfold toPy;exact .tuple h1 h2 h3 (by simpa using h4),by unfold toPy PyData.canLay0;exact h5⟩
 | .lst ds,_,_,p,r,q=>by
  unfold Rep at r
  obtain ⟨a,vs,rfl,hs,rl,_⟩:=r
  cases q
  obtain ⟨its,rv,⟨o,n,h1,h2,_,h3⟩,_⟩:=I.list hs.sq
  unfold CQ at p
  obtain ⟨as,h4,h5⟩:=GP I ds vs its p rl rv
  exact ⟨_,by unfold toPy;exact .list h1 h2 h3 (by simpa using h4),by unfold toPy PyData.canLay0;exact h5⟩
 | .dct _ _,_,_,p,_,_=>by cases p
 | .set _,_,_,p,_,_=>by cases p
 | .ref k,_,_,p,_,_=>by cases p
theorem GP {pins:List (Addr×Obj)}{st:L2.St}{s:Shared}(I:L2.Inv X pins st H s):∀ (ds:List D) (vs:List V) (us:List Value),Em ds=true->RepL X.z th H ds vs->Vals vs us->∃ as,ReadsAll s.heap us (CG ds) as∧PyData.canLayAll0 (CG ds)=true
 | [],_,_,_,r,q=>by cases r.inv0;cases q;exact ⟨_,.nil,rfl⟩
 | d::ds,_,_,p,r,q=>by
  obtain ⟨v,r',rfl,r1,r2⟩:=r.inv
  unfold Em at p
  rw [Ab] at p
  cases q with
  | cons q1 q2 =>
   obtain ⟨as,a1,a2⟩:=Fv I d v _ p.1 r1 q1
   obtain ⟨bs,b1,b2⟩:=GP I ds r' _ p.2 r2 q2
   exact ⟨_,.cons a1 b1,by unfold CG PyData.canLayAll0;rw [a2,b2];rfl⟩
end
theorem FF {pins:List (Addr×Obj)}{st:L2.St}{s:Shared}(I:L2.Inv X pins st H s)(so:StoOk X.z th mu H){d:D}{v:V}{u:Value}(p:CQ (seen mu d)=true)(r:Rep X.z th H d v)(q:RelV v u):∃ as,Reads s.heap u (toPy (seen mu d)) as∧(toPy (seen mu d)).canLay0=true:=by
 cases d with
 | ref k =>
  unfold seen at p ⊢
  dsimp only at p ⊢
  cases e:mu[k]? with
  | none=>rw [e] at p;cases p
  | some o =>
   cases o with
   | dct _ _=>rw [e] at p;cases p
   | lst ds =>
    rw [e] at p
    dsimp only at p ⊢
    unfold Rep at r
    obtain ⟨a,rfl,ha⟩:=r
    obtain ⟨vs,h1,rl,hz⟩:=so.at' k a _ ha e
    cases q
    obtain ⟨its,rv,⟨o,n,h2,h3,_,h4⟩,_⟩:=I.list (.inl (.inl h1))
    unfold CQ at p
    obtain ⟨as,h5,h6⟩:=GP I ds vs its p rl rv
    exact ⟨_,by unfold toPy;exact .list h2 h3 h4 (by simpa using h5),by unfold toPy PyData.canLay0;exact h6⟩
 | _=>exact Fv I _ v u p r q
theorem CZ (hu:X.A.units+64<cLine):OpV X (compareOp .Eq) eqD:=by
 intro pins s st H x y v u Q I rx ry h
 obtain ⟨th,mu,d,e,so,r1,r2,t⟩:=h
 unfold eqD eqB at t
 by_cases hc:(CQ (seen mu d)&&CQ (seen mu e)&&decide (min (toPy (seen mu d)).depth (toPy (seen mu e)).depth≤60))=true
 ·rw [if_pos hc] at t
  rw [Ab,Ab,Ae] at hc
  obtain ⟨as,a1,a2⟩:=FF I so hc.1.1 r1 rx
  obtain ⟨bs,b1,b2⟩:=FF I so hc.1.2 r2 ry
  exact SeqAt.rcAt_reads a1 b1 a2 b2 (by omega) _ _ _ _ ⟨.bl _,H,I,rfl,t.ret so _ rfl⟩
 ·rw [if_neg hc] at t
  exact t.no.elim
theorem J0 (hu:X.A.units+64<cLine):OpV X (compareOp .NotEq) neD:=by
 intro pins s st H x y v u Q I rx ry h
 obtain ⟨th,mu,d,e,so,r1,r2,t⟩:=h
 unfold neD eqB at t
 by_cases hc:(CQ (seen mu d)&&CQ (seen mu e)&&decide (min (toPy (seen mu d)).depth (toPy (seen mu e)).depth≤60))=true
 ·rw [if_pos hc] at t
  rw [Ab,Ab,Ae] at hc
  obtain ⟨as,a1,a2⟩:=FF I so hc.1.1 r1 rx
  obtain ⟨bs,b1,b2⟩:=FF I so hc.1.2 r2 ry
  exact SeqAt.rcNeAt_reads a1 b1 a2 b2 (by omega) _ _ _ _ ⟨.bl _,H,I,rfl,t.ret so _ rfl⟩
 ·rw [if_neg hc] at t
  exact t.no.elim
noncomputable def inB (mu:Sto)(d c:D):Option Bool:=match d,seen mu c with
 | .str x,.str y=>some (!(Builtin.Str.occurrences y x 0 y.length 1).isEmpty)
 | d,.tup ds=>if CQ d&&Em ds&&decide (min (PyData.depthAll (CG ds)) (toPy d).depth≤60) then some ((CG ds).any λy=>PyData.eqv y (toPy d)) else none
 | d,.lst ds=>if CQ d&&Em ds&&decide (min (PyData.depthAll (CG ds)) (toPy d).depth≤60) then some ((CG ds).any λy=>PyData.eqv y (toPy d)) else none
 | _,_=>none
noncomputable def inD (d c:D)(mu:Sto):Rs D:=(inB mu d c).map λb=>(.bl b,mu)
noncomputable def SM (d c:D)(mu:Sto):Rs D:=(inB mu d c).map λb=>(.bl (!b),mu)
theorem Ox {d c:D}{b:Bool}(h:inB mu d c=some b):(∃ x y,d=.str x∧c=.str y∧b = !(Builtin.Str.occurrences y x 0 y.length 1).isEmpty) ∨
  ∃ ds,(seen mu c=.tup ds∨seen mu c=.lst ds)∧CQ d=true∧Em ds=true∧min (PyData.depthAll (CG ds)) (toPy d).depth≤60∧b=(CG ds).any λy=>PyData.eqv y (toPy d):=by
 have fin:∀ ds,(if CQ d&&Em ds&&decide (min (PyData.depthAll (CG ds)) (toPy d).depth≤60) then some ((CG ds).any λy=>PyData.eqv y (toPy d)) else none)=some b->CQ d=true∧Em ds=true∧min (PyData.depthAll (CG ds)) (toPy d).depth≤60∧b=(CG ds).any λy=>PyData.eqv y (toPy d):=λds e=>by
  by_cases hc:(CQ d&&Em ds&&decide (min (PyData.depthAll (CG ds)) (toPy d).depth≤60))=true
  ·rw [if_pos hc] at e
   rw [Ab,Ab,Ae] at hc
   exact ⟨hc.1.1,hc.1.2,hc.2,(AJ e).symm⟩
  ·rw [if_neg hc] at e;cases e
 unfold inB at h
 cases hs:seen mu c with
 | tup ds=>rw [hs] at h;cases d<;>exact .inr ⟨ds,.inl rfl,fin ds h⟩
 | lst ds=>rw [hs] at h;cases d<;>exact .inr ⟨ds,.inr rfl,fin ds h⟩
 | str y =>
  rw [hs] at h
  cases d with
  | str x =>
   have:c=.str y:=by
    cases c with
    | ref k =>
     unfold seen at hs
     dsimp only at hs
     cases e:mu[k]? with
     | none=>rw [e] at hs;cases hs
     | some o=>cases o<;>(rw [e] at hs;cases hs)
    | _=>exact hs
   exact .inl ⟨x,y,rfl,this,(AJ h).symm⟩
  | _=>cases h
 | non=>rw [hs] at h;cases d<;>cases h
 | bl _=>rw [hs] at h;cases d<;>cases h
 | int _=>rw [hs] at h;cases d<;>cases h
 | dct _ _=>rw [hs] at h;cases d<;>cases h
 | set _=>rw [hs] at h;cases d<;>cases h
 | ref _=>rw [hs] at h;cases d<;>cases h
theorem Wx (hu:X.A.units+64<cLine):OpV X (compareOp .In) inD:=by
 intro pins s st H x y v u Q I rx ry h
 obtain ⟨th,mu,d,c,so,r1,r2,t⟩:=h
 unfold inD at t
 cases e:inB mu d c with
 | none=>rw [e] at t;exact t.no.elim
 | some b =>
  rw [e] at t
  have q:Q (.bl b) H:=t.ret so _ rfl
  rcases Ox e with ⟨x',y',rfl,rfl,hb⟩|⟨ds,hs,p1,p2,p3,hb⟩
  ·obtain ⟨rfl,_⟩:=(show _∧_ from r1)
   obtain ⟨rfl,_⟩:=(show _∧_ from r2)
   exact QY pins s st H _ _ v u Q I rx ry ⟨x',y',rfl,rfl,by rw [← hb];exact q⟩
  ·obtain ⟨as,a1,a2⟩:=Fv I d x v p1 r1 rx
   have pc:CQ (seen mu c)=true:=by rcases hs with e|e<;>(rw [e];unfold CQ;exact p2)
   obtain ⟨bs,b1,b2⟩:=FF I so pc r2 ry
   rw [hb] at q
   rcases hs with e|e
   ·rw [e] at b1 b2
    unfold toPy at b1 b2
    exact SeqAt.in_tuple_reads b1 a1 b2 a2 (by omega) ⟨.bl _,H,I,rfl,q⟩
   ·rw [e] at b1 b2
    unfold toPy at b1 b2
    exact SeqAt.in_list_reads b1 a1 b2 a2 (by omega) ⟨.bl _,H,I,rfl,q⟩
theorem Ut (hu:X.A.units+64<cLine):OpV X (compareOp .NotIn) SM:=by
 intro pins s st H x y v u Q I rx ry h
 obtain ⟨th,mu,d,c,so,r1,r2,t⟩:=h
 unfold SM at t
 cases e:inB mu d c with
 | none=>rw [e] at t;exact t.no.elim
 | some b =>
  rw [e] at t
  have q:Q (.bl (!b)) H:=t.ret so _ rfl
  rcases Ox e with ⟨x',y',rfl,rfl,hb⟩|⟨ds,hs,p1,p2,p3,hb⟩
  ·obtain ⟨rfl,_⟩:=(show _∧_ from r1)
   obtain ⟨rfl,_⟩:=(show _∧_ from r2)
   exact MQ pins s st H _ _ v u Q I rx ry ⟨x',y',rfl,rfl,by rw [← hb];exact q⟩
  ·obtain ⟨as,a1,a2⟩:=Fv I d x v p1 r1 rx
   have pc:CQ (seen mu c)=true:=by rcases hs with e|e<;>(rw [e];unfold CQ;exact p2)
   obtain ⟨bs,b1,b2⟩:=FF I so pc r2 ry
   rw [hb] at q
   rcases hs with e|e
   ·rw [e] at b1 b2
    unfold toPy at b1 b2
    exact SeqAt.notIn_tuple_reads b1 a1 b2 a2 (by omega) ⟨.bl _,H,I,rfl,q⟩
   ·rw [e] at b1 b2
    unfold toPy at b1 b2
    exact SeqAt.notIn_list_reads b1 a1 b2 a2 (by omega) ⟨.bl _,H,I,rfl,q⟩
end
section
variable {X:Cx} {K:Zc} {th:List Addr} {mu:Sto} {H:Hp}
noncomputable def Lv (d e:D)(mu:Sto):Rs D:=match d,e with
 | .int i,.int j=>some (.int (i-j),mu)
 | _,_=>none
theorem Gg:OpV X (binaryOp .Sub) Lv:=by
 intro pins s st H x y v u Q I rx ry h
 obtain ⟨th,mu,d,e,so,r1,r2,t⟩:=h
 cases d with
 | int i =>
  cases e with
  | int j=>exact Wu pins s st H x y v u Q I rx ry ⟨i,j,r1,r2,t.ret so _ rfl⟩
  | _=>exact t.no.elim
 | _=>exact t.no.elim
noncomputable instance (i j:Int):Decidable (CMul i j):=by unfold CMul;infer_instance
noncomputable instance (i j:Int):Decidable (Nj i j):=by unfold Nj;infer_instance
noncomputable instance (i j:Int):Decidable (Rk i j):=by unfold Rk;infer_instance
theorem QZ {x y:Str}(hx:PyData.strOk x=true)(hy:PyData.strOk y=true):PyData.strOk (x++y)=true:=by
 unfold PyData.strOk at *
 show (Array.all (x.cps++y.cps) _)=true
 rw [← Array.all_toList] at *
 rw [Array.toList_append,List.all_append,hx,hy]
 rfl
theorem len_app (x y:Str):(x++y).length=x.length+y.length:=by
 show (x.cps++y.cps).size=_
 rw [Array.size_append]
 rfl
noncomputable def GZ (d e:D)(mu:Sto):Rs D:=match d,e with
 | .int i,.int j=>if 0<j then some (.int (i % j),mu) else none
 | _,_=>none
theorem Gj:OpV X (binaryOp .Mod) GZ:=by
 intro pins s st H x y v u Q I rx ry h
 obtain ⟨th,mu,d,e,so,r1,r2,t⟩:=h
 cases d with
 | int i =>
  cases e with
  | int j =>
   unfold GZ at t;dsimp only at t
   by_cases c:0<j
   ·rw [if_pos c] at t;exact Xq pins s st H x y v u Q I rx ry ⟨i,j,r1,r2,c,t.ret so _ rfl⟩
   ·rw [if_neg c] at t;exact t.no.elim
  | _=>exact t.no.elim
 | _=>exact t.no.elim
noncomputable def Lh (d e:D)(mu:Sto):Rs D:=match d,e with
 | .int i,.int j=>if Nj i j then some (.int (i / j),mu) else none
 | _,_=>none
theorem LG:OpV X (binaryOp .FloorDiv) Lh:=by
 intro pins s st H x y v u Q I rx ry h
 obtain ⟨th,mu,d,e,so,r1,r2,t⟩:=h
 cases d with
 | int i =>
  cases e with
  | int j =>
   unfold Lh at t;dsimp only at t
   by_cases c:Nj i j
   ·rw [if_pos c] at t;exact Uw pins s st H x y v u Q I rx ry ⟨i,j,r1,r2,c,t.ret so _ rfl⟩
   ·rw [if_neg c] at t;exact t.no.elim
  | _=>exact t.no.elim
 | _=>exact t.no.elim
noncomputable def TQ (d e:D)(mu:Sto):Rs D:=match d,e with
 | .int i,.int j=>if Rk i j then some (.int (i ^ j.toNat),mu) else none
 | _,_=>none
theorem Vz:OpV X (binaryOp .Pow) TQ:=by
 intro pins s st H x y v u Q I rx ry h
 obtain ⟨th,mu,d,e,so,r1,r2,t⟩:=h
 cases d with
 | int i =>
  cases e with
  | int j =>
   unfold TQ at t;dsimp only at t
   by_cases c:Rk i j
   ·rw [if_pos c] at t;exact XN pins s st H x y v u Q I rx ry ⟨i,j,r1,r2,c,t.ret so _ rfl⟩
   ·rw [if_neg c] at t;exact t.no.elim
  | _=>exact t.no.elim
 | _=>exact t.no.elim
noncomputable instance (z:Str) (n:Int):Decidable (MulOk z n):=by unfold MulOk;infer_instance
noncomputable def F6 (d e:D)(mu:Sto):Rs D:=match d,e with
 | .int i,.int j=>if CMul i j then some (.int (i*j),mu) else none
 | .str z,.int n=>if MulOk z n∧(Txt.mul z n).length≤sizeLine∧PyData.strOk (Txt.mul z n)=true then some (.str (Txt.mul z n),mu) else none
 | _,_=>none
theorem EK:OpV X (binaryOp .Mult) F6:=by
 intro pins s st H x y v u Q I rx ry h
 obtain ⟨th,mu,d,e,so,r1,r2,t⟩:=h
 cases d with
 | int i =>
  cases e with
  | int j =>
   unfold F6 at t;dsimp only at t
   by_cases c:CMul i j
   ·rw [if_pos c] at t;exact X7 pins s st H x y v u Q I rx ry ⟨i,j,r1,r2,c,t.ret so _ rfl⟩
   ·rw [if_neg c] at t;exact t.no.elim
  | _=>exact t.no.elim
 | str z =>
  cases e with
  | int j =>
   unfold F6 at t;dsimp only at t
   by_cases c:MulOk z j∧(Txt.mul z j).length≤sizeLine∧PyData.strOk (Txt.mul z j)=true
   ·rw [if_pos c] at t;exact Pk pins s st H x y v u Q I rx ry ⟨z,j,r1.1,r2,c.1,t.ret so _ ⟨rfl,c.2⟩⟩
   ·rw [if_neg c] at t;exact t.no.elim
  | _=>exact t.no.elim
 | _=>exact t.no.elim
theorem TR {a b:Addr}{ys:List V}{pins:List (Addr×Obj)}{st:L2.St}{s:Shared}{Q:VK}(I:L2.Inv X pins st H s)(ha:SqT X.K H a [])(hb:SqT X.K H b ys)(q:Q (.ref b) H):wpAny (model X.prog X.w) X.A (binaryOp .Add (.ref a) (.ref b)) (EP X pins st Q) X.xe s:=by
 obtain ⟨its,r1,p1,_⟩:=I.tuple ha
 obtain ⟨its2,r2,p2,_⟩:=I.tuple hb
 have e:its=[]:=by cases r1;rfl
 subst e
 obtain ⟨⟨cls,dd,data,sl⟩,ho,hc,n,hd⟩:=id p1
 obtain ⟨⟨cls2,dd2,data2,sl2⟩,ho2,hc2,n2,hd2⟩:=id p2
 simp only at hc hd hc2 hd2
 subst hc hd hc2 hd2
 exact concat_meets ⟨_,ho,rfl⟩ ⟨_,ho2,rfl⟩ noFill_tuple_add seq_tuple_add PySem.F.slot_tuple_add PySem.F.entry_tuple_add (PySem.F.args_tuple_add_2 _ _)
   (tuple_addW0 a b _ its2.toArray n n2 dd dd2 sl sl2 (by simp)) ⟨ho,ho2,⟨.ref b,H,I,rfl,q⟩⟩
theorem Qt {a b:Addr}{xs ys:List V}{pins:List (Addr×Obj)}{st:L2.St}{s:Shared}{Q:VK}(I:L2.Inv X pins st H s)(ha:SqL X.K H a xs)(hb:SqL X.K H b ys)(hz:xs.length+ys.length≤sizeLine)(q:∀ p,H p=none->Q (.ref p) (upd H p (.lst (xs++ys)))):wpAny (model X.prog X.w) X.A (binaryOp .Add (.ref a) (.ref b)) (EP X pins st Q) X.xe s:=by
 obtain ⟨its,r1,⟨o1,n1,p1,c1,d1,e1⟩,_⟩:=I.list ha
 obtain ⟨its2,r2,⟨o2,n2,p2,c2,d2,e2⟩,_⟩:=I.list hb
 obtain ⟨cls,dd,data,sl⟩:=o1
 obtain ⟨cls2,dd2,data2,sl2⟩:=o2
 simp only at c1 d1 e1 c2 d2 e2
 subst c1 d1 e1 c2 d2 e2
 refine concat_meets ⟨_,p1,rfl⟩ ⟨_,p2,rfl⟩ noFill_list_add seq_list_add PySem.F.slot_list_add PySem.F.entry_list_add (PySem.F.args_list_add_2 _ _)
   (list_addW a b _ its2.toArray n1 n2 _ _ sl sl2 (by rw [Ai,Ai,← r1.length,← r2.length];exact hz)) ⟨p1,p2,?_⟩
 refine ⟨.ref s.heap.objs.size,_,I.laid (t':=s.toks) (o:=.lst (xs++ys)) (λb ob q=>Ad _ q) (Ah _) ?_,rfl,q _ (I.hok.fresh (Ah _))⟩
 exact ⟨by rw [Aq];exact hz,its++its2,0,r1.append r2,by simpa using Am _ rfl⟩
noncomputable def Du (mu:Sto):D->Option (List D)
 | .lst ds=>some ds
 | .ref k=>match mu[k]? with
  | some (.lst ds)=>some ds
  | _=>none
 | _=>none
theorem Er (so:StoOk K th mu H){d:D}{ds:List D}{v:V}(h:Du mu d=some ds)(r:Rep K th H d v):∃ a vs,v=.ref a∧SqL K.K H a vs∧RepL K th H ds vs∧ds.length≤sizeLine:=by
 cases d with
 | lst es=>cases h;unfold Rep at r;obtain ⟨a,vs,rfl,h1,h2,h3⟩:=r;exact ⟨a,vs,rfl,h1.sq,h2,h3⟩
 | ref k =>
  unfold Du at h
  dsimp only at h
  cases e:mu[k]? with
  | none=>rw [e] at h;cases h
  | some o =>
   cases o with
   | dct _ _=>rw [e] at h;cases h
   | lst es =>
    rw [e] at h
    cases h
    unfold Rep at r
    obtain ⟨a,rfl,ha⟩:=r
    obtain ⟨vs,h1,h2,h3⟩:=so.at' k a _ ha e
    exact ⟨a,vs,rfl,.inl (.inl h1),h2,h3⟩
 | _=>cases h
noncomputable def CO (d e:D)(mu:Sto):Rs D:=match d,e with
 | .int i,.int j=>some (.int (i+j),mu)
 | .str x,.str y=>if x.length+y.length≤sizeLine then some (.str (x++y),mu) else none
 | .tup xs,.tup ys=>if xs.length+ys.length≤sizeLine then some (.tup (xs++ys),mu) else none
 | d,e=>match Du mu d,Du mu e with
  | some xs,some ys=>if xs.length+ys.length≤sizeLine then some (.lst (xs++ys),mu) else none
  | _,_=>none
theorem Cz:OpV X (binaryOp .Add) CO:=by
 intro pins s st H x y v u Q I rx ry h
 obtain ⟨th,mu,d,e,so,r1,r2,t⟩:=h
 have lists:∀ (t:Tr X.z th H (match Du mu d,Du mu e with
  | some xs,some ys=>if xs.length+ys.length≤sizeLine then some (D.lst (xs++ys),mu) else none
  | _,_=>none) (KV' X.z Q)),wpAny (model X.prog X.w) X.A (binaryOp .Add v u) (EP X pins st Q) X.xe s:=λt=>by
  cases e1:Du mu d with
  | none=>rw [e1] at t;exact t.no.elim
  | some xs =>
   cases e2:Du mu e with
   | none=>rw [e1,e2] at t;exact t.no.elim
   | some ys =>
    rw [e1,e2] at t
    dsimp only at t
    by_cases c:xs.length+ys.length≤sizeLine
    ·rw [if_pos c] at t
     obtain ⟨a,vs,rfl,h1,h2,h3⟩:=Er so e1 r1
     obtain ⟨b,us,rfl,k1,k2,k3⟩:=Er so e2 r2
     cases rx
     cases ry
     refine Qt I h1 k1 (by rw [h2.len,k2.len];exact c) λp hp=>t.retX (.new hp _) (so.new hp _) _ (Rep.newLst so hp (h2.app k2) (by rw [Aq];exact c))
    ·rw [if_neg c] at t;exact t.no.elim
 cases d with
 | int i =>
  cases e with
  | int j=>exact WE pins s st H x y v u Q I rx ry ⟨i,j,r1,r2,t.ret so _ rfl⟩
  | _=>exact lists t
 | str i =>
  cases e with
  | str j =>
   unfold CO at t;dsimp only at t
   by_cases c:i.length+j.length≤sizeLine
   ·rw [if_pos c] at t
    exact Pp pins s st H x y v u Q I rx ry ⟨i,j,r1.1,r2.1,c,t.ret so _ ⟨rfl,by rw [len_app];exact c,QZ r1.2.2 r2.2.2⟩⟩
   ·rw [if_neg c] at t;exact t.no.elim
  | _=>exact lists t
 | tup xs =>
  cases e with
  | tup ys =>
   unfold CO at t;dsimp only at t
   by_cases c:xs.length+ys.length≤sizeLine
   ·rw [if_pos c] at t
    unfold Rep at r1 r2
    obtain ⟨a,vs,rfl,h1,h2,h3⟩:=r1
    obtain ⟨b,us,rfl,k1,k2,k3⟩:=r2
    cases rx
    cases ry
    cases xs with
    | nil =>
     cases h2.inv0
     exact TR I h1 k1 (t.ret so _ (by unfold Rep;exact ⟨b,us,rfl,k1,k2,k3⟩))
    | cons x0 xs0 =>
     obtain ⟨v0,vr,rfl,_,_⟩:=h2.inv
     refine Vr pins s st H (.ref a) (.ref b) _ _ Q I rfl rfl ⟨a,b,v0::vr,us,rfl,rfl,h1,k1,by simp,by rw [h2.len,k2.len];exact c,λhu=>?_,λ_ p hp=>t.retX (.new hp _) (so.new hp _) _ (Rep.newTup so hp (h2.app k2) (by rw [Aq];exact c))⟩
     subst hu
     have:ys=[]:=List.length_eq_zero_iff.mp (by rw [← k2.len];rfl)
     subst this
     rw [List.append_nil] at t
     exact t.ret so _ (by unfold Rep;exact ⟨a,_,rfl,h1,h2,h3⟩)
   ·rw [if_neg c] at t;exact t.no.elim
  | _=>exact lists t
 | _=>exact lists t
noncomputable def Ss (f:Int->Int->Bool)(g:Str->Str->Bool)(d e:D)(mu:Sto):Rs D:=match d,e with
 | .int i,.int j=>some (.bl (f i j),mu)
 | .str i,.str j=>some (.bl (g i j),mu)
 | _,_=>none
noncomputable def leD:=Ss (λi j=>decide (i≤j)) λi j=>!decide (j.cps.toList<i.cps.toList)
noncomputable def gtD:=Ss (λi j=>decide (j<i)) λi j=>decide (j.cps.toList<i.cps.toList)
noncomputable def geD:=Ss (λi j=>decide (j≤i)) λi j=>!decide (i.cps.toList<j.cps.toList)
theorem Nf {op:CmpOp}{f:Int->Int->Bool}{g:Str->Str->Bool}(h1:OpR X (compareOp op) (rI0 λi j=>.bl (f i j)))
  (h2:∀ (i j:Str) (t t':Tok) (s:Shared) (Q:Value->Shared->Prop),Q (.bool (g i j)) s->wpAny (model X.prog X.w) X.A (compareOp op (.str i t) (.str j t')) Q X.xe s):OpV X (compareOp op) (Ss f g):=by
 intro pins s st H x y v u Q I rx ry h
 obtain ⟨th,mu,d,e,so,r1,r2,t⟩:=h
 cases d with
 | int i =>
  cases e with
  | int j=>exact h1 pins s st H x y v u Q I rx ry ⟨i,j,r1,r2,t.ret so _ rfl⟩
  | _=>exact t.no.elim
 | str i =>
  cases e with
  | str j =>
   obtain ⟨rfl,_⟩:=(show _∧_ from r1)
   obtain ⟨rfl,_⟩:=(show _∧_ from r2)
   obtain ⟨t1,rfl⟩:=rx
   obtain ⟨t2,rfl⟩:=ry
   exact h2 i j t1 t2 s _ ⟨.bl _,H,I,rfl,t.ret so _ rfl⟩
  | _=>exact t.no.elim
 | _=>exact t.no.elim
theorem F8:OpV X (compareOp .LtE) leD:=Nf Aas λi j t t' s Q h=>PySem.P.le_str h
theorem RY:OpV X (compareOp .Gt) gtD:=Nf YM λi j t t' s Q h=>PySem.P.gt_str h
theorem Xw:OpV X (compareOp .GtE) geD:=Nf YH λi j t t' s Q h=>PySem.P.ge_str h
noncomputable def isB:D->D->Option Bool
 | .non,.non=>some true
 | .bl a,.bl b=>some (a==b)
 | .non,.bl _=>none
 | .ref _,.non=>some false
 | .tup _,.non=>some false
 | .lst _,.non=>some false
 | .str _,.non=>some false
 | .int _,.non=>some false
 | .bl _,.non=>some false
 | .dct _ _,.non=>some false
 | .set _,.non=>some false
 | _,_=>none
noncomputable def isD (d e:D)(mu:Sto):Rs D:=(isB d e).map λb=>(.bl b,mu)
noncomputable def M0 (d e:D)(mu:Sto):Rs D:=(isB d e).map λb=>(.bl (!b),mu)
theorem Lf:OpV X (compareOp .Is) isD:=by
 intro pins s st H x y v u Q I rx ry h
 obtain ⟨th,mu,d,e,so,r1,r2,t⟩:=h
 cases e with
 | non =>
  have go:∀ b,isB d .non=some b->(b=decide (x=.non))->wpAny (model X.prog X.w) X.A (compareOp .Is v u) (EP X pins st Q) X.xe s:=λb eb ex=>by
   unfold isD at t
   rw [eb] at t
   have q:Q (.bl b) H:=t.ret so _ rfl
   exact YA pins s st H x y v u Q I rx ry ⟨r2,by rw [← ex];exact q⟩
  cases d with
  | non=>exact go _ rfl (by rw [show x=_ from r1];rfl)
  | bl b=>exact go _ rfl (by rw [show x=_ from r1];rfl)
  | int b=>exact go _ rfl (by rw [show x=_ from r1];rfl)
  | str b=>exact go _ rfl (by rw [r1.1];rfl)
  | tup b=>exact go _ rfl (by unfold Rep at r1;obtain ⟨a,vs,rfl,_⟩:=r1;rfl)
  | lst b=>exact go _ rfl (by unfold Rep at r1;obtain ⟨a,vs,rfl,_⟩:=r1;rfl)
  | dct _ _=>exact go _ rfl (by unfold Rep at r1;obtain ⟨a,xs,rfl,_⟩:=r1;rfl)
  | set _=>exact go _ rfl (by unfold Rep at r1;obtain ⟨a,us,vs,rfl,_⟩:=r1;rfl)
  | ref b=>exact go _ rfl (by unfold Rep at r1;obtain ⟨a,rfl,_⟩:=r1;rfl)
 | bl b =>
  cases d with
  | bl a=>exact Tp pins s st H x y v u Q I rx ry ⟨a,b,r1,r2,t.ret so _ rfl⟩
  | _=>exact t.no.elim
 | _=>cases d<;>exact t.no.elim
theorem ML:OpV X (compareOp .IsNot) M0:=by
 intro pins s st H x y v u Q I rx ry h
 obtain ⟨th,mu,d,e,so,r1,r2,t⟩:=h
 cases e with
 | non =>
  have go:∀ b,isB d .non=some b->(b=decide (x=.non))->wpAny (model X.prog X.w) X.A (compareOp .IsNot v u) (EP X pins st Q) X.xe s:=λb eb ex=>by
   unfold M0 at t
   rw [eb] at t
   have q:Q (.bl (!b)) H:=t.ret so _ rfl
   exact Vv pins s st H x y v u Q I rx ry ⟨r2,by rw [← ex];exact q⟩
  cases d with
  | non=>exact go _ rfl (by rw [show x=_ from r1];rfl)
  | bl b=>exact go _ rfl (by rw [show x=_ from r1];rfl)
  | int b=>exact go _ rfl (by rw [show x=_ from r1];rfl)
  | str b=>exact go _ rfl (by rw [r1.1];rfl)
  | tup b=>exact go _ rfl (by unfold Rep at r1;obtain ⟨a,vs,rfl,_⟩:=r1;rfl)
  | lst b=>exact go _ rfl (by unfold Rep at r1;obtain ⟨a,vs,rfl,_⟩:=r1;rfl)
  | dct _ _=>exact go _ rfl (by unfold Rep at r1;obtain ⟨a,xs,rfl,_⟩:=r1;rfl)
  | set _=>exact go _ rfl (by unfold Rep at r1;obtain ⟨a,us,vs,rfl,_⟩:=r1;rfl)
  | ref b=>exact go _ rfl (by unfold Rep at r1;obtain ⟨a,rfl,_⟩:=r1;rfl)
 | bl b =>
  cases d with
  | bl a=>exact Oj pins s st H x y v u Q I rx ry ⟨a,b,r1,r2,t.ret so _ rfl⟩
  | _=>exact t.no.elim
 | _=>cases d<;>exact t.no.elim
noncomputable def F9 (g g':D->D->Sto->Rs D)(a b c:Ex):Ex:=λro mu=>bM (a ro mu) λx m1=>bM (b ro m1) λy m2=>bM (g x y m2) λz m3=>match asB z with
 | none=>none
 | some k=>if k=true then bM (c ro m3) λw' m4=>g' y w' m4 else some (.bl false,m3)
theorem Mi {g g':D->D->Sto->Rs D}{a b c:Ex}{st:L2.St}{Q:VK}(h:rdE K (F9 g g' a b c) st H Q):O8 (r2 K g) (r2 K g') (rdE K a) (rdE K b) (rdE K c) st H Q:=by
 obtain ⟨th,mu,ro,so,en,t⟩:=h
 refine ⟨th,mu,ro,so,en,t.bind.mono λx th1 mu1 H1 e1 s1 t1 v rv=>?_⟩
 refine ⟨th1,mu1,ro,s1,en.ext e1 so.out,t1.bind.mono λy th2 mu2 H2 e2 s2 t2 u ru=>?_⟩
 refine ⟨th2,mu2,x,y,s2,rv.ext e2 s1.out,ru,t2.bind.mono λz th3 mu3 H3 e3 s3 t3 w rw'=>?_⟩
 cases e:asB z with
 | none=>rw [e] at t3;exact t3.no.elim
 | some k =>
  rw [e] at t3
  refine ⟨k,K5 e rw',?_⟩
  cases k with
  | false=>exact t3.ret s3 _ rfl
  | true =>
   exact ⟨th3,mu3,ro,s3,(en.ext e1 so.out).ext (e2.trans e3) s1.out,Tr.mono (Tr.bind t3) λw' th4 mu4 H4 e4 s4 t4 z' rz=>⟨th4,mu4,y,w',s4,(ru.ext e3 s2.out).ext e4 s3.out,rz,t4⟩⟩
theorem Lg {a b c:Expr}{op op':CmpOp}{g g':D->D->Sto->Rs D}{ma mb mc:Ex}{pos:Pos}(ho:OpV X (compareOp op) g)(ho':OpV X (compareOp op') g')(ha:SV X a ma)(hb:SV X b mb)(hc:SV X c mc)
  (hm:lastMarks [op,op'] [b,c]=false:=by with_unfolding_all rfl):SV X (.Compare a [op,op'] [b,c] pos) (F9 g g' ma mb mc):=⟨PE.weak (SA ho ho' ha.r hb.r hc.r hm) λ_ _ _ h=>Mi h⟩
theorem J9 {a b c:Expr}{op op':CmpOp}{g g':D->D->Sto->Rs D}{ma mb mc:Ex}{pos:Pos}(ho:OpV X (compareOp op) g)(ho':OpV X (compareOp op') g')(ha:SV X a ma)(hb:SV X b mb)(hc:SV X c mc)
  (hm:lastMarks [op,op'] [b,c]=false:=by with_unfolding_all rfl):SVT X (.Compare a [op,op'] [b,c] pos) (tV (F9 g g' ma mb mc)):=⟨PT.weak (RN ho ho' ha.r hb.r hc.r hm) λst H Q h=>Mi (Uk h)⟩
noncomputable def ixD (d e:D)(mu:Sto):Rs D:=match e with
 | .int i=>match d with
  | .tup ds=>(atI ds i).map λx=>(x,mu)
  | .str z=>(atI z.cps.toList i).map λc=>(.str ⟨#[c]⟩,mu)
  | d=>match Du mu d with
   | some ds=>(atI ds i).map λx=>(x,mu)
   | none=>none
 | _=>none
theorem Qw {ds:List D}{vs:List V}{i:Int}{d:D}(r:RepL K th H ds vs)(h:atI ds i=some d):∃ v,atI vs i=some v∧Rep K th H d v:=by
 unfold atI at h ⊢
 rw [r.len]
 cases e:ixN ds.length i with
 | none=>rw [e] at h;cases h
 | some j =>
  rw [e] at h
  obtain ⟨v,e1,e2⟩:=r.get (show ds[j]? = some d from h)
  exact ⟨v,e1,e2⟩
theorem UK {α:Type}{xs:List α}{i:Int}{v:α}(h:atI xs i=some v):v∈xs:=by
 obtain ⟨j,_,e,_⟩:=K0 h
 exact Ap e
theorem AaN:IxR X (r2 X.z ixD):=by
 intro value slice pins s st H x y v u Q I rx ry h hsub
 obtain ⟨th,mu,d,e,so,r1,r2,t⟩:=h
 cases e with
 | int i =>
  have lists:∀ (t:Tr X.z th H (match Du mu d with
   | some ds=>(atI ds i).map λx=>(x,mu)
   | none=>none) (KV' X.z Q)),X9 X.K x y H Q:=λt=>by
   cases e1:Du mu d with
   | none=>rw [e1] at t;exact t.no.elim
   | some ds =>
    rw [e1] at t
    dsimp only at t
    cases e2:atI ds i with
    | none=>rw [e2] at t;exact t.no.elim
    | some x' =>
     rw [e2] at t
     obtain ⟨a,vs,rfl,h1,h2,h3⟩:=Er so e1 r1
     obtain ⟨v',w1,w2⟩:=Qw h2 e2
     exact ⟨a,vs,i,v',rfl,r2,h1,w1,t.ret so _ w2⟩
  refine WD value slice pins s st H x y v u Q I rx ry ?_ hsub
  cases d with
  | tup ds =>
   unfold ixD at t;dsimp only at t
   cases e2:atI ds i with
   | none=>rw [e2] at t;exact t.no.elim
   | some x' =>
    rw [e2] at t
    unfold Rep at r1
    obtain ⟨a,vs,rfl,h1,h2,h3⟩:=r1
    obtain ⟨v',w1,w2⟩:=Qw h2 e2
    exact .inr (.inl ⟨a,vs,i,v',rfl,r2,h1,w1,t.ret so _ w2⟩)
  | str z =>
   unfold ixD at t;dsimp only at t
   cases e2:atI z.cps.toList i with
   | none=>rw [e2] at t;exact t.no.elim
   | some c =>
    rw [e2] at t
    exact .inr (.inr ⟨z,i,c,r1.1,r2,r1.2.1,e2,t.ret so _ (Oh r1.2.2 (UK e2))⟩)
  | _=>exact .inl (lists t)
 | _=>exact t.no.elim
noncomputable abbrev Px:=Ro->Sto->Rs (Option Int)
noncomputable def pNo:Px:=λ_ mu=>some (none,mu)
noncomputable def F1 (a:Ex):Px:=λro mu=>bM (a ro mu) λd m1=>match d with
 | .int i=>some (some i,m1)
 | _=>none
noncomputable def rdP (K:Zc)(m:Px):TO:=λst H Q=>∃ th mu ro,StoOk K th mu H∧EnvOk K th H ro st∧Tr K th H (m ro mu) λo _ _ H'=>Q o H'
structure SVP (X:Cx) (e:Option Expr) (m:Px):Prop where
 r:PO X e (rdP X.z m)
theorem PO.weak {e:Option Expr}{t t':TO}(h:PO X e t)(f:∀ st H Q,t' st H Q->t st H Q):PO X e t':=λpins s st H Q I q=>h pins s st H Q I (f st H Q q)
theorem Ej:SVP X none pNo:=⟨PO.weak Vi λst H Q h=>by
 obtain ⟨th,mu,ro,so,en,t⟩:=h
 exact t.ret so⟩
theorem El {e:Expr}{m:Ex}(h:SV X e m):SVP X (some e) (F1 m):=⟨PO.weak (VX h.r) λst H Q h=>by
 obtain ⟨th,mu,ro,so,en,t⟩:=h
 refine ⟨th,mu,ro,so,en,t.bind.mono λd th1 mu1 H1 e1 s1 t1 v rv=>?_⟩
 cases d with
 | int i=>exact ⟨i,rv,t1.ret s1⟩
 | _=>exact t1.no.elim⟩
noncomputable def cutD {α:Type}(xs:List α)(lo hi:Option Int):List α:=(xs.drop (HT.sIx xs.length 0 lo)).take (HT.sIx xs.length xs.length hi-HT.sIx xs.length 0 lo)
theorem Qs {ds:List D}{vs:List V}(r:RepL K th H ds vs)(lo hi:Option Int):RepL K th H (cutD ds lo hi) (Ot vs lo hi):=by
 unfold cutD Ot
 rw [r.len]
 exact (r.drop _).take _
theorem Ob {α:Type}(xs:List α)(lo hi:Option Int):(cutD xs lo hi).length≤xs.length:=by
 unfold cutD
 rw [Bb,List.length_drop]
 omega
noncomputable def slD (d:D)(lo hi:Option Int)(mu:Sto):Rs D:=match d with
 | .tup ds=>some (.tup (cutD ds lo hi),mu)
 | .str z=>if PyData.strOk (Txt.slice z lo hi)=true then some (.str (Txt.slice z lo hi),mu) else none
 | d=>match Du mu d with
  | some ds=>some (.lst (cutD ds lo hi),mu)
  | none=>none
noncomputable def r3 (K:Zc)(op:D->Option Int->Option Int->Sto->Rs D):V->Option Int->Option Int->Hp->VK->Prop:=λx lo hi H Q=>∃ th mu d,StoOk K th mu H∧Rep K th H d x∧Tr K th H (op d lo hi mu) (KV' K Q)
noncomputable def eSl (a:Ex)(p q:Px):Ex:=λro mu=>bM (a ro mu) λd m1=>bM (p ro m1) λlo m2=>bM (q ro m2) λhi m3=>slD d lo hi m3
theorem IW {prog:Program}{w:World}{A:Around}{E:Value->Shared->Prop}{s:Shared}{t sl:Addr}{items:Array Value}{vl vu:Value}{lo hi:Option Int}{Q:Value->Shared->Prop}(ht:IsTup s.heap t items)(hs:s.heap.IsSliceOf sl vl vu .none)(pl:IsPart vl lo)(pu:IsPart vu hi)
  (h1:HT.sIx items.size 0 lo=0) (h2:HT.sIx items.size items.size hi=items.size) (h:Q (.ref t) s):wpAny (model prog w) A (getItem (.ref t) (.ref sl)) Q E s:=by
 obtain ⟨os,hos,hcs,hds⟩:=id hs
 have hTs:s.TypeIs (.ref sl) "slice":=⟨os,hos,hcs⟩
 unfold getItem
 try with_reducible refine AG ?_
 first|refine Aa (Ac ?_)|skip
 refine Aa (wpAny_sequenceKey ht.typeIs (by decide) ?_)
 refine Aa (A5 (name:=Str.ofString "__getitem__") ht.typeIs AU
  (AY AU ht.typeIs entry_tuple_getitem ?_ (args_tuple_getitem _ _)))
 show wpAny _ _ (Builtin.Tuple.tupleItemsOf (.ref t) >>= _) _ _ s
 refine Aa (tupleItemsOf_ ht ?_)
 refine Aa (BB hTs ?_)
 rw [if_pos (by decide)]
 refine Aa (HT.G7 hs pl pu ?_)
 rw [h1,h2]
 dsimp only
 rw [if_pos (by simp)]
 unfold Builtin.Tuple.tupleIsExact
 refine Aa (Aa (BB ht.typeIs (Ac ?_)))
 rw [if_pos (by decide)]
 exact Aa (Bh (Ac ⟨_,rfl,Ac h⟩))
theorem Abg:SlR X (r3 X.z slD):=by
 intro pins s st H x v vl vu lo hi sl Q I rx hs pl pu h
 obtain ⟨th,mu,d,so,r,t⟩:=h
 have lists:∀ (t:Tr X.z th H (match Du mu d with
   | some ds=>some (D.lst (cutD ds lo hi),mu)
   | none=>none) (KV' X.z Q)),ZS X.K x lo hi H Q:=λt=>by
   cases e1:Du mu d with
   | none=>rw [e1] at t;exact t.no.elim
   | some ds =>
    rw [e1] at t
    obtain ⟨a,vs,rfl,h1,h2,h3⟩:=Er so e1 r
    exact ⟨a,vs,rfl,h1,λp hp=>t.retX (.new hp _) (so.new hp _) _ (Rep.newLst so hp (Qs h2 lo hi) (AK (Ob ds lo hi) h3))⟩
 cases d with
 | tup ds =>
  unfold Rep at r
  obtain ⟨a,vs,rfl,h1,h2,h3⟩:=r
  by_cases c:HT.sIx vs.length 0 lo=0∧HT.sIx vs.length vs.length hi=vs.length
  ·cases rx
   obtain ⟨its,rv,ht,hz⟩:=I.tuple h1
   have hlen:its.toArray.size=vs.length:=by rw [Ai];exact rv.length.symm
   refine ⟨"tuple",_,AU.lookup,ht.typeIs,?_⟩
   refine IW ht hs pl pu (by rw [hlen];exact c.1) (by rw [hlen];exact c.2) ⟨.ref a,H,I,rfl,t.ret so _ ?_⟩
   have e:cutD ds lo hi=ds:=by
    unfold cutD
    rw [← h2.len,c.1,c.2,h2.len]
    simp
   rw [e]
   unfold Rep
   exact ⟨a,vs,rfl,h1,h2,h3⟩
  ·exact X2 pins s st H _ v vl vu lo hi sl Q I rx hs pl pu ⟨a,vs,rfl,h1,c,λp hp=>t.retX (.new hp _) (so.new hp _) _ (Rep.newTup so hp (Qs h2 lo hi) (AK (Ob ds lo hi) h3))⟩
 | str z =>
  unfold slD at t;dsimp only at t
  by_cases c:PyData.strOk (Txt.slice z lo hi)=true
  ·rw [if_pos c] at t
   exact X1 pins s st H _ v vl vu lo hi sl Q I rx hs pl pu ⟨z,r.1,r.2.1,t.ret so _ ⟨rfl,AK (Txt.slice_le z _ _) r.2.1,c⟩⟩
  ·rw [if_neg c] at t;exact t.no.elim
 | _=>exact Va pins s st H _ v vl vu lo hi sl Q I rx hs pl pu (lists t)
theorem Ek {e:Expr}{lo hi:Option Expr}{m:Ex}{p q:Px}{p2 pos:Pos}(he:SV X e m)(hl:SVP X lo p)(hh:SVP X hi q):SV X (.Subscript e (.Slice lo hi none p2) pos) (eSl m p q):=⟨PE.weak (Tg Abg he.r hl.r hh.r) λst H Q h=>by
 obtain ⟨th,mu,ro,so,en,t⟩:=h
 refine ⟨th,mu,ro,so,en,t.bind.mono λd th1 mu1 H1 e1 s1 t1 v rv=>?_⟩
 refine ⟨th1,mu1,ro,s1,en.ext e1 so.out,t1.bind.mono λlo' th2 mu2 H2 e2 s2 t2=>?_⟩
 refine ⟨th2,mu2,ro,s2,(en.ext e1 so.out).ext e2 s1.out,t2.bind.mono λhi' th3 mu3 H3 e3 s3 t3=>?_⟩
 exact ⟨th3,mu3,d,s3,(rv.ext e2 s1.out).ext e3 s2.out,t3⟩⟩
noncomputable def tyN:D->String
 | .non=>"NoneType"|.bl _=>"bool"|.int _=>"int"|.str _=>"str"|.tup _=>"tuple"|.lst _=>"list"|.dct _ _=>"dict"|.set _=>"set"|.ref _=>"list"
noncomputable def isi (T:String)(d:D):Bool:=tyN d==T||(T=="int"&&tyN d=="bool")
theorem Aab {K:PySem.W.Frag}(T:String)(hT:T="str"∨T="tuple"∨T="int"∨T="bool"∨T="list"∨T="dict")(d:D):PySem.W.kitOne K (.type (tyN d)) (.type T)=some (isi T d):=by
 rcases hT with rfl|rfl|rfl|rfl|rfl|rfl<;>cases d<;>rfl
noncomputable def EF (mu:Sto):D->Bool
 | .ref k=>match mu[k]? with
  | some (.lst _)=>true
  | _=>false
 | _=>true
theorem Kj {mu:Sto}{k:Nat}(h:EF mu (.ref k)=true):∃ ds,mu[k]? = some (.lst ds):=by
 unfold EF at h
 dsimp only at h
 split at h
 ·rename_i ds e;exact ⟨ds,e⟩
 ·cases h
noncomputable def GH (T:String)(a:Ex):Ex:=λro mu=>bM (a ro mu) λd m1=>if EF m1 d=true then some (.bl (isi T d),m1) else none
theorem UA {pins:List (Addr×Obj)}{st:L2.St}{s:Shared}{T:String}{d:D}{x:V}{u:Value}{Q:Value->Shared->Prop}{E:Value->Shared->Prop}(hT:T="str"∨T="tuple"∨T="int"∨T="bool"∨T="list"∨T="dict")(I:L2.Inv X pins st H s)(so:StoOk X.z th mu H)(hr:EF mu d=true)(r:Rep X.z th H d x)(rx:RelV x u)
  (h:∀ tk,Q (.bool (isi T d)) { s with toks:=tk }):wpAny (model X.prog X.w) X.A (call (.builtin "isinstance") [u,.type T]) Q E s:=by
 have e:=Aab (K:=X.K) T hT d
 have ls:∀ {a:Addr} {vs:List V},Rd H a (.lst vs)->JU X.K H (.ref a) (.type "list"):=λ{a vs} h=>by
  rcases h with h|⟨o,h⟩
  ·exact .lst h
  ·exact .frz h
 cases d with
 | non=>cases (show x=_ from r);exact He I rx .non e h
 | bl b=>cases (show x=_ from r);exact He I rx (.bl b) e h
 | int b=>cases (show x=_ from r);exact He I rx (.int b) e h
 | str b=>cases r.1;exact He I rx (.str b) e h
 | tup ds =>
  unfold Rep at r
  obtain ⟨a,vs,rfl,h1,_⟩:=r
  cases rx
  obtain ⟨its,_,⟨o,g1,g2,_⟩,_⟩:=I.tuple h1
  exact A8 PySem.W.kitx_tuple I.kIn ⟨o,g1,g2⟩ e (λz=>nomatch z) h
 | lst ds =>
  unfold Rep at r
  obtain ⟨a,vs,rfl,h1,_⟩:=r
  cases rx
  obtain ⟨its,_,⟨o,n,g1,g2,_⟩,_⟩:=I.list h1.sq
  exact A8 PySem.W.kitx_list I.kIn ⟨o,g1,g2⟩ e (λz=>nomatch z) h
 | dct _ _ =>
  unfold Rep at r
  obtain ⟨a,xs,rfl,_,h1,_⟩:=r
  obtain ⟨⟨_,o,es,ep,g1,g2,_⟩,_⟩:=(show ObjOk X.prog X.w H s.heap a (Hb a xs) from I.hok a _ h1)
  cases rx
  exact A8 PySem.W.kitx_dict I.kIn ⟨o,g1,g2.1⟩ e (λz=>nomatch z) h
 | set _ =>
  unfold Rep at r
  obtain ⟨a,us,vs,rfl,_,h1,_⟩:=r
  obtain ⟨⟨o,es,ep,t,g1,g2,_⟩,_⟩:=(show ObjOk X.prog X.w H s.heap a (Q6 X.w a us) from I.hok a _ h1)
  cases rx
  exact A8 PySem.W.kitx_set I.kIn ⟨o,g1,g2.1⟩ e (λz=>nomatch z) h
 | ref k =>
  unfold Rep at r
  obtain ⟨a,rfl,h1⟩:=r
  obtain ⟨ds,em⟩:=Kj hr
  obtain ⟨vs,h2,_⟩:=so.at' k a _ h1 em
  exact He I rx (.lst h2) e h
theorem ES (T:String){x:Str}{a:Expr}{m:Ex}{p p2 pos:Pos}(ha:SV X a m)(h1:X.mg "isinstance"=none)(h2:X.mg x=none)(hb:bootBuiltins x=some (.type T))(hT:T="str"∨T="tuple"∨T="int"∨T="bool"∨T="list"∨T="dict":=by decide)
  (hn:x≠"__name__":=by decide) (hd:(x==("__debug__":Str))=false:=by decide) (hg:Gl X "isinstance":=by rfl) (hg2:Gl X x:=by rfl)
  (hs1:starEach [a,.Name x p2] X.env=(false,eval a X.env)::starEach [.Name x p2] X.env:=by rfl) (hs2:(backTo pos (starEach [.Name x p2] X.env)).any (·.1)=false:=by rfl) (hs3:starEach [.Name x p2] X.env=(false,eval (.Name x p2) X.env)::starEach [] X.env:=by rfl) :
  SV X (.Call (.Name "isinstance" p) [a,.Name x p2] [] pos) (GH T m):=⟨by
 have hc:GY X (.builtin "isinstance") (λxs H Q=>∃ th mu d y,StoOk X.z th mu H∧EF mu d=true∧xs=[y,.ty T]∧Rep X.z th H d y∧Q (.bl (isi T d)) H):=by
  intro pins s st H xs us Q I r h
  obtain ⟨th,mu,d,y,so,hr,rfl,rd,q⟩:=h
  obtain ⟨u,w',rfl,rx,ry⟩:=vals2 r
  cases (show w'=Value.type T from ry)
  exact UA hT I so hr rd rx λtk=>⟨.bl _,H,I.tok _,rfl,q⟩
 have pe:=Oo hc hg h1 boot_isinstance (MK ha.r (MK (Vk (v:=.ty T) hg2 h2 hb rfl hn hd) T4 hs3) hs1) (by decide) (by decide) hs1 hs2 (pos:=pos) (p:=p)
 refine PE.weak pe λst H Q h=>?_
 obtain ⟨th,mu,ro,so,en,t⟩:=h
 refine ⟨th,mu,ro,so,en,t.bind.mono λd th1 mu1 H1 e1 s1 t1 v rv=>?_⟩
 by_cases c:EF mu1 d=true
 ·rw [if_pos c] at t1
  exact ⟨th1,mu1,d,v,s1,c,rfl,rv,t1.ret s1 _ rfl⟩
 ·rw [if_neg c] at t1;exact t1.no.elim⟩
noncomputable def XU (mu:Sto):D->Option Nat
 | .str x=>some x.length
 | .tup ds=>some ds.length
 | .lst ds=>some ds.length
 | .ref k=>(Du mu (.ref k)).map (·.length)
 | _=>none
noncomputable def Ux:Fn:=λds mu=>match ds with
 | [d]=>(XU mu d).map λn=>(.int n,mu)
 | _=>none
theorem DT {xs:List V}{d:D}(r:RepL K th H [d] xs):∃ x,xs=[x]∧Rep K th H d x:=by
 obtain ⟨v,r',rfl,h1,h2⟩:=r.inv
 cases h2.inv0
 exact ⟨v,rfl,h1⟩
theorem Jo {xs:List V}{d e:D}(r:RepL K th H [d,e] xs):∃ x y,xs=[x,y]∧Rep K th H d x∧Rep K th H e y:=by
 obtain ⟨v,r',rfl,h1,h2⟩:=r.inv
 obtain ⟨u,rfl,h3⟩:=DT h2
 exact ⟨v,u,rfl,h1,h3⟩
theorem Rn:CallV X (.builtin "len") Ux:=by
 intro pins s st H xs us Q I r h
 obtain ⟨th,mu,ds,so,rd,t⟩:=h
 match ds,t,rd with
 | [d],t,rd =>
  obtain ⟨x,rfl,rx⟩:=DT rd
  cases d with
  | str z=>exact M7 pins s st H _ us Q I r ⟨z,by rw [rx.1],rx.2.1,t.ret so _ rfl⟩
  | tup es =>
   unfold Rep at rx
   obtain ⟨a,vs,rfl,h1,h2,_⟩:=rx
   exact Ho pins s st H _ us Q I r ⟨a,vs,rfl,.inr h1,by rw [h2.len];exact t.ret so _ rfl⟩
  | lst es =>
   unfold Rep at rx
   obtain ⟨a,vs,rfl,h1,h2,_⟩:=rx
   exact Ho pins s st H _ us Q I r ⟨a,vs,rfl,.inl h1.sq,by rw [h2.len];exact t.ret so _ rfl⟩
  | ref k =>
   unfold Ux XU at t
   dsimp only at t
   cases e1:Du mu (.ref k) with
   | none=>rw [e1] at t;exact t.no.elim
   | some es =>
    rw [e1] at t
    obtain ⟨a,vs,rfl,h1,h2,h3⟩:=Er so e1 rx
    exact Ho pins s st H _ us Q I r ⟨a,vs,rfl,.inl h1,by rw [h2.len];exact t.ret so _ rfl⟩
  | _=>exact t.no.elim
 | [],t,_=>exact t.no.elim
 | _::_::_,t,_=>exact t.no.elim
noncomputable def Kv:List D->Option (List Bool)
 | []=>some []
 | .bl b::ds=>(Kv ds).map (b::·)
 | _=>none
theorem ME:∀ {ds:List D} {bs:List Bool} {vs:List V},Kv ds=some bs->RepL K th H ds vs->vs=bs.map V.bl
 | [],_,_,h,r=>by cases h;exact r.inv0
 | d::ds,bs,_,h,r=>by
  obtain ⟨v,r',rfl,h1,h2⟩:=r.inv
  cases d with
  | bl b =>
   unfold Kv at h
   cases e:Kv ds with
   | none=>rw [e] at h;cases h
   | some cs =>
    rw [e] at h
    cases h
    rw [ME e h2,show v=V.bl b from h1]
    rfl
  | _=>cases h
noncomputable def quF (f:List Bool->Bool):Fn:=λds mu=>match ds with
 | [d]=>match Du mu d with
  | some es=>(Kv es).map λbs=>(.bl (f bs),mu)
  | none=>none
 | _=>none
noncomputable def GX:=quF λbs=>bs.all id
theorem T1 {id:String}{f:List Bool->Bool}(hq:GY X (.builtin id) (λxs H Q=>∃ (p:Addr) (bs:List Bool),xs=[.ref p]∧SqL X.K H p (bs.map V.bl)∧Q (.bl (f bs)) H)):CallV X (.builtin id) (quF f):=by
 intro pins s st H xs us Q I r h
 obtain ⟨th,mu,ds,so,rd,t⟩:=h
 match ds,t,rd with
 | [d],t,rd =>
  obtain ⟨x,rfl,rx⟩:=DT rd
  unfold quF at t
  dsimp only at t
  cases e1:Du mu d with
  | none=>rw [e1] at t;exact t.no.elim
  | some es =>
   rw [e1] at t
   dsimp only at t
   cases e2:Kv es with
   | none=>rw [e2] at t;exact t.no.elim
   | some bs =>
    rw [e2] at t
    obtain ⟨a,vs,rfl,h1,h2,h3⟩:=Er so e1 rx
    cases ME e2 h2
    exact hq pins s st H _ us Q I r ⟨a,bs,rfl,h1,t.ret so _ rfl⟩
 | [],t,_=>exact t.no.elim
 | _::_::_,t,_=>exact t.no.elim
theorem DM (hc:X.calm=true):CallV X (.builtin "all") GX:=T1 (SF hc)
noncomputable def ints2 (ds:List D):Option (Int×Int):=match ds with
 | [.int i,.int j]=>some (i,j)
 | _=>none
theorem Mj {ds:List D}{p:Int×Int}(h:ints2 ds=some p):ds=[.int p.1,.int p.2]:=by
 unfold ints2 at h
 split at h
 ·cases h;rfl
 ·cases h
noncomputable def NX:Fn:=λds mu=>(ints2 ds).map λp=>(.int (if p.2<p.1 then p.2 else p.1),mu)
noncomputable def SD:Fn:=λds mu=>(ints2 ds).map λp=>(.int (if p.2 > p.1 then p.2 else p.1),mu)
noncomputable def intOf (ds:List D):Option Int:=match ds with
 | [.int i]=>some i
 | [.bl b]=>some (if b then 1 else 0)
 | _=>none
theorem Q0 {ds:List D}{i:Int}(h:intOf ds=some i):ds=[.int i]∨∃ b,ds=[.bl b]∧i=if b then 1 else 0:=by
 unfold intOf at h
 split at h
 ·cases h;exact .inl rfl
 ·cases h;exact .inr ⟨_,rfl,rfl⟩
 ·cases h
noncomputable def Tn:Fn:=λds mu=>(intOf ds).map λi=>(.int i,mu)
noncomputable def SI (ds:List D):Option Int:=match ds with
 | [.int i]=>some i
 | _=>none
theorem RM {ds:List D}{i:Int}(h:SI ds=some i):ds=[.int i]:=by
 unfold SI at h
 split at h
 ·cases h;rfl
 ·cases h
theorem Mz (hc:X.calm=true):CallV X (.builtin "min") NX:=by
 intro pins s st H xs us Q I r h
 obtain ⟨th,mu,ds,so,rd,t⟩:=h
 unfold NX at t
 cases e:ints2 ds with
 | none=>rw [e] at t;exact t.no.elim
 | some p =>
  rw [e] at t
  rw [Mj e] at rd
  obtain ⟨x,y,rfl,rx,ry⟩:=Jo rd
  exact QR hc pins s st H _ us Q I r ⟨p.1,p.2,by rw [show x=_ from rx,show y=_ from ry],t.ret so _ rfl⟩
theorem RI (hc:X.calm=true):CallV X (.builtin "max") SD:=by
 intro pins s st H xs us Q I r h
 obtain ⟨th,mu,ds,so,rd,t⟩:=h
 unfold SD at t
 cases e:ints2 ds with
 | none=>rw [e] at t;exact t.no.elim
 | some p =>
  rw [e] at t
  rw [Mj e] at rd
  obtain ⟨x,y,rfl,rx,ry⟩:=Jo rd
  exact Rr hc pins s st H _ us Q I r ⟨p.1,p.2,by rw [show x=_ from rx,show y=_ from ry],t.ret so _ rfl⟩
theorem Q9:CallV X (.type "int") Tn:=by
 intro pins s st H xs us Q I r h
 obtain ⟨th,mu,ds,so,rd,t⟩:=h
 unfold Tn at t
 cases e:intOf ds with
 | none=>rw [e] at t;exact t.no.elim
 | some i =>
  rw [e] at t
  rcases Q0 e with h|⟨b,h,hb⟩
  ·rw [h] at rd
   obtain ⟨x,rfl,rx⟩:=DT rd
   exact Mc pins s st H _ us Q I r (.inl ⟨i,by rw [show x=_ from rx],t.ret so _ rfl⟩)
  ·rw [h] at rd
   obtain ⟨x,rfl,rx⟩:=DT rd
   exact Mc pins s st H _ us Q I r (.inr ⟨b,by rw [show x=_ from rx],by rw [← hb];exact t.ret so _ rfl⟩)
noncomputable def G6 (mu:Sto):D->Option (List D)
 | .tup ds=>some ds
 | d=>Du mu d
theorem Gw (so:StoOk K th mu H){d:D}{ds:List D}{v:V}(h:G6 mu d=some ds)(r:Rep K th H d v):∃ a vs,v=.ref a∧(SqL K.K H a vs∨SqT K.K H a vs∧d=.tup ds)∧RepL K th H ds vs∧ds.length≤sizeLine:=by
 cases d with
 | tup es=>cases h;unfold Rep at r;obtain ⟨a,vs,rfl,h1,h2,h3⟩:=r;exact ⟨a,vs,rfl,.inr ⟨h1,rfl⟩,h2,h3⟩
 | lst es=>obtain ⟨a,vs,rfl,h1,h2,h3⟩:=Er so (d:=.lst es) h r;exact ⟨a,vs,rfl,.inl h1,h2,h3⟩
 | ref k=>obtain ⟨a,vs,rfl,h1,h2,h3⟩:=Er so (d:=.ref k) h r;exact ⟨a,vs,rfl,.inl h1,h2,h3⟩
 | _=>cases h
noncomputable def Im (ds:List D):Option D:=match ds with
 | [d]=>some d
 | _=>none
theorem Io {ds:List D}{d:D}(h:Im ds=some d):ds=[d]:=by
 unfold Im at h
 split at h
 ·cases h;rfl
 ·cases h
noncomputable def sq1 (ds:List D)(mu:Sto):Option (List D):=match Im ds with
 | some d=>G6 mu d
 | none=>none
noncomputable def Fx:Fn:=λds mu=>(sq1 ds mu).map λes=>(.tup es,mu)
noncomputable def Ls:Fn:=λds mu=>(sq1 ds mu).map λes=>(.lst es,mu)
theorem K4 {ds es:List D}(h:sq1 ds mu=some es):∃ d,ds=[d]∧G6 mu d=some es:=by
 unfold sq1 at h
 cases e:Im ds with
 | none=>rw [e] at h;cases h
 | some d=>rw [e] at h;exact ⟨d,Io e,h⟩
theorem Dp:CallV X (.type "tuple") Fx:=by
 intro pins s st H xs us Q I r h
 obtain ⟨th,mu,ds,so,rd,t⟩:=h
 unfold Fx at t
 cases e:sq1 ds mu with
 | none=>rw [e] at t;exact t.no.elim
 | some es =>
  rw [e] at t
  obtain ⟨d,rfl,e2⟩:=K4 e
  obtain ⟨x,rfl,rx⟩:=DT rd
  obtain ⟨a,vs,rfl,h1,h2,h3⟩:=Gw so e2 rx
  refine L4 pins s st H _ us Q I r ⟨a,vs,rfl,?_⟩
  rcases h1 with h1|⟨h1,rfl⟩
  ·exact .inl ⟨h1,λp hp=>t.retX (.new hp _) (so.new hp _) _ (Rep.newTup so hp h2 h3)⟩
  ·exact .inr ⟨h1,t.ret so _ rx⟩
theorem IL:CallV X (.type "list") Ls:=by
 intro pins s st H xs us Q I r h
 obtain ⟨th,mu,ds,so,rd,t⟩:=h
 unfold Ls at t
 cases e:sq1 ds mu with
 | none=>rw [e] at t;exact t.no.elim
 | some es =>
  rw [e] at t
  obtain ⟨d,rfl,e2⟩:=K4 e
  obtain ⟨x,rfl,rx⟩:=DT rd
  obtain ⟨a,vs,rfl,h1,h2,h3⟩:=Gw so e2 rx
  refine Nk pins s st H _ us Q I r ⟨a,vs,rfl,?_,λp hp=>t.retX (.new hp _) (so.new hp _) _ (Rep.newLst so hp h2 h3)⟩
  rcases h1 with h1|⟨h1,_⟩
  ·exact .inl h1
  ·exact .inr h1
noncomputable def NR (o:Ex)(a:Exs):Ex:=λro mu=>bM (o ro mu) λd m1=>match d with
 | .ref k=>if EF m1 (.ref k)=true then bM (a ro m1) λxs m2=>match Im xs,m2[k]? with
  | some y,some (.lst ds)=>if ds.length<sizeLine then some (.non,m2.set k (.lst (ds++[y]))) else none
  | _,_=>none
  else none
 | _=>none
theorem Kh {o e:Expr}{m:Ex}{n:Exs}{apos cpos:Pos}(ho:SV X o m)(ha:SVA X [e] n)(hbase:attributeBase o "append" X.env (eval o X.env)=eval o X.env:=by rfl)
  (hfew:((backTo cpos (starEach [e] X.env)).all (λx=>!x.1)&&(backToKw cpos (keywordEach [] X.env)).all (λx=>x.1.isSome)
   && decide ([e].length+([]:List Keyword).length+(if ([]:List Keyword).isEmpty then 0 else 1)<30))=true:=by rfl)
  (hline:(apos.endLine==cpos.line)=true:=by rfl) (hs:starEach [e] X.env=(false,eval e X.env)::starEach [] X.env:=by rfl) (hplain:(backTo cpos (starEach [] X.env)).any (·.1)=false:=by rfl) :
  SV X (.Call (.Attribute o "append" apos) [e] [] cpos) (NR m n):=
 ⟨PE.weak (V8 PySem.F.plainAttrs_list PySem.F.slot_list_append PySem.F.type_list_append QQ ho.r ha.1 hbase hfew hline hs hplain) λst H Q h=>by
  obtain ⟨th,mu,ro,so,en,t⟩:=h
  refine ⟨th,mu,ro,so,en,t.bind.mono λd th1 mu1 H1 e1 s1 t1 v rv=>?_⟩
  cases d with
  | ref k =>
   unfold Rep at rv
   obtain ⟨a,rfl,ha'⟩:=rv
   by_cases cr:EF mu1 (.ref k)=true
   case neg=>dsimp only at t1;rw [if_neg cr] at t1;exact t1.no.elim
   dsimp only at t1
   rw [if_pos cr] at t1
   obtain ⟨ds0,em⟩:=Kj cr
   obtain ⟨vs,h2,_⟩:=s1.at' k a _ ha' em
   refine ⟨.inl ⟨rfl,vs,SqL.of h2⟩,th1,mu1,ro,s1,en.ext e1 so.out,?_⟩
   refine Tr.mono (Tr.bind t1) λxs th2 mu2 H2 e2 s2 t2 ws rws=>?_
   cases q1:Im xs with
   | none=>rw [q1] at t2;exact t2.no.elim
   | some y =>
    cases q2:mu2[k]? with
    | none=>rw [q1,q2] at t2;exact t2.no.elim
    | some o =>
     cases o with
     | dct _ _=>rw [q1,q2] at t2;exact t2.no.elim
     | lst ds =>
      rw [q1,q2] at t2
      dsimp only at t2
      by_cases c:ds.length<sizeLine
      ·rw [if_pos c] at t2
       rw [Io q1] at rws
       obtain ⟨y',rfl,ry⟩:=DT rws
       have hk:=e2.at ha'
       obtain ⟨us,g1,g2,g3⟩:=s2.at' k a _ hk q2
       exact ⟨a,us,y',rfl,rfl,g1,by rw [g2.len];exact c,t2.retX (.mut (Ap hk) _) (s2.put hk (g2.app (.cons ry .nil)) (by rw [Aq];exact c)) _ rfl⟩
      ·rw [if_neg c] at t2;exact t2.no.elim
  | _=>exact t1.no.elim⟩
end
end PV
namespace L2
open PySem PySem.Spec PyProof.Rows
theorem Yi {x y z:V}{us:List Value}(r:Vals [x,y,z] us):∃ u v w',us=[u,v,w']∧RelV x u∧RelV y v∧RelV z w':=by
 cases r with
 | cons r1 r2 =>
  obtain ⟨v,w',rfl,a,b⟩:=vals2 r2
  exact ⟨_,v,w',rfl,r1,a,b⟩
noncomputable def ZT (i j k:Nat)(ta:TA):TS:=λD σ H=>ta σ H λvs H1=>∃ u v w,vs=[u,v,w]∧D.nx (((σ.set i (some u)).set j (some v)).set k (some w)) H1
theorem VM {X:Cx}{pos:Pos}{i j k:Nat}{x y z:Str}{a b c:Expr}{ta:TA}{px py pz pt:Pos}{kt k2 pt2}(hc:X.calm=true)(hN:X.N.Nodup)(hi:X.N[i]? = some x)(hj:X.N[j]? = some y)(hk:X.N[k]? = some z)(hij:i≠j)(hik:i≠k)(hjk:j≠k)
  (hx:X.env.scope.names.lookup x=some .local) (hy:X.env.scope.names.lookup y=some .local) (hz:X.env.scope.names.lookup z=some .local) (ha:PA X [a,b,c] ta)
  (hw:swappedStores [.Tuple [.Name x px,.Name y py,.Name z pz] kt pt] (.Tuple [a,b,c] k2 pt2) X.env=pure (some [x,y,z]))
  (hs:swapsWithSole [.Tuple [.Name x px,.Name y py,.Name z pz] kt pt] (.Tuple [a,b,c] k2 pt2) pos.line X.env=pure false:=by rfl) :
  PS X (.Assign [.Tuple [.Name x px,.Name y py,.Name z pz] kt pt] (.Tuple [a,b,c] k2 pt2) pos) (ZT i j k ta):=by
 intro pins s σ H D I h
 rw [exec_Assign_arm]
 refine Aa (wpAny_standAt ?_)
 rw [hs]
 refine Aa (Ac ?_)
 rw [if_neg (by decide)]
 refine Aa (Tuple_ (thn (ha _ pins s σ H _ I h) λus s1 ⟨vs,H1,I1,r1,q1⟩=>?_))
 obtain ⟨v1,v2,v3,e1,q1⟩:=q1
 subst e1
 obtain ⟨u1,u2,u3,rfl,ra,rb,rc⟩:=Yi r1
 refine AO ?_ (by show 3≤sizeLine;decide)
 have I2:Inv X pins σ H1 { s1 with heap:=s1.heap.push { cls:=.type "tuple",data:=.seq [u1,u2,u3].toArray } }:=I1.kept (t':=s1.toks) λb o e=>Ad _ e
 rw [hw]
 refine Aa (Ac ?_)
 show wpAny (model X.prog X.w) X.A (do rule "assign.swapped-stores";let items←unpackItems (.ref s1.heap.objs.size) 3 none;assignInOrder [λv=>bindName X.env z v,λv=>bindName X.env y v,λv=>bindName X.env x v] items.reverse;pure Flow.next) _ _ _
 refine Aa (Bh (Aa (unpackItems_tuple (items:=#[u1,u2,u3]) (I.ok.hd hc) (IsTup.new s1.heap _) λh' hx'=>?_)))
 have I3:=I2.kept (h':=h') (t':=s1.toks) λb o e=>hx' b o (Ar (Ak e)) e
 show wpAny _ _ (assignInOrder [λv=>bindName X.env z v,λv=>bindName X.env y v,λv=>bindName X.env x v] [u3,u2,u1] >>= λ_=>pure Flow.next) _ _ _
 refine Aa (assignInOrder_cons (wpAny_bindName (FW I3 hN hk (.inl hz) rc (λs2 I4=>?_) (.inr hz))))
 refine assignInOrder_cons (wpAny_bindName (FW I4 hN hj (.inl hy) rb (λs3 I5=>?_) (.inr hy)))
 refine assignInOrder_cons (wpAny_bindName (FW I5 hN hi (.inl hx) ra (λs4 I6=>assignInOrder_nil (Ac ?_)) (.inr hx)))
 rw [List.set_comm _ _ (Ne.symm hjk),List.set_comm _ _ (Ne.symm hik),List.set_comm (i:=j) (j:=i) _ _ (Ne.symm hij)] at I6
 exact ⟨_,H1,I6,q1⟩
end L2
namespace PV
open PySem L2 PySem.Spec PyProof.Rows
section
variable {X:Cx} {K:Zc} {th:List Addr} {mu:Sto} {H:Hp}
noncomputable def Qj (i j k:Nat)(a:Exs):Sx:=λro mu=>bM (a ro mu) λds m1=>match ds with
 | [x,y,z]=>some ((.nx,((ro.set i (some x)).set j (some y)).set k (some z)),m1)
 | _=>none
theorem S5 (i j k:Nat){x y z:Str}{a b c:Expr}{m:Exs}{px py pz pt:Pos}{kt k2 pt2}{pos:Pos}(hc:X.calm=true)(hN:X.N.Nodup)(ha:SVA X [a,b,c] m)
  (hw:swappedStores [.Tuple [.Name x px,.Name y py,.Name z pz] kt pt] (.Tuple [a,b,c] k2 pt2) X.env=pure (some [x,y,z]))
  (hi:X.N[i]? = some x:=by rfl) (hj:X.N[j]? = some y:=by rfl) (hk:X.N[k]? = some z:=by rfl) (hij:i≠j:=by decide) (hik:i≠k:=by decide) (hjk:j≠k:=by decide)
  (hx:X.env.scope.names.lookup x=some .local:=by rfl) (hy:X.env.scope.names.lookup y=some .local:=by rfl) (hz:X.env.scope.names.lookup z=some .local:=by rfl)
  (hs:swapsWithSole [.Tuple [.Name x px,.Name y py,.Name z pz] kt pt] (.Tuple [a,b,c] k2 pt2) pos.line X.env=pure false:=by rfl) :
  SVS X (.Assign [.Tuple [.Name x px,.Name y py,.Name z pz] kt pt] (.Tuple [a,b,c] k2 pt2) pos) (Qj i j k m):=⟨PS.weak (VM hc hN hi hj hk hij hik hjk hx hy hz ha.1 hw hs) λE st H h=>by
 obtain ⟨th,mu,ro,so,en,t⟩:=h
 refine ⟨th,mu,ro,so,en,t.bind.mono λds th1 mu1 H1 e1 s1 t1 vs rvs=>?_⟩
 match ds,t1,rvs with
 | [d,d',d''],t1,rvs =>
  obtain ⟨v,r,rfl,r1,r2⟩:=rvs.inv
  obtain ⟨u,w,rfl,r3,r4⟩:=Jo r2
  exact ⟨v,u,w,rfl,t1.ret s1 _ ((((en.ext e1 so.out).set i r1).set j r3).set k r4)⟩
 | [],t1,_=>exact t1.no.elim
 | [_],t1,_=>exact t1.no.elim
 | [_,_],t1,_=>exact t1.no.elim
 | _::_::_::_::_,t1,_=>exact t1.no.elim⟩
noncomputable def VC (d e v:D)(mu:Sto):Rs Unit:=match d,e with
 | .ref k,.int i=>match mu[k]? with
  | some (.lst ds)=>match ixN ds.length i with
   | some j=>some ((),mu.set k (.lst (ds.set j v)))
   | none=>none
  | _=>none
 | _,_=>none
noncomputable def Abb (K:Zc):Sk:=λo i v H Q=>∃ th mu d e w,StoOk K th mu H∧Rep K th H d o∧Rep K th H e i∧Rep K th H w v∧Tr K th H (VC d e w mu) λ_ _ _ H'=>Q H'
theorem Aaf:VN X (Abb X.z):=by
 intro pins s st H o i v ov iv u Q I ro ri rv h
 obtain ⟨th,mu,d,e,w,so,r1,r2,r3,t⟩:=h
 cases d with
 | ref k =>
  cases e with
  | int j =>
   unfold VC at t
   dsimp only at t
   cases q:mu[k]? with
   | none=>rw [q] at t;exact t.no.elim
   | some o' =>
    cases o' with
    | dct _ _=>rw [q] at t;exact t.no.elim
    | lst ds =>
     rw [q] at t
     dsimp only at t
     cases q2:ixN ds.length j with
     | none=>rw [q2] at t;exact t.no.elim
     | some n =>
      rw [q2] at t
      unfold Rep at r1
      obtain ⟨a,rfl,ha⟩:=r1
      obtain ⟨vs,h1,h2,h3⟩:=so.at' k a _ ha q
      exact set_list pins s st H _ i v ov iv u Q I ro ri rv ⟨a,vs,j,n,rfl,r2,h1,by rw [h2.len];exact q2,t.retX (.mut (Ap ha) _) (so.put ha (h2.setAt n r3) (by rw [List.length_set];exact h3))⟩
  | _=>exact t.no.elim
 | _=>exact t.no.elim
noncomputable def Fz (lo:Int)(n:Nat):List D:=(List.range n).map λk:Nat=>.int (lo+k)
theorem S0 {lo:Int}{n:Nat}(hn:n≤sizeLine):QI K (Itr lo n) th mu H (Fz lo n) none where
 sz:=by unfold Fz;simpa using hn
 go:=λth' mu' H' e s go i d ed=>by
  unfold Fz at ed
  rw [Au] at ed
  cases q:(List.range n)[i]? with
  | none=>rw [q] at ed;cases ed
  | some k =>
   rw [q] at ed
   have hd:D.int (lo+k)=d:=by simpa using ed
   obtain ⟨hi,hk⟩:=Af.mp q
   rw [List.length_range] at hi
   rw [List.getElem_range] at hk
   subst hk hd
   refine ⟨hi,λv H2 y=>?_⟩
   obtain ⟨rfl,rfl⟩:=y
   exact ⟨.refl _ _,s,by unfold Rep;rfl⟩
 stop:=λth' mu' H' e s go=>by show n≤(Fz lo n).length;unfold Fz;simp
noncomputable def iRg (a:Exs):Ix:=λro mu=>bM (a ro mu) λds m1=>match SI ds with
 | some j=>if -(2 ^ 62)≤j∧j≤(sizeLine:Int) then some ((Fz 0 j.toNat,none),m1) else none
 | none=>none
theorem Gr {tg a:Expr}{m:Exs}{p pos:Pos}(hm:X.mg "range"=none)(ha:SVA X [a] m)(hg:Gl X "range":=by rfl)(hs:starEach [a] X.env=[(false,eval a X.env)]:=by rfl):SVI X tg (.Call (.Name "range" p) [a] [] pos) (iRg m):=
 ⟨PI.weak (Rp hg hm ha.1 hs) λst H R h=>by
  obtain ⟨th,mu,ro,so,en,t⟩:=h
  refine ⟨th,mu,ro,so,en,t.bind.mono λds th1 mu1 H1 e1 s1 t1 vs rvs=>?_⟩
  cases q:SI ds with
  | none=>rw [q] at t1;exact t1.no.elim
  | some j =>
   rw [q] at t1
   dsimp only at t1
   by_cases c:-(2 ^ 62)≤j∧j≤(sizeLine:Int)
   ·rw [if_pos c] at t1
    rw [RM q] at rvs
    obtain ⟨x,rfl,rx⟩:=DT rvs
    refine ⟨j,by rw [show x=_ from rx],c.1,?_,t1.ret s1 _ (S0 (by omega))⟩
    have:=c.2
    rw [AL] at this
    omega
   ·rw [if_neg c] at t1;exact t1.no.elim⟩
theorem V1 {a b:Str}(h:a.cps.toList=b.cps.toList):a=b:=by
 obtain ⟨x⟩:=a
 obtain ⟨y⟩:=b
 have:x=y:=Array.toList_inj.mp h
 rw [this]
noncomputable def strsOf:List D->Option (List Str)
 | []=>some []
 | .str b::ds=>(strsOf ds).map (b::·)
 | _=>none
theorem Lm:∀ {ds:List D} {ss:List Str},strsOf ds=some ss->ds=ss.map D.str
 | [],_,h=>by cases h;rfl
 | d::ds,ss,h=>by
  cases d with
  | str b =>
   unfold strsOf at h
   cases e:strsOf ds with
   | none=>rw [e] at h;cases h
   | some cs=>rw [e] at h;cases h;rw [Lm e];rfl
  | _=>cases h
theorem Mo:∀ {ss:List Str} {vs:List V},RepL K th H (ss.map D.str) vs->vs=ss.map V.str∧∀ x∈ss,x.length≤sizeLine∧PyData.strOk x=true
 | [],_,r=>⟨r.inv0,λ_ h=>nomatch h⟩
 | s::ss,_,r=>by
  obtain ⟨v,r',rfl,h1,h2⟩:=RepL.inv (d:=.str s) (ds:=ss.map D.str) r
  obtain ⟨e,hs⟩:=Mo h2
  rw [e,h1.1]
  refine ⟨rfl,λx hx=>?_⟩
  rcases An.mp hx with rfl|hx
  ·exact h1.2
  ·exact hs x hx
theorem JT:∀ {ss:List Str},(∀ x∈ss,x.length≤sizeLine∧PyData.strOk x=true)->RepL K th H (ss.map D.str) (ss.map V.str)
 | [],_=>.nil
 | s::ss,h=>.cons (d:=.str s) ⟨rfl,h s (.head _)⟩ (JT λx hx=>h x (.tail _ hx))
end
noncomputable def LtAt (A:Around)(s:Shared)(y x:Value)(b:Bool):Prop:=
 ∀ (prog:Program) (w:World) (E:Value->Shared->Prop) (Q:Value->Shared->Prop),Q (.bool b) s->wpAny (model prog w) A (richCompare .Lt y x) Q E s
noncomputable def NW (A:Around)(s:Shared):List Value->List Value->Bool->Prop
 | [],[],b=>b=false
 | [],_::_,b=>b=true
 | _::_,[],b=>b=false
 | y::vs,x::ws,b=>∃ e,SeqAt.EqAt A s y x e∧if e=true then NW A s vs ws b else LtAt A s y x b
section
open PySem.SeqAt
open PySem.AutoSeq1 (wpAny_loadPart')
open PySem.MeetsSeq PySem.MeetsSeq2 PySem.MeetsSeq3
theorem Np (l b:Addr)(items items2:Array Value)(n n2:Nat)(dd dd2:Option Addr)(sl sl2:Array (Option Value))(r:Bool) :
  Meets (Builtin.«tuple.__lt__» ⟨[.ref l,.ref b],[]⟩)
   (λA R s=>s.heap.get? l=some { cls:=.type "tuple",dict:=dd,data:=.seq items n,slots:=sl }∧s.heap.get? b=some { cls:=.type "tuple",dict:=dd2,data:=.seq items2 n2,slots:=sl2 } ∧
    NW A.in1 s items.toList items2.toList r∧R (.ok (.ret (.bool r))) s):=
 .of_wp λprog w A R s h=>by
  obtain ⟨hp,g,d,tk,os⟩:=s;obtain ⟨hl,hb,hx,h⟩:=h
  have f2:=AutoSeq1.sub_tuple_tuple
  wp_walk using Bv hl,Bv hb,wpAny_forIn_list _ (λrest b s'=>b.1=none∧s'=⟨hp,g,d,tk,os⟩∧∃ (vs ws:List Value),rest=vs.zip ws ∧
   NW A.in1 ⟨hp,g,d,tk,os⟩ vs ws r∧vs.length+items2.size=ws.length+items.size) _
  case turn =>
   rintro ⟨y,x⟩ rest b s' ⟨hb',rfl,vs,ws,hz,hlx,hlen⟩
   cases vs with
   | nil=>rw [List.zip_nil_left] at hz;cases hz
   | cons a vs' =>
    cases ws with
    | nil=>rw [List.zip_nil_right] at hz;cases hz
    | cons c ws' =>
     rw [List.zip_cons_cons] at hz
     injection hz with hyx hrest
     injection hyx with hy hx
     subst hy hx
     simp only [List.length_cons] at hlen
     obtain ⟨e,he,hiff⟩:=hlx
     refine Aa (he prog w _ _ ?_)
     cases e with
     | true =>
      rw [if_pos rfl] at hiff
      wp_walk
      exact ⟨rfl,rfl,_,_,hrest,hiff,by omega⟩
     | false =>
      rw [if_neg AB] at hiff
      have hri:=hiff prog w
      wp_walk using hri
      exact ⟨_,rfl,by simpa using h⟩
  case fin =>
   rintro ⟨b1,b2⟩ s' ⟨hb',rfl,vs,ws,hz,hlx,hlen⟩
   simp only at hb'
   subst hb'
   have hv:r=decide (items.size<items2.size):=by
    cases vs with
    | nil =>
     cases ws with
     | nil =>
      simp only [List.length_nil] at hlen
      rw [show r=false from hlx]
      exact (AV (by omega)).symm
     | cons c ws' =>
      simp only [List.length_nil,List.length_cons] at hlen
      rw [show r=true from hlx]
      exact (BJ (by omega)).symm
    | cons a vs' =>
     cases ws with
     | nil =>
      simp only [List.length_nil,List.length_cons] at hlen
      rw [show r=false from hlx]
      exact (AV (by omega)).symm
     | cons c ws' =>
      rw [List.zip_cons_cons] at hz
      cases hz
   rw [hv] at h
   wp_walk
   exact ⟨_,rfl,by simpa [Builtin.Tuple.tupleCompareSizes] using h⟩
  case h =>
   exact ⟨rfl,rfl,items.toList,items2.toList,rfl,hx,by simp;omega⟩
end
theorem LtAt.tuples {A:Around}{s:Shared}{l b:Addr}{items items2:Array Value}{r:Bool}(hl:IsTup s.heap l items)(hb:IsTup s.heap b items2)(hu:A.units<cLine)(hx:NW A.in1 s items.toList items2.toList r):LtAt A s (.ref l) (.ref b) r:=λprog w E Q h=>by
 obtain ⟨⟨cls,dd,data,sl⟩,ho,hc,n,hd⟩:=id hl
 obtain ⟨⟨cls2,dd2,data2,sl2⟩,ho2,hc2,n2,hd2⟩:=id hb
 simp only at hc hd hc2 hd2
 subst hc hd hc2 hd2
 exact richCompare_meets_room (op:=.Lt) ⟨_,ho,rfl⟩ ⟨_,ho2,rfl⟩ PySem.F.slot_tuple_lt PySem.F.entry_tuple_lt (PySem.F.args_tuple_lt_2 _ _) (Np l b items items2 n n2 dd dd2 sl sl2 r)
  ⟨ho,ho2,hx,show Value.bool r≠Value.notImplemented∧Q (.bool r) s from ⟨(λx=>nomatch x),h⟩⟩ hu
mutual
noncomputable def ltB:D->D->Option Bool
 | .int i,.int j=>some (decide (i<j))
 | .str i,.str j=>some (decide (i.cps.toList<j.cps.toList))
 | .tup xs,.tup ys=>Ik xs ys
 | _,_=>none
noncomputable def Ik:List D->List D->Option Bool
 | [],[]=>some false
 | [],_::_=>some true
 | _::_,[]=>some false
 | x::xs,y::ys=>if CQ x&&CQ y then (if PyData.eqv (toPy x) (toPy y) then Ik xs ys else ltB x y) else none
end
section
variable {X:Cx} {K:Zc} {th:List Addr} {mu:Sto} {H:Hp}
mutual
theorem Pz {pins:List (Addr×Obj)}{st:L2.St}{s:Shared}(I:L2.Inv X pins st H s):∀ (d e:D) (b:Bool) (v u:V) (vv uu:Value) (A:Around),ltB d e=some b->Rep X.z th H d v->Rep X.z th H e u->RelV v vv->RelV u uu->A.units+(toPy d).depth+1<cLine->LtAt A s vv uu b
 | .int i,e,b,v,u,vv,uu,A,h,r1,r2,q1,q2,hu=>by
  cases e with
  | int j =>
   unfold ltB at h
   cases h
   cases (show _=_ from r1)
   cases (show _=_ from r2)
   obtain ⟨t1,rfl⟩:=q1
   obtain ⟨t2,rfl⟩:=q2
   exact λprog w E Q hq=>(PyProof.Rows.lt_int hq:wpAny (model prog w) A (compareOp .Lt (.int i t1) (.int j t2)) Q E s)
  | _=>unfold ltB at h;cases h
 | .str i,e,b,v,u,vv,uu,A,h,r1,r2,q1,q2,hu=>by
  cases e with
  | str j =>
   unfold ltB at h
   cases h
   obtain ⟨rfl,_⟩:=(show _∧_ from r1)
   obtain ⟨rfl,_⟩:=(show _∧_ from r2)
   obtain ⟨t1,rfl⟩:=q1
   obtain ⟨t2,rfl⟩:=q2
   exact λprog w E Q hq=>(PyProof.Rows.lt_str hq:wpAny (model prog w) A (compareOp .Lt (.str i t1) (.str j t2)) Q E s)
  | _=>unfold ltB at h;cases h
 | .tup xs,e,b,v,u,vv,uu,A,h,r1,r2,q1,q2,hu=>by
  cases e with
  | tup ys =>
   unfold ltB at h
   unfold Rep at r1 r2
   obtain ⟨a,vs,rfl,h1,l1,_⟩:=r1
   obtain ⟨c,us,rfl,h2,l2,_⟩:=r2
   cases q1
   cases q2
   obtain ⟨its,rv,p1,_⟩:=I.tuple h1
   obtain ⟨its2,rv2,p2,_⟩:=I.tuple h2
   have hd:(toPy (.tup xs)).depth=PyData.depthAll (CG xs)+1:=by unfold toPy PyData.depth;rfl
   rw [hd] at hu
   refine LtAt.tuples p1 p2 (by omega) ?_
   have:=Ql I xs ys b vs us its its2 A.in1 h l1 l2 rv rv2 (by show A.units+1+PyData.depthAll (CG xs)+1<cLine;omega)
   simpa using this
  | _=>unfold ltB at h;cases h
 | .non,e,b,_,_,_,_,_,h,_,_,_,_,_=>by cases e<;>(unfold ltB at h;cases h)
 | .bl _,e,b,_,_,_,_,_,h,_,_,_,_,_=>by cases e<;>(unfold ltB at h;cases h)
 | .lst _,e,b,_,_,_,_,_,h,_,_,_,_,_=>by cases e<;>(unfold ltB at h;cases h)
 | .dct _ _,e,b,_,_,_,_,_,h,_,_,_,_,_=>by cases e<;>(unfold ltB at h;cases h)
 | .set _,e,b,_,_,_,_,_,h,_,_,_,_,_=>by cases e<;>(unfold ltB at h;cases h)
 | .ref _,e,b,_,_,_,_,_,h,_,_,_,_,_=>by cases e<;>(unfold ltB at h;cases h)
theorem Ql {pins:List (Addr×Obj)}{st:L2.St}{s:Shared}(I:L2.Inv X pins st H s):∀ (xs ys:List D) (b:Bool) (vs us:List V) (vvs uus:List Value) (A:Around),Ik xs ys=some b->RepL X.z th H xs vs->RepL X.z th H ys us->Vals vs vvs->Vals us uus->A.units+PyData.depthAll (CG xs)+1<cLine->NW A s vvs uus b
 | [],[],b,_,_,_,_,A,h,r1,r2,q1,q2,hu=>by
  cases r1.inv0;cases r2.inv0;cases q1;cases q2
  unfold Ik at h
  cases h
  rfl
 | [],y::ys,b,_,_,_,_,A,h,r1,r2,q1,q2,hu=>by
  cases r1.inv0
  obtain ⟨v,r,rfl,_,_⟩:=r2.inv
  cases q1
  cases q2
  unfold Ik at h
  cases h
  rfl
 | x::xs,[],b,_,_,_,_,A,h,r1,r2,q1,q2,hu=>by
  cases r2.inv0
  obtain ⟨v,r,rfl,_,_⟩:=r1.inv
  cases q1
  cases q2
  unfold Ik at h
  cases h
  rfl
 | x::xs,y::ys,b,_,_,_,_,A,h,r1,r2,q1,q2,hu=>by
  obtain ⟨v,r,rfl,a1,a2⟩:=r1.inv
  obtain ⟨u,r',rfl,b1,b2⟩:=r2.inv
  cases q1 with
  | cons g1 g2 =>
   cases q2 with
   | cons k1 k2 =>
    unfold Ik at h
    have hd:PyData.depthAll (CG (x::xs))=max (toPy x).depth (PyData.depthAll (CG xs)):=by rw [CG,PyData.depthAll]
    rw [hd] at hu
    by_cases c:(CQ x&&CQ y)=true
    ·rw [if_pos c] at h
     rw [Ab] at c
     obtain ⟨as,w1,w2⟩:=Fv I x v _ c.1 a1 g1
     obtain ⟨bs,w3,w4⟩:=Fv I y u _ c.2 b1 k1
     refine ⟨_,SeqAt.eqAt_reads _ _ A s _ _ as bs w1 w3 w2 w4 (by omega),?_⟩
     cases e:PyData.eqv (toPy x) (toPy y) with
     | true=>rw [e] at h;rw [if_pos rfl] at h ⊢;exact Ql I xs ys b _ _ _ _ A h a2 b2 g2 k2 (by omega)
     | false=>rw [e] at h;rw [if_neg AB] at h ⊢;exact Pz I x y b _ _ _ _ A h a1 b1 g1 k1 (by omega)
    ·rw [if_neg c] at h;cases h
end
noncomputable def ltG (d e:D)(mu:Sto):Rs D:=if (toPy d).depth≤60 then (ltB d e).map λb=>(.bl b,mu) else none
theorem NA (hu:X.A.units+64<cLine):OpV X (compareOp .Lt) ltG:=by
 intro pins s st H x y v u Q I rx ry h
 obtain ⟨th,mu,d,e,so,r1,r2,t⟩:=h
 unfold ltG at t
 by_cases c:(toPy d).depth≤60
 ·rw [if_pos c] at t
  cases e1:ltB d e with
  | none=>rw [e1] at t;exact t.no.elim
  | some b =>
   rw [e1] at t
   exact Pz I d e b x y v u X.A e1 r1 r2 rx ry (by omega) _ _ _ _ ⟨.bl b,H,I,rfl,t.ret so _ rfl⟩
 ·rw [if_neg c] at t;exact t.no.elim
end
section
variable {X:Cx} {K:Zc} {th:List Addr} {mu:Sto} {H:Hp}
theorem LH {pins:List (Addr×Obj)}{st:L2.St}{s:Shared}(I:L2.Inv X pins st H s):sysModules<s.heap.objs.size:=by
 obtain ⟨o,_,_,ho,_⟩:=I.mod.glob
 exact Aw (show sysModules<mainGlobals+1 by decide) (Ak (I.bk _ _ ho))
theorem LC {P:Program}{w:World}{H:Hp}{h:Heap}{a:Addr}{xs:List (Int×V×V)}(x:Yo a xs h):ObjOk P w H h a (Hb a xs):=by
 refine ⟨x,?_,λh1 h2 ⟨z,o,es,ep,ho,r⟩ k=>⟨z,o,es,ep,k o ho,r⟩⟩
 obtain ⟨_,o,es,ep,ho,r⟩:=x
 exact ⟨o,ho⟩
noncomputable def Oa:Ex:=λ_ mu=>some (.dct [] [],mu)
noncomputable def Zj:Ex:=λ_ mu=>some (.ref mu.length,mu++[.dct [] []])
theorem VV {pins:List (Addr×Obj)}{st:L2.St}{s:Shared}(I:L2.Inv X pins st H s):Yo s.heap.objs.size [] (s.heap.push { cls:=.type "dict",data:=.dict #[] }):=
 ⟨BR.mpr (Ne.symm (Ar (LH I))),_,#[],0,Am _ rfl,⟨rfl,rfl,rfl⟩,rfl,.nil⟩
theorem Qd {pos:Pos}:SV X (.Dict [] [] pos) Oa:=⟨λpins s st H Q I h=>by
 obtain ⟨th,mu,ro,so,en,t⟩:=h
 have hp:H s.heap.objs.size=none:=I.hok.fresh (Ah _)
 refine wpAny_Dict_empty ⟨.ref s.heap.objs.size,_,I.laid (a:=s.heap.objs.size) (o:=Hb s.heap.objs.size []) (t':=s.toks) (λ_ _ q=>Ad _ q) (Ah _) (LC (VV I)),rfl,t.retX (.new hp _) (so.new hp _) _ ?_⟩
 unfold Rep
 exact ⟨_,[],rfl,so.notin hp,Ec,rfl,.nil,.nil,.nil⟩⟩
theorem AaC (xs:Array Value):((List.range xs.size).filterMap λ(m:Nat)=>xs[(((xs.size:Int)-1)+(m:Int)*(-1)).toNat]?)=xs.toList.reverse:=by
 have gen:∀ n,n≤xs.size->((List.range n).filterMap λ(m:Nat)=>xs[(((xs.size:Int)-1)+(m:Int)*(-1)).toNat]?)=xs.toList.reverse.take n:=by
  intro n
  induction n with
  | zero=>intro _;simp
  | succ n ih =>
   intro hn
   have e:(((xs.size:Int)-1)+(n:Int)*(-1)).toNat=xs.size-1-n:=by omega
   rw [List.range_succ,List.filterMap_append,ih (by omega),List.take_add_one]
   congr 1
   rw [List.filterMap_cons,List.filterMap_nil,e,List.getElem?_reverse (by simp;omega)]
   simp [show xs.size-1-n<xs.size by omega]
 rw [gen xs.size (Ah _),List.take_of_length_le (by simp)]
theorem JR {prog:Program}{w:World}{A:Around}{E:Value->Shared->Prop}{s:Shared}{sl:Addr}{t:Tok}{n:Nat}{Q:Int×Int×Nat->Shared->Prop}(hs:s.heap.IsSliceOf sl .none .none (.int (-1) t))
  (h:Q (((n:Int)-1),-1,n) s):wpAny (model prog w) A (Builtin.Slice.sliceApplied (.ref sl) (pure (n:Int))) Q E s:=by
 obtain ⟨os,hos,hcs,hds⟩:=id hs
 unfold Builtin.Slice.sliceApplied Builtin.Slice.sliceFields
 refine Aa (Aa (wpAny_field hos hds (x:=.none) rfl (Aa (wpAny_field hos hds (x:=.none) rfl (Aa (wpAny_field hos hds (x:=.int (-1) t) rfl (Ac ?_)))))))
 refine Aa (HT.GC (.int (-1) t) ?_)
 show wpAny _ _ (if ((-1:Int)==0)=true then _ else _) _ _ s
 rw [if_neg (by decide)]
 refine Aa (HT.GC .none (Aa (HT.GC .none (Aa (Ac ?_)))))
 show wpAny _ _ (pure (((n:Int)-1),(-1:Int),Builtin.Slice.slicePlaces ((n:Int)-1) (-1) (-1))) _ _ s
 have e:Builtin.Slice.slicePlaces ((n:Int)-1) (-1) (-1)=n:=by
  unfold Builtin.Slice.slicePlaces
  rw [if_neg (by decide)]
  by_cases h:(n:Int)-1 > -1
  ·rw [if_pos h]
   have:((n:Int)-1 - -1-1) / (- -1)+1=n:=by rw [show (- -1:Int)=1 from rfl,Int.ediv_one];omega
   rw [this]
   simp
  ·rw [if_neg h]
   simp
   omega
 rw [e]
 exact Ac h
theorem JE {prog:Program}{w:World}{A:Around}{E:Value->Shared->Prop}{s:Shared}{t sl:Addr}{items:Array Value}{tk:Tok}{Q:Value->Shared->Prop}(ht:IsTup s.heap t items)(hs:s.heap.IsSliceOf sl .none .none (.int (-1) tk))
  (h:Q (.ref s.heap.objs.size) { s with heap:=s.heap.push { cls:=.type "tuple",data:=.seq items.toList.reverse.toArray } }) (hsz:items.size≤sizeLine):wpAny (model prog w) A (getItem (.ref t) (.ref sl)) Q E s:=by
 obtain ⟨os,hos,hcs,hds⟩:=id hs
 have hTs:s.TypeIs (.ref sl) "slice":=⟨os,hos,hcs⟩
 have htake:sizeOk (.seq items.toList.reverse.toArray):=by
  show items.toList.reverse.toArray.size≤sizeLine
  simpa using hsz
 unfold getItem
 try with_reducible refine AG ?_
 first|refine Aa (Ac ?_)|skip
 refine Aa (wpAny_sequenceKey ht.typeIs (by decide) ?_)
 refine Aa (A5 (name:=Str.ofString "__getitem__") ht.typeIs AU
  (AY AU ht.typeIs entry_tuple_getitem ?_ (args_tuple_getitem _ _)))
 show wpAny _ _ (Builtin.Tuple.tupleItemsOf (.ref t) >>= _) _ _ s
 refine Aa (tupleItemsOf_ ht ?_)
 refine Aa (BB hTs ?_)
 rw [if_pos (by decide)]
 refine Aa (JR hs ?_)
 dsimp only
 rw [if_neg (by simp),AaC]
 exact Aa (m:=Builtin.Tuple.tupleExact _) (AO (Ac ⟨_,rfl,Ac h⟩) htake)
noncomputable def VL (d:D)(mu:Sto):Rs D:=match d with
 | .tup ds=>some (.tup ds.reverse,mu)
 | _=>none
theorem Vals.rev {xs:List V}{us:List Value}(r:Vals xs us):Vals xs.reverse us.reverse:=Vals.reverse r
theorem Yl {e:Expr}{m:Ex}{j:Nat}{p1 p2 p3 pos:Pos}(he:SV X e m):SV X (.Subscript e (.Slice none none (some (.UnaryOp .USub (.Constant (.int 1) j p1) p2)) p3) pos) (e1 VL m):=⟨by
 intro pins s st H Q I h
 obtain ⟨th,mu,ro,so,en,t⟩:=h
 refine Subscript_ (thn (he.r pins s st H (λx H1=>∃ th1 mu1 d,StoOk X.z th1 mu1 H1∧Rep X.z th1 H1 d x∧Tr X.z th1 H1 (VL d mu1) (KV' X.z Q)) I ⟨th,mu,ro,so,en,t.bind.mono λd th1 mu1 H1 e1 s1 t1 v rv=>⟨th1,mu1,d,s1,rv,t1⟩⟩) λv s1 ⟨x,H1,I1,r1,th1,mu1,d,so1,rd,t1⟩=>?_)
 refine wpAny_Slice ?_
 rw [evalPart_none]
 refine Ac (Ac ?_)
 rw [evalPart_some]
 refine thn ((Y2 (X:=X) Wy (Tc (i:=1) (j:=j) (pos:=p1))) pins s1 st H1 (λy H'=>y=.int (-1)∧H'=H1) I1 ⟨1,rfl,rfl,rfl⟩) λu s2 ⟨y,H2,I2,r2,ey,eH⟩=>?_
 subst ey eH
 obtain ⟨tk,rfl⟩:=r2
 have I4:L2.Inv X pins st H2 { s2 with heap:=s2.heap.push { cls:=.type "slice",data:=.fields #[.none,.none,.int (-1) tk] } }:=I2.kept (t':=s2.toks) λb ob q=>Ad _ q
 cases d with
 | tup ds =>
  unfold Rep at rd
  obtain ⟨a,vs,rfl,h1,h2,h3⟩:=rd
  cases r1
  obtain ⟨its,rv,ht,hz⟩:=I4.tuple h1
  show wpAny (model X.prog X.w) X.A (subscriptTail e (.Slice none none (some (.UnaryOp .USub (.Constant (.int 1) j p1) p2)) p3) (.ref a) (.ref s2.heap.objs.size)) (EP X pins st Q) X.xe { s2 with heap:=s2.heap.push { cls:=.type "slice",data:=.fields #[.none,.none,.int (-1) tk] } }
  refine tail_any (ops:=[.ref a,.ref s2.heap.objs.size]) ht.typeIs AU.lookup (JE ht (Heap.IsSliceOf.new ..) ?_ (by rw [Ai,← rv.length];exact hz)) (by with_unfolding_all rfl)
  have hp:=I4.hok.fresh (Ah _)
  refine ⟨.ref _,_,I4.laid (t':=s2.toks) (o:=.tup vs.reverse) (λb ob q=>Ad _ q) (Ah _) ⟨⟨by rw [List.length_reverse];exact hz,_,Am _ rfl,rfl⟩,its.reverse,Vals.rev rv,IsTup.new _ _⟩,rfl,?_⟩
  exact t1.retX (.new hp _) (so1.new hp _) _ (Rep.newTup so1 hp h2.rev (by rw [List.length_reverse];exact h3))
 | _=>exact t1.no.elim⟩
end
noncomputable def DG {α:Type}(ask:Nat->Nat->Option Bool):PySem.W.KasT α->Option α
 | .ret a=>some a
 | .ask i j k=>match ask i j with
  | none=>none
  | some b=>DG ask (k b)
theorem Kb {α:Type}{ask:Nat->Nat->Option Bool}{cmp:Nat->Nat->(Bool->Shared->Prop)->Shared->Prop}{s:Shared}(hc:∀ i j b C,ask i j=some b->C b s->cmp i j C s):∀ (t:PySem.W.KasT α) (a:α) (Q:α->Shared->Prop),DG ask t=some a->Q a s->t.kasWp cmp Q s
 | .ret a,_,Q,e,q=>by cases e;exact q
 | .ask i j k,a,Q,e,q=>by
  unfold DG at e
  cases e1:ask i j with
  | none=>rw [e1] at e;cases e
  | some b =>
   rw [e1] at e
   exact hc i j b _ e1 (Kb hc (k b) a Q e q)
section
variable {X:Cx} {K:Zc} {th:List Addr} {mu:Sto} {H:Hp}
noncomputable def tupS:D->Bool
 | .tup (.str x::r)=>Em r&&decide (PyData.depthAll (CG r)≤50)
 | _=>false
theorem La {d:D}(h:tupS d=true):∃ x r,d=.tup (.str x::r)∧Em r=true∧PyData.depthAll (CG r)≤50:=by
 unfold tupS at h
 split at h
 ·rename_i x r
  rw [Ab,Ae] at h
  exact ⟨x,r,rfl,h.1,h.2⟩
 ·cases h
theorem Mu {pins:List (Addr×Obj)}{st:L2.St}{s:Shared}(I:L2.Inv X pins st H s){A:Around}{fin:Bool}{Q:Bool->Shared->Prop} :
  ∀ (xs ys:List D) (b:Bool) (vs us:List V) (vvs uus:List Value) (i:Nat),Ik xs ys=some b->RepL X.z th H xs vs->RepL X.z th H ys us->Vals vs vvs->Vals us uus->A.units+PyData.depthAll (CG xs)+1<cLine ->
   (i=0->∃ x r y r',xs=.str x::r∧ys=.str y::r')->(fin=decide (xs.length<ys.length))->Q b s->PySem.W.KatLex X.prog X.w A true fin Q (vvs.zip uus) i s
 | [],[],b,_,_,_,_,i,h,r1,r2,q1,q2,hu,h0,hf,q=>by
  cases r1.inv0;cases r2.inv0;cases q1;cases q2
  unfold Ik at h
  cases h
  exact PySem.W.kat_nil (by rw [hf];exact q)
 | [],y::ys,b,_,_,_,_,i,h,r1,r2,q1,q2,hu,h0,hf,q=>by
  cases r1.inv0
  obtain ⟨v,r,rfl,_,_⟩:=r2.inv
  cases q1
  cases q2
  unfold Ik at h
  cases h
  exact PySem.W.kat_nil (by rw [hf,BJ (by simp)];exact q)
 | x::xs,[],b,_,_,_,_,i,h,r1,r2,q1,q2,hu,h0,hf,q=>by
  cases r2.inv0
  obtain ⟨v,r,rfl,_,_⟩:=r1.inv
  cases q1
  cases q2
  unfold Ik at h
  cases h
  exact PySem.W.kat_nil (by rw [hf,AV (by simp)];exact q)
 | x::xs,y::ys,b,_,_,_,_,i,h,r1,r2,q1,q2,hu,h0,hf,q=>by
  obtain ⟨v,r,rfl,a1,a2⟩:=r1.inv
  obtain ⟨u,r',rfl,b1,b2⟩:=r2.inv
  cases q1 with
  | cons g1 g2 =>
   cases q2 with
   | cons k1 k2 =>
    unfold Ik at h
    have hd:PyData.depthAll (CG (x::xs))=max (toPy x).depth (PyData.depthAll (CG xs)):=by rw [CG,PyData.depthAll]
    rw [hd] at hu
    by_cases c:(CQ x&&CQ y)=true
    ·rw [if_pos c] at h
     rw [Ab] at c
     obtain ⟨as,w1,w2⟩:=Fv I x v _ c.1 a1 g1
     obtain ⟨bs,w3,w4⟩:=Fv I y u _ c.2 b1 k1
     refine PySem.W.kat_cons (SeqAt.eqAt_reads _ _ A s _ _ as bs w1 w3 w2 w4 (by omega) _ _ _ _ ?_)
     cases e:PyData.eqv (toPy x) (toPy y) with
     | true =>
      rw [e,if_pos rfl] at h
      refine PySem.W.kat_yes (Mu I xs ys b _ _ _ _ (i+1) h a2 b2 g2 k2 (by omega) (λz=>by omega) (by rw [hf];simp) q)
     | false =>
      rw [e,if_neg AB] at h
      refine PySem.W.kat_no ?_
      by_cases hi:i=0
      ·subst hi
       obtain ⟨x',_,y',_,e1,e2⟩:=h0 rfl
       cases e1
       cases e2
       obtain ⟨rfl,_⟩:=(show _∧_ from a1)
       obtain ⟨rfl,_⟩:=(show _∧_ from b1)
       obtain ⟨t1,rfl⟩:=g1
       obtain ⟨t2,rfl⟩:=k1
       unfold ltB at h
       cases h
       exact oneLt_str q
      ·rw [show (true&&i==0)=false by simp [hi]]
       exact PySem.W.kat_one _ _ (Pz I x y b _ _ _ _ A h a1 b1 g1 k1 (by omega) _ _ _ _ q)
    ·rw [if_neg c] at h;cases h
noncomputable def QO (ds:List D)(i j:Nat):Option Bool:=match ds[i]?,ds[j]? with
 | some d,some e=>ltB d e
 | _,_=>none
theorem LK {pins:List (Addr×Obj)}{st:L2.St}{s:Shared}(I:L2.Inv X pins st H s):∀ {ds:List D} {vs:List V} {us:List Value},ds.all tupS=true->RepL X.z th H ds vs->Vals vs us->∃ fs,PySem.W.KatTups s.heap us fs∧fs.length=ds.length∧∀ v∈fs,∃ x t,v=.str x t
 | [],_,_,_,r,q=>by cases r.inv0;cases q;exact ⟨[],.nil,rfl,λ_ h=>nomatch h⟩
 | d::ds,_,_,h,r,q=>by
  obtain ⟨v,r',rfl,a1,a2⟩:=r.inv
  rw [List.all_cons,Ab] at h
  cases q with
  | cons q1 q2 =>
   obtain ⟨x,es,rfl,_,_⟩:=La h.1
   obtain ⟨fs,f1,f2,f3⟩:=LK I h.2 a2 q2
   unfold Rep at a1
   obtain ⟨a,ws,rfl,h1,l1,_⟩:=a1
   obtain ⟨w0,wr,rfl,l2,_⟩:=RepL.inv l1
   obtain ⟨rfl,_⟩:=(show _∧_ from l2)
   cases q1
   obtain ⟨its,rv,⟨o,g1,g2,n,g3⟩,_⟩:=I.tuple h1
   cases rv with
   | cons k1 k2 =>
    obtain ⟨t,rfl⟩:=k1
    exact ⟨_::fs,.cons g1 g2 g3 rfl f1,by simp [f2],λz hz=>(An.mp hz).elim (λe=>⟨x,t,e⟩) (f3 z)⟩
theorem W9 {pins:List (Addr×Obj)}{st:L2.St}{s:Shared}(I:L2.Inv X pins st H s){ds:List D}{vs:List V}{us:List Value}(hd:ds.all tupS=true)(r:RepL X.z th H ds vs)(q:Vals vs us){A:Around}(hu:A.units+60<cLine) :
  ∀ i j b C,QO ds i j=some b->C b s->PySem.W.kas_ask X.prog X.w A (tuples' true) us i j C s:=λi j b C e hC=>by
 unfold QO at e
 cases e1:ds[i]? with
 | none=>rw [e1] at e;cases e
 | some d =>
  cases e2:ds[j]? with
  | none=>rw [e1,e2] at e;cases e
  | some d' =>
   rw [e1,e2] at e
   have m1:=Ao.mp hd d (Ap e1)
   have m2:=Ao.mp hd d' (Ap e2)
   obtain ⟨x,xs,rfl,_,dx⟩:=La m1
   obtain ⟨y,ys,rfl,_,dy⟩:=La m2
   obtain ⟨v,ev,rv⟩:=r.get e1
   obtain ⟨v',ev',rv'⟩:=r.get e2
   obtain ⟨u,eu,ru⟩:=q.get ev
   obtain ⟨u',eu',ru'⟩:=q.get ev'
   unfold PySem.W.kas_ask
   rw [show us.getD i Value.none=u by rw [AF,eu];rfl,show us.getD j Value.none=u' by rw [AF,eu'];rfl]
   unfold Rep at rv rv'
   obtain ⟨a,ws,rfl,h1,l1,_⟩:=rv
   obtain ⟨a',ws',rfl,h1',l1',_⟩:=rv'
   cases ru
   cases ru'
   obtain ⟨its,rw1,⟨o,g1,g2,n,g3⟩,_⟩:=I.tuple h1
   obtain ⟨its',rw2,⟨o',g1',g2',n',g3'⟩,_⟩:=I.tuple h1'
   unfold ltB at e
   refine PySem.W.kat_lt g1 g3 g1' g3' ?_
   have hx:PyData.depthAll (CG (.str x::xs))≤50:=by
    rw [CG,PyData.depthAll]
    show max 0 _≤50
    omega
   have:=Mu I (A:=A) (fin:=decide (its.toArray.size<its'.toArray.size)) (Q:=C) (.str x::xs) (.str y::ys) b ws ws' its its' 0 e l1 l1' rw1 rw2 (by omega) (λ_=>⟨x,xs,y,ys,rfl,rfl⟩) (by rw [Ai,Ai,← rw1.length,← rw2.length,l1.len,l1'.len]) hC
   simpa using this
end
section
variable {prog:Program} {w:World} {A:Around} {E:Value->Shared->Prop} {s:Shared}
theorem Pq {T:String}(hT:T="list"∨T="tuple"){l:Addr}{ob:Obj}{zs:List Value}{n:Nat}{Q:List Value->Shared->Prop}(ho:s.heap.get? l=some ob)(hc:ob.cls=.type T)(hd:ob.data=.seq zs.toArray n)
  (h:Q zs { s with heap:=(s.heap.push (seqObj "list" #[] 0)).update s.heap.objs.size (Obj.mapSeq (·++zs.toArray)) }) (hz:zs.length≤sizeLine):wpAny (model prog w) A (collect (.ref l)) Q E s:=by
 unfold collect
 refine Aa (wpAny_runValue (Bj entry_proto_collect' ?_))
 show wpAny _ _ (do again (.builtin "list.__iadd__" ⟨[← newList [],.ref l],[]⟩)) _ _ s
 refine Aa (wpAny_newList (Ac (And.intro (Code.quiet_builtin _ (by decide +kernel)) (Bj entry_list_iadd' ?_))))
 show wpAny _ _ (Builtin.List.listExtendWith (.ref s.heap.objs.size) (.ref l) (.ref s.heap.objs.size)) _ _ { s with heap:=s.heap.push (seqObj "list" #[] 0) }
 have g:(s.heap.push (seqObj "list" #[] 0)).get? l=some ob:=Ad _ ho
 (unfold Builtin.List.listExtendWith)
 refine Aa (BB (T:=T) ⟨ob,g,hc⟩ ?_)
 rw [if_pos (by rcases hT with rfl|rfl<;>simp)]
 refine Aa (listItems_at g hd (Aa (listItems_at (xs:=#[]) (n:=0) (Am _ rfl) rfl ?_)))
 rw [if_neg (by simp)]
 refine Aa (listUpdate_at (xs:=#[]) (n:=0) (Am _ rfl) rfl (Ac ?_) (A3 _) (by
  show ((#[]:Array Value)++zs.toArray).size≤sizeLine+1
  simp only [Array.size_append,Ai,List.length_nil]
  omega))
 show wpAny (model prog w) A (load s.heap.objs.size >>= λo=>match o.data with
   | .seq xs _=>pure xs.toList
   | _=>unsupported "internal:collect") Q E { s with heap:=(s.heap.push (seqObj "list" #[] 0)).update s.heap.objs.size (Obj.mapSeq (·++zs.toArray)) }
 refine Aa (wpAny_load (get?_update_seq (Am _ rfl) _) ?_)
 show wpAny _ _ (pure ((#[]:Array Value)++zs.toArray).toList) Q E _
 have e0:((#[]:Array Value)++zs.toArray).toList=zs:=by simp
 rw [e0]
 exact Ac h
theorem Qe {a:Addr}{zs:List Value}{n:Nat}{P:PySem.Fin->Shared->Prop}{kd:SortKind}(p:Array Nat)(hp:p.size=zs.length)(ho:s.heap.get? a=some (seqObj "list" zs.toArray n))(h2:2≤zs.length)(h64:zs.length<64)
  (hk:∀ (Q:SortKind->Shared->Prop) (E':Value->Shared->Prop),Q kd { s with heap:=((s.heap.update a (Obj.mapSeq λ_=>#[])).push (seqObj "tuple" zs.toArray 0)).push (seqObj "list" #[] 0) }->wpAny (model prog w) A (keyKind' zs.toArray) Q E' { s with heap:=((s.heap.update a (Obj.mapSeq λ_=>#[])).push (seqObj "tuple" zs.toArray 0)).push (seqObj "list" #[] 0) })
  (hr:∀ G:Array Nat->Shared->Prop,G p { s with heap:=((s.heap.update a (Obj.mapSeq λ_=>#[])).push (seqObj "tuple" zs.toArray 0)).push (seqObj "list" #[] 0) }->(PySem.W.kas_sort zs.length).kasWp (PySem.W.kas_ask prog w A kd zs) G { s with heap:=((s.heap.update a (Obj.mapSeq λ_=>#[])).push (seqObj "tuple" zs.toArray 0)).push (seqObj "list" #[] 0) })
  (h:P (.done (.ret .none)) { s with heap:=sortedHeap s.heap a zs (p.toList.map λi=>zs.getD i Value.none).toArray }):wpAny (model prog w) A (Builtin.«list.sort» ⟨[.ref a],[]⟩) P E s:=by
 have la:a<s.heap.objs.size:=Ak ho
 rw [list_sort_plain]
 refine Aa (listItems_at ho rfl (Aa (listUpdate_at ho rfl ?_ (by rw [Ai,AL];omega) (A3 _))))
 obtain ⟨n1,ho1⟩:∃ n1,(s.heap.update a (Obj.mapSeq λ_=>#[])).get? a=some (seqObj "list" #[] n1):=⟨_,get?_update_seq ho λ_=>#[]⟩
 refine Aa (seqEpoch_at ho1 rfl (Aa (wpAny_newTuple (Aa (wpAny_newList (AG ?_) (A3 _))) (by show zs.length≤_;rw [AL];omega))))
 have ho2:(((s.heap.update a (Obj.mapSeq λ_=>#[])).push (seqObj "tuple" zs.toArray 0)).push (seqObj "list" #[] 0)).get? a=some (seqObj "list" #[] n1):=Ad _ (Ad _ ho1)
 show wpAny (model prog w) A _ P E { s with heap:=((s.heap.update a (Obj.mapSeq λ_=>#[])).push (seqObj "tuple" zs.toArray 0)).push (seqObj "list" #[] 0) }
 dsimp only
 have n2:¬ zs.toArray.size<2:=by rw [Ai];omega
 rw [if_neg n2,if_neg n2]
 refine Aa (hk _ _ ?_)
 refine Aa (BQ (PySem.W.kat_run (E:=E) (Q:=λst' s'=>arrOf st'=p.map (PySem.W.kas_item (zs.toArray.zip zs.toArray))∧failedOf st'=none∧s'={ s with heap:=((s.heap.update a (Obj.mapSeq λ_=>#[])).push (seqObj "tuple" zs.toArray 0)).push (seqObj "list" #[] 0) }) rfl h2 h64
  (G:=λp' s'=>p'=p∧s'={ s with heap:=((s.heap.update a (Obj.mapSeq λ_=>#[])).push (seqObj "tuple" zs.toArray 0)).push (seqObj "list" #[] 0) }) (λp' st' s' _ a2 a3 a4=>⟨by rw [← a4.1];exact a2,a3,a4.2⟩) (hr _ ⟨rfl,rfl⟩)) ?_ λ_ _ e=>e)
 rintro ⟨⟨⟩,st'⟩ s' ⟨ha,hf,rfl⟩
 dsimp only
 rw [PySem.W.kat_snds rfl ha]
 refine Aa (seqEpoch_at ho2 rfl (Aa (listUpdate_at ho2 rfl ?_ (A3 _) (by
  show (List.toArray (p.toList.map λi=>zs.getD i Value.none)).size≤sizeLine+1
  rw [Ai,Ag,Array.length_toList,hp,AL]
  omega))))
 rw [hf]
 simp only [bne_self_eq_false,AH,A4]
 exact Ac h
theorem SR {a:Addr}{zs:List Value}{n:Nat}{P:PySem.Fin->Shared->Prop}(ho:s.heap.get? a=some (seqObj "list" zs.toArray n))(h2:zs.length<2)
  (h:P (.done (.ret .none)) { s with heap:=sortedHeap s.heap a zs zs.toArray }):wpAny (model prog w) A (Builtin.«list.sort» ⟨[.ref a],[]⟩) P E s:=by
 rw [list_sort_plain]
 refine Aa (listItems_at ho rfl (Aa (listUpdate_at ho rfl ?_ (by rw [Ai,AL];omega) (A3 _))))
 obtain ⟨n1,ho1⟩:∃ n1,(s.heap.update a (Obj.mapSeq λ_=>#[])).get? a=some (seqObj "list" #[] n1):=⟨_,get?_update_seq ho λ_=>#[]⟩
 refine Aa (seqEpoch_at ho1 rfl (Aa (wpAny_newTuple (Aa (wpAny_newList (AG ?_) (A3 _))) (by show zs.length≤_;rw [AL];omega))))
 have ho2:(((s.heap.update a (Obj.mapSeq λ_=>#[])).push (seqObj "tuple" zs.toArray 0)).push (seqObj "list" #[] 0)).get? a=some (seqObj "list" #[] n1):=Ad _ (Ad _ ho1)
 show wpAny (model prog w) A _ P E { s with heap:=((s.heap.update a (Obj.mapSeq λ_=>#[])).push (seqObj "tuple" zs.toArray 0)).push (seqObj "list" #[] 0) }
 dsimp only
 have n2:zs.toArray.size<2:=by rw [Ai];exact h2
 rw [if_pos n2,if_pos n2]
 refine Aa (Ac ?_)
 rw [StateT.run_pure]
 refine Aa (Ac ?_)
 dsimp only
 have e0:(arrOf (SortSt.mk' general' (zs.toArray.zip zs.toArray) #[] 7 none)).map (·.2)=zs.toArray:=by
  show (zs.toArray.zip zs.toArray).map (·.2)=zs.toArray
  rw [show zs.toArray.zip zs.toArray=(zs.zip zs).toArray by simp,List.map_toArray,List.map_snd_zip (Ah _)]
 rw [e0]
 refine Aa (seqEpoch_at ho2 rfl (Aa (listUpdate_at ho2 rfl ?_ (A3 _) (by
  show zs.toArray.size≤sizeLine+1
  rw [Ai,AL]
  omega))))
 simp only [bne_self_eq_false,AH,A4]
 exact Ac h
end
end PV
namespace PV
open PySem PyProof.Rows
theorem Fd {α β:Type}(ask:Nat->Nat->Option Bool):∀ (t:PySem.W.KasT α) (f:α->PySem.W.KasT β),DG ask (t.bind f)=(DG ask t).bind λa=>DG ask (f a)
 | .ret a,f=>rfl
 | .ask i j k,f=>by
  have ih:=λb=>Fd ask (k b) f
  simp only [PySem.W.KasT.bind,DG]
  cases ask i j with
  | none=>rfl
  | some b=>exact ih b
structure Pre (n:Nat) (ask:Nat->Nat->Option Bool) (lt:Nat->Nat->Bool):Prop where
 tot:∀ i j,i<n->j<n->ask i j=some (lt i j)
 asym:∀ i j,i<n->j<n->lt i j=true->lt j i=false
 trans:∀ i j k,i<n->j<n->k<n->lt j i=false->lt k j=false->lt k i=false
noncomputable def gi (p:Array Nat)(k:Nat):Nat:=p.getD k 0
structure Ix' (n:Nat) (p:Array Nat):Prop where
 pm:p.toList.Perm (List.range n)
theorem Ix'.size {n:Nat}{p:Array Nat}(h:Ix' n p):p.size=n:=by rw [← Array.length_toList,h.pm.length_eq,List.length_range]
theorem RZ {p:Array Nat}{k:Nat}(h:k<p.size):gi p k=p[k]:=by unfold gi;simp [Array.getD,h]
theorem Ix'.lt {n:Nat}{p:Array Nat}(h:Ix' n p){k:Nat}(hk:k<n):gi p k<n:=by
 have hs:k<p.size:=by rw [h.size];exact hk
 rw [RZ hs]
 exact BI.mp (h.pm.mem_iff.mp (by simpa using Array.getElem_mem hs))
theorem Mt {p q:Array Nat}{k j:Nat}(h:p[k]? = q[j]?):gi p k=gi q j:=by
 unfold gi
 rw [Array.getD_eq_getD_getElem?,Array.getD_eq_getD_getElem?,h]
theorem Ix'.rev {n:Nat}{p:Array Nat}(h:Ix' n p)(i j:Nat):Ix' n (PySem.W.kas_rev p i j):=⟨(Array.perm_iff_toList_perm.mp (mirror_perm p i j _)).trans h.pm⟩
theorem Ix'.bub {n:Nat}{p:Array Nat}(h:Ix' n p)(i j:Nat):Ix' n (bubble p i j):=⟨(Array.perm_iff_toList_perm.mp (bubble_perm p i j)).trans h.pm⟩
theorem Jb {p:Array Nat}{i j:Nat}(hj:j≤p.size)(k:Nat):gi (PySem.W.kas_rev p i j) k=if i≤k∧k<j then gi p (i+j-1-k) else gi p k:=by
 unfold PySem.W.kas_rev
 have e:=getElem?_mirror (xs:=p) (i:=i) hj ((j-i) / 2) (by omega) k
 by_cases c:(i≤k∧k<i+(j-i) / 2)∨(j-(j-i) / 2≤k∧k<j)
 ·rw [if_pos c] at e
  rw [if_pos (by omega)]
  exact Mt e
 ·rw [if_neg c] at e
  by_cases c2:i≤k∧k<j
  ·rw [if_pos c2,show i+j-1-k=k by omega]
   exact Mt e
  ·rw [if_neg c2]
   exact Mt e
theorem XF {p:Array Nat}{src d:Nat}(hs:src<p.size)(hd:d≤src)(k:Nat):gi (bubble p src d) k=if k=src-d then gi p src else if src-d<k∧k≤src then gi p (k-1) else gi p k:=by
 have e:=getElem?_bubble hs d hd k
 by_cases c:k=src-d
 ·rw [if_pos c] at e ⊢;exact Mt e
 ·rw [if_neg c] at e ⊢
  by_cases c2:src-d<k∧k≤src
  ·rw [if_pos c2] at e ⊢;exact Mt e
  ·rw [if_neg c2] at e ⊢;exact Mt e
section
variable {n:Nat} {ask:Nat->Nat->Option Bool} {lt:Nat->Nat->Bool}
noncomputable def Up' (lt:Nat->Nat->Bool)(p:Array Nat)(m:Nat):Prop:=∀ a b,a≤b->b<m->lt (gi p b) (gi p a)=false
noncomputable def Dn' (lt:Nat->Nat->Bool)(p:Array Nat)(m:Nat):Prop:=∀ a b,a≤b->b<m->lt (gi p a) (gi p b)=false
theorem Pre.irr (O:Pre n ask lt){i:Nat}(h:i<n):lt i i=false:=by
 cases e:lt i i with
 | false=>rfl
 | true=>rw [← e];exact O.asym i i h h e
theorem Up'.more (O:Pre n ask lt){p:Array Nat}{m:Nat}(I:Ix' n p)(h:Up' lt p m)(hm:m<n)(h1:m=0∨lt (gi p m) (gi p (m-1))=false):Up' lt p (m+1):=λa b hab hb=>by
 by_cases e:b<m
 ·exact h a b hab e
 ·have:b=m:=by omega
  subst this
  by_cases ea:a=b
  ·subst ea;exact O.irr (I.lt hm)
  ·rcases h1 with h1|h1
   ·omega
   ·exact O.trans (gi p a) (gi p (b-1)) (gi p b) (I.lt (by omega)) (I.lt (by omega)) (I.lt hm) (h a (b-1) (by omega) (by omega)) h1
theorem Pj (O:Pre n ask lt){p:Array Nat}(I:Ix' n p):∀ (f m:Nat),1≤m->m+f≤n->Up' lt p m->∃ k,DG ask (PySem.W.kas_asc p f m)=some k∧m≤k∧k≤m+f∧Up' lt p k∧(k<m+f->lt (gi p k) (gi p (k-1))=true)
 | 0,m,_,_,h=>⟨m,rfl,Ah _,Ah _,h,λz=>by omega⟩
 | f+1,m,h1,hm,h=>by
  have e:ask (p.getD m 0) (p.getD (m-1) 0)=some (lt (gi p m) (gi p (m-1))):=O.tot _ _ (I.lt (by omega)) (I.lt (by omega))
  unfold PySem.W.kas_asc DG
  rw [e]
  dsimp only
  cases c:lt (gi p m) (gi p (m-1)) with
  | true =>
   rw [if_pos rfl]
   exact ⟨m,rfl,Ah _,by omega,h,λ_=>c⟩
  | false =>
   rw [if_neg AB]
   obtain ⟨k,a1,a2,a3,a4,a5⟩:=Pj O I f (m+1) (by omega) (by omega) (h.more O I (by omega) (.inr c))
   exact ⟨k,a1,by omega,by omega,a4,λz=>a5 (by omega)⟩
noncomputable def YV (lt:Nat->Nat->Bool)(n:Nat)(p q:Array Nat):Prop:=∀ k,k<n->lt (gi p k) (gi q k)=false∧lt (gi q k) (gi p k)=false
theorem Dn'.more (O:Pre n ask lt){p:Array Nat}{m:Nat}(I:Ix' n p)(h:Dn' lt p m)(hm:m<n)(h0:0<m)(h1:lt (gi p (m-1)) (gi p m)=false):Dn' lt p (m+1):=λa b hab hb=>by
 by_cases e:b<m
 ·exact h a b hab e
 ·have:b=m:=by omega
  subst this
  by_cases ea:a=b
  ·subst ea;exact O.irr (I.lt hm)
  ·exact O.trans (gi p b) (gi p (b-1)) (gi p a) (I.lt hm) (I.lt (by omega)) (I.lt (by omega)) h1 (h a (b-1) (by omega) (by omega))
theorem Dn'.like (O:Pre n ask lt){p q:Array Nat}{m:Nat}(I:Ix' n p)(J:Ix' n q)(hm:m≤n)(h:Dn' lt p m)(l:YV lt n p q):Dn' lt q m:=λa b hab hb =>
 O.trans (gi q b) (gi p a) (gi q a) (J.lt (by omega)) (I.lt (by omega)) (J.lt (by omega)) (O.trans (gi q b) (gi p b) (gi p a) (J.lt (by omega)) (I.lt (by omega)) (I.lt (by omega)) (l b (by omega)).1 (h a b hab hb)) (l a (by omega)).2
theorem Oq (O:Pre n ask lt){p:Array Nat}(I:Ix' n p){i j:Nat}(hj:j≤n)(eq:∀ a b,i≤a->a<j->i≤b->b<j->lt (gi p a) (gi p b)=false):YV lt n p (PySem.W.kas_rev p i j):=λk hk=>by
 rw [Jb (by rw [I.size];exact hj)]
 by_cases c:i≤k∧k<j
 ·rw [if_pos c]
  exact ⟨eq _ _ (by omega) (by omega) (by omega) (by omega),eq _ _ (by omega) (by omega) (by omega) (by omega)⟩
 ·rw [if_neg c]
  exact ⟨O.irr (I.lt hk),O.irr (I.lt hk)⟩
theorem K8 (O:Pre n ask lt):∀ (f:Nat) (p:Array Nat) (m q:Nat),Ix' n p->1≤m->m+f≤n->q+1≤m->Dn' lt p m->(∀ a b,m-(q+1)≤a->a<m->m-(q+1)≤b->b<m->lt (gi p a) (gi p b)=false) ->
  ∃ r,DG ask (PySem.W.kas_desc f p m q)=some r∧Ix' n r.1∧m≤r.2.1∧r.2.1≤m+f∧r.2.2+1≤r.2.1∧Dn' lt r.1 r.2.1∧∀ a b,r.2.1-(r.2.2+1)≤a->a<r.2.1->r.2.1-(r.2.2+1)≤b->b<r.2.1->lt (gi r.1 a) (gi r.1 b)=false
 | 0,p,m,q,I,h1,hm,hq,hd,he=>⟨(p,m,q),rfl,I,Ah _,Ah _,hq,hd,he⟩
 | f+1,p,m,q,I,h1,hm,hq,hd,he=>by
  have e:ask (p.getD m 0) (p.getD (m-1) 0)=some (lt (gi p m) (gi p (m-1))):=O.tot _ _ (I.lt (by omega)) (I.lt (by omega))
  have e':ask (p.getD (m-1) 0) (p.getD m 0)=some (lt (gi p (m-1)) (gi p m)):=O.tot _ _ (I.lt (by omega)) (I.lt (by omega))
  unfold PySem.W.kas_desc DG
  rw [e]
  dsimp only
  have one:∀ p':Array Nat,Ix' n p'->∀ a b,m+1-(0+1)≤a->a<m+1->m+1-(0+1)≤b->b<m+1->lt (gi p' a) (gi p' b)=false:=λp' J a b a1 a2 b1 b2=>by
   have:a=b:=by omega
   subst this
   exact O.irr (J.lt (by omega))
  cases c:lt (gi p m) (gi p (m-1)) with
  | true =>
   rw [if_pos rfl]
   have hd1:=hd.more O I (by omega) (by omega) (O.asym _ _ (I.lt (by omega)) (I.lt (by omega)) c)
   by_cases hq0:q > 0
   ·rw [if_pos hq0]
    have J:=I.rev (m-(q+1)) m
    have lk:=Oq O I (i:=m-(q+1)) (j:=m) (by omega) he
    obtain ⟨r,a1,a2,a3,a4,a5⟩:=K8 O f (PySem.W.kas_rev p (m-(q+1)) m) (m+1) 0 J (by omega) (by omega) (by omega) (hd1.like O I J (by omega) lk) (one _ J)
    exact ⟨r,a1,a2,by omega,by omega,a5⟩
   ·rw [if_neg hq0]
    obtain ⟨r,a1,a2,a3,a4,a5⟩:=K8 O f p (m+1) 0 I (by omega) (by omega) (by omega) hd1 (one _ I)
    exact ⟨r,a1,a2,by omega,by omega,a5⟩
  | false =>
   rw [if_neg AB]
   unfold DG
   rw [e']
   dsimp only
   cases c2:lt (gi p (m-1)) (gi p m) with
   | true =>
    rw [if_pos rfl]
    exact ⟨(p,m,q),rfl,I,Ah _,by show m≤_;omega,hq,hd,he⟩
   | false =>
    rw [if_neg AB]
    have hd1:=hd.more O I (by omega) (by omega) c2
    obtain ⟨r,a1,a2,a3,a4,a5⟩:=K8 O f p (m+1) (q+1) I (by omega) (by omega) (by omega) hd1 λa b z1 z2 z3 z4=>by
     have key:∀ x,m+1-(q+1+1)≤x->x<m+1->lt (gi p x) (gi p (m-1))=false∧lt (gi p (m-1)) (gi p x)=false:=λx x1 x2=>by
      by_cases hx:x=m
      ·subst hx;exact ⟨c,c2⟩
      ·exact ⟨he _ _ (by omega) (by omega) (by omega) (by omega),he _ _ (by omega) (by omega) (by omega) (by omega)⟩
     exact O.trans (gi p b) (gi p (m-1)) (gi p a) (I.lt (by omega)) (I.lt (by omega)) (I.lt (by omega)) (key b z3 z4).2 (key a z1 z2).1
    exact ⟨r,a1,a2,by omega,by omega,a5⟩
theorem P1 (O:Pre n ask lt){p:Array Nat}(I:Ix' n p){m:Nat}(h1:1≤m)(hm:m≤n)(hd:Dn' lt p m):∃ r,DG ask (PySem.W.kas_tail3 m n p)=some r∧Ix' n r.2∧1≤r.1∧r.1≤n∧Up' lt r.2 r.1:=by
 have J:=I.rev 0 m
 have up:Up' lt (PySem.W.kas_rev p 0 m) m:=λa b hab hb=>by
  rw [Jb (by rw [I.size];exact hm),Jb (by rw [I.size];exact hm),if_pos (by omega),if_pos (by omega)]
  exact hd _ _ (by omega) (by omega)
 obtain ⟨k,a1,a2,a3,a4,_⟩:=Pj O J (n-m) m h1 (by omega) up
 refine ⟨(k,PySem.W.kas_rev p 0 m),?_,J,by show 1≤k;omega,by show k≤n;omega,a4⟩
 unfold PySem.W.kas_tail3
 rw [Fd,a1]
 rfl
theorem KH (O:Pre n ask lt){p:Array Nat}(I:Ix' n p){m:Nat}(h1:1≤m)(hm:m<n)(eq:∀ a b,a<m->b<m->lt (gi p a) (gi p b)=false)(hl:lt (gi p m) (gi p (m-1))=true) :
  ∃ r,DG ask (PySem.W.kas_descPart m n p)=some r∧Ix' n r.2∧1≤r.1∧r.1≤n∧Up' lt r.2 r.1:=by
 have hd:Dn' lt p m:=λa b _ hb=>eq a b (by omega) hb
 have hd1:=hd.more O I hm (by omega) (O.asym _ _ (I.lt hm) (I.lt (by omega)) hl)
 obtain ⟨r,a1,a2,a3,a4,a5,a6,a7⟩:=K8 O (n-(m+1)) p (m+1) 0 I (by omega) (by omega) (by omega) hd1 λa b z1 z2 z3 z4=>by
  have:a=b:=by omega
  subst this
  exact O.irr (I.lt (by omega))
 unfold PySem.W.kas_descPart
 rw [Fd,a1]
 show ∃ r',DG ask (if r.2.2 > 0 then _ else _)=some r'∧_
 by_cases hq:r.2.2 > 0
 ·rw [if_pos hq]
  have J:=a2.rev (r.2.1-(r.2.2+1)) r.2.1
  exact P1 O J (by omega) (by omega) (a6.like O a2 J (by omega) (Oq O a2 (by omega) a7))
 ·rw [if_neg hq]
  exact P1 O a2 (by omega) (by omega) a6
theorem TL (O:Pre n ask lt){p:Array Nat}(I:Ix' n p)(hn:1≤n):∃ r,DG ask (PySem.W.kas_count n p)=some r∧Ix' n r.2∧1≤r.1∧r.1≤n∧Up' lt r.2 r.1:=by
 obtain ⟨k,a1,a2,a3,a4,a5⟩:=Pj O I (n-1) 1 (Ah _) (by omega) (λa b _ hb=>by
  have:a=0:=by omega
  have:b=0:=by omega
  subst a b
  exact O.irr (I.lt (by omega)))
 unfold PySem.W.kas_count
 rw [Fd,a1]
 show ∃ r',DG ask (if (k==n)=true then _ else _)=some r'∧_
 by_cases hk:k=n
 ·rw [if_pos (by simpa using hk)]
  exact ⟨(k,p),rfl,I,a2,by show k≤n;omega,a4⟩
 ·rw [if_neg (by simpa using hk)]
  have lk:=a5 (by omega)
  by_cases h1:k > 1
  ·rw [if_pos h1]
   have e:ask (p.getD 0 0) (p.getD (k-1) 0)=some (lt (gi p 0) (gi p (k-1))):=O.tot _ _ (I.lt (by omega)) (I.lt (by omega))
   unfold DG
   rw [e]
   dsimp only
   cases c:lt (gi p 0) (gi p (k-1)) with
   | true =>
    rw [if_pos rfl]
    exact ⟨(k,p),rfl,I,a2,by show k≤n;omega,a4⟩
   | false =>
    rw [if_neg AB]
    have J:=I.rev 0 k
    have eqp:∀ a b,a<k->b<k->lt (gi p a) (gi p b)=false:=λa b ha hb=>by
     exact O.trans (gi p b) (gi p 0) (gi p a) (I.lt (by omega)) (I.lt (by omega)) (I.lt (by omega)) (O.trans (gi p b) (gi p (k-1)) (gi p 0) (I.lt (by omega)) (I.lt (by omega)) (I.lt (by omega)) (a4 b (k-1) (by omega) (by omega)) c) (a4 0 a (by omega) ha)
    refine KH O J (by omega) (by omega) (λa b ha hb=>?_) ?_
    ·rw [Jb (by rw [I.size];omega),Jb (by rw [I.size];omega),if_pos (by omega),if_pos (by omega)]
     exact eqp _ _ (by omega) (by omega)
    ·rw [Jb (by rw [I.size];omega),Jb (by rw [I.size];omega),if_neg (by omega),if_pos (by omega)]
     cases z:lt (gi p k) (gi p (0+k-1-(k-1))) with
     | true=>rfl
     | false =>
      have:=O.trans (gi p (k-1)) (gi p (0+k-1-(k-1))) (gi p k) (I.lt (by omega)) (I.lt (by omega)) (I.lt (by omega)) (eqp _ _ (by omega) (by omega)) z
      rw [lk] at this
      cases this
  ·rw [if_neg h1]
   exact KH O I a2 (by omega) (λa b ha hb=>by
    have:a=0:=by omega
    have:b=0:=by omega
    subst a b
    exact O.irr (I.lt (by omega))) lk
theorem Ll (O:Pre n ask lt){p:Array Nat}(I:Ix' n p){k:Nat}(hk:k<n)(up:Up' lt p k):∀ (f l r:Nat),l≤r->r≤k->r-l≤f->(∀ j,j<l->lt (gi p k) (gi p j)=false)->(∀ j,r≤j->j<k->lt (gi p k) (gi p j)=true) ->
  ∃ m,DG ask (PySem.W.kas_place p k f l r)=some m∧m≤k∧(∀ j,j<m->lt (gi p k) (gi p j)=false)∧∀ j,m≤j->j<k->lt (gi p k) (gi p j)=true
 | 0,l,r,h1,h2,h3,hl,hr=>⟨l,rfl,by omega,hl,λj a b=>hr j (by omega) b⟩
 | f+1,l,r,h1,h2,h3,hl,hr=>by
  unfold PySem.W.kas_place
  by_cases c:l ≥ r
  ·rw [if_pos c]
   exact ⟨l,rfl,by omega,hl,λj a b=>hr j (by omega) b⟩
  ·rw [if_neg c]
   have e:ask (p.getD k 0) (p.getD ((l+r) / 2) 0)=some (lt (gi p k) (gi p ((l+r) / 2))):=O.tot _ _ (I.lt hk) (I.lt (by omega))
   unfold DG
   rw [e]
   dsimp only
   cases c2:lt (gi p k) (gi p ((l+r) / 2)) with
   | true =>
    rw [if_pos rfl]
    refine Ll O I hk up f l ((l+r) / 2) (by omega) (by omega) (by omega) hl λj a b=>?_
    cases z:lt (gi p k) (gi p j) with
    | true=>rfl
    | false =>
     have:=O.trans (gi p ((l+r) / 2)) (gi p j) (gi p k) (I.lt (by omega)) (I.lt (by omega)) (I.lt hk) (up _ _ a b) z
     rw [c2] at this
     cases this
   | false =>
    rw [if_neg AB]
    refine Ll O I hk up f ((l+r) / 2+1) r (by omega) (by omega) (by omega) (λj a=>?_) hr
    exact O.trans (gi p j) (gi p ((l+r) / 2)) (gi p k) (I.lt (by omega)) (I.lt (by omega)) (I.lt hk) (up _ _ (by omega) (by omega)) c2
theorem TH (O:Pre n ask lt):∀ (f:Nat) (p:Array Nat) (k:Nat),Ix' n p->1≤k->k+f=n->Up' lt p k->∃ r,DG ask (PySem.W.kas_bin f p k)=some r∧Ix' n r∧Up' lt r n
 | 0,p,k,I,_,h,up=>⟨p,rfl,I,by have:k=n:=(by omega);subst this;exact up⟩
 | f+1,p,k,I,h1,h,up=>by
  obtain ⟨m,a1,a2,a3,a4⟩:=Ll O I (k:=k) (by omega) up k 0 k (by omega) (by omega) (by omega) (λj hj=>by omega) (λj a b=>by omega)
  unfold PySem.W.kas_bin
  rw [Fd,a1]
  show ∃ r,DG ask (PySem.W.kas_bin f (bubble p k (k-m)) (k+1))=some r∧_
  have hs:k<p.size:=by rw [I.size];omega
  have J:=I.bub k (k-m)
  have g:∀ j,gi (bubble p k (k-m)) j=if j=m then gi p k else if m<j∧j≤k then gi p (j-1) else gi p j:=λj=>by
   have:=XF hs (d:=k-m) (by omega) j
   rw [show k-(k-m)=m by omega] at this
   exact this
  refine TH O f _ (k+1) J (by omega) (by omega) λa b hab hb=>?_
  rw [g a,g b]
  by_cases ea:a=m
  ·rw [if_pos ea]
   by_cases eb:b=m
   ·rw [if_pos eb];exact O.irr (I.lt (by omega))
   ·rw [if_neg eb,if_pos (by omega)]
    exact O.asym _ _ (I.lt (by omega)) (I.lt (by omega)) (a4 (b-1) (by omega) (by omega))
  ·rw [if_neg ea]
   by_cases eb:b=m
   ·rw [if_pos eb,if_neg (by omega)]
    exact a3 a (by omega)
   ·rw [if_neg eb]
    by_cases ca:m<a∧a≤k
    ·rw [if_pos ca,if_pos (by omega)];exact up _ _ (by omega) (by omega)
    ·rw [if_neg ca]
     by_cases cb:m<b∧b≤k
     ·rw [if_pos cb];exact up _ _ (by omega) (by omega)
     ·rw [if_neg cb];exact up _ _ (by omega) (by omega)
theorem UY (O:Pre n ask lt)(hn:1≤n):∃ p,DG ask (PySem.W.kas_sort n)=some p∧p.toList.Perm (List.range n)∧Up' lt p n:=by
 have I:Ix' n (List.toArray (List.range n)):=⟨by simp⟩
 obtain ⟨r,a1,a2,a3,a4,a5⟩:=TL O I hn
 unfold PySem.W.kas_sort
 rw [Fd,a1]
 show ∃ p,DG ask (if r.1<n then _ else _)=some p∧_
 by_cases c:r.1<n
 ·rw [if_pos c]
  obtain ⟨q,b1,b2,b3⟩:=TH O (n-max r.1 1) r.2 (max r.1 1) a2 (by omega) (by omega) (by rw [show max r.1 1=r.1 by omega];exact a5)
  exact ⟨q,b1,b2.pm,b3⟩
 ·rw [if_neg c]
  exact ⟨r.2,rfl,a2.pm,by rw [show n=r.1 by omega];exact a5⟩
end
end PV
namespace PV
open PySem L2 PySem.Spec PyProof.Rows
section
variable {X:Cx} {K:Zc} {th:List Addr} {mu:Sto} {H:Hp}
theorem Vals.pick {zs:List V}{us:List Value}(q:Vals zs us)(f:Nat->V)(g:Nat->Value):∀ (p:List Nat),(∀ i∈p,RelV (f i) (g i))->Vals (p.map f) (p.map g)
 | [],_=>.nil
 | i::p,h=>.cons (h i (.head _)) (Vals.pick q f g p λj hj=>h j (.tail _ hj))
theorem RepL.pick {ds:List D}{vs:List V}(f:Nat->D)(g:Nat->V):∀ (p:List Nat),(∀ i∈p,Rep K th H (f i) (g i))->RepL K th H (p.map f) (p.map g)
 | [],_=>.nil
 | i::p,h=>.cons (h i (.head _)) (RepL.pick (ds:=ds) (vs:=vs) f g p λj hj=>h j (.tail _ hj))
theorem CallV.or {f:Value}{g g':Fn}(h:CallV X f g)(h':CallV X f g'):CallV X f λds mu=>match g ds mu with|some r=>some r|none=>g' ds mu:=by
 intro pins s st H xs us Q I r q
 obtain ⟨th,mu,ds,so,rd,t⟩:=q
 cases e:g ds mu with
 | some p =>
  refine h pins s st H xs us Q I r ⟨th,mu,ds,so,rd,?_⟩
  rw [e];simpa only [e] using t
 | none =>
  refine h' pins s st H xs us Q I r ⟨th,mu,ds,so,rd,?_⟩
  simpa only [e] using t
end
mutual
theorem Jv:∀ {d:D},hsh d=true->CQ d=true
 | .non,_=>rfl
 | .int _,_=>rfl
 | .str _,_=>rfl
 | .tup ds,h=>by unfold hsh at h;unfold CQ;exact MC h
 | .bl _,h=>nomatch h
 | .lst _,h=>nomatch h
 | .dct _ _,h=>nomatch h
 | .set _,h=>nomatch h
 | .ref _,h=>nomatch h
theorem MC:∀ {ds:List D},Iz ds=true->Em ds=true
 | [],_=>rfl
 | d::ds,h=>by
  unfold Iz at h
  rw [Ab] at h
  unfold Em
  rw [Jv h.1,MC h.2]
  rfl
end
mutual
theorem Li:∀ {d:D},hsh d=true->(toPy d).depth=dpt d
 | .non,_=>rfl
 | .int _,_=>rfl
 | .str _,_=>rfl
 | .tup ds,h=>by unfold hsh at h;unfold toPy PyData.depth dpt;rw [Nv h]
 | .bl _,h=>nomatch h
 | .lst _,h=>nomatch h
 | .dct _ _,h=>nomatch h
 | .set _,h=>nomatch h
 | .ref _,h=>nomatch h
theorem Nv:∀ {ds:List D},Iz ds=true->PyData.depthAll (CG ds)=Ny ds
 | [],_=>rfl
 | d::ds,h=>by
  unfold Iz at h
  rw [Ab] at h
  unfold CG PyData.depthAll Ny
  rw [Li h.1,Nv h.2]
end
mutual
theorem ID:∀ {d e:D},hsh d=true->hsh e=true->PyData.eqv (toPy d) (toPy e)=decide (d=e)
 | .tup ds,.tup es,h,g=>by
  unfold hsh at h g
  unfold toPy PyData.eqv
  rw [N8 h g]
  simp
 | .non,e,_,g=>by cases e<;>first|rfl|(simp [toPy,PyData.eqv];done)|cases g
 | .int i,.int j,_,_=>by by_cases c:i=j<;>simp [toPy,PyData.eqv,c]
 | .str i,.str j,_,_=>by by_cases c:i=j<;>simp [toPy,PyData.eqv,c]
 | .int _,.non,_,g=>by simp [toPy,PyData.eqv]
 | .int _,.str _,_,g=>by simp [toPy,PyData.eqv]
 | .int _,.tup _,_,g=>by simp [toPy,PyData.eqv]
 | .str _,.non,_,g=>by simp [toPy,PyData.eqv]
 | .str _,.int _,_,g=>by simp [toPy,PyData.eqv]
 | .str _,.tup _,_,g=>by simp [toPy,PyData.eqv]
 | .int _,.bl _,_,g=>nomatch g
 | .int _,.lst _,_,g=>nomatch g
 | .int _,.dct _ _,_,g=>nomatch g
 | .int _,.set _,_,g=>nomatch g
 | .int _,.ref _,_,g=>nomatch g
 | .str _,.bl _,_,g=>nomatch g
 | .str _,.lst _,_,g=>nomatch g
 | .str _,.dct _ _,_,g=>nomatch g
 | .str _,.set _,_,g=>nomatch g
 | .str _,.ref _,_,g=>nomatch g
 | .tup _,.non,_,_=>by simp [toPy,PyData.eqv]
 | .tup _,.int _,_,_=>by simp [toPy,PyData.eqv]
 | .tup _,.str _,_,_=>by simp [toPy,PyData.eqv]
 | .tup _,.bl _,_,g=>nomatch g
 | .tup _,.lst _,_,g=>nomatch g
 | .tup _,.dct _ _,_,g=>nomatch g
 | .tup _,.set _,_,g=>nomatch g
 | .tup _,.ref _,_,g=>nomatch g
 | .bl _,_,h,_=>nomatch h
 | .lst _,_,h,_=>nomatch h
 | .dct _ _,_,h,_=>nomatch h
 | .set _,_,h,_=>nomatch h
 | .ref _,_,h,_=>nomatch h
theorem N8:∀ {ds es:List D},Iz ds=true->Iz es=true->PyData.eqvAll (CG ds) (CG es)=decide (ds=es)
 | [],[],_,_=>by simp [CG,PyData.eqvAll]
 | [],_::_,_,_=>by simp [CG,PyData.eqvAll]
 | _::_,[],_,_=>by simp [CG,PyData.eqvAll]
 | d::ds,e::es,h,g=>by
  unfold Iz at h g
  rw [Ab] at h g
  unfold CG PyData.eqvAll
  rw [ID h.1 g.1,N8 h.2 g.2]
  by_cases c:d=e<;>by_cases c':ds=es<;>simp [c,c']
end
theorem EG {d:D}(h:Es d=true):hsh d=true∧dpt d≤8:=by
 unfold Es at h
 rw [Ab,Ae] at h
 exact h
structure Hd (h:Heap) (d:D) (u:Value):Prop where
 k:Es d=true
 ok:(toPy d).canLay0=true
 rd:∃ as,Reads h u (toPy d) as
theorem IY {X:Cx}{th:List Addr}{H:Hp}{pins:List (Addr×Obj)}{st:L2.St}{s:Shared}(I:L2.Inv X pins st H s){d:D}{v:V}{u:Value}(k:Es d=true)(r:Rep X.z th H d v)(q:RelV v u):Hd s.heap d u:=by
 obtain ⟨as,h1,h2⟩:=Fv I d v u (Jv (EG k).1) r q
 exact ⟨k,h2,as,h1⟩
section
variable {prog:Program} {w:World} {E:Value->Shared->Prop}
mutual
theorem RJ:∀ (d:D) (u:Value) (as:List Addr) (A:Around) (s:Shared) (Q:Int->Shared->Prop),hsh d=true->Reads s.heap u (toPy d) as->A.units+dpt d<cLine->(∀ tk,Q (DJ w d) { s with toks:=tk })->wpAny (model prog w) A (pyHash u) Q E s
 | .non,_,as,A,s,Q,_,x,hu,h=>by
  cases x
  exact PySem.W.pyHash_slot (T:="NoneType") rfl F.slot_NoneType_hash F.entry_NoneType_hash (F.args_NoneType_hash_1 _) (beq_builtin_none _) (.inr (by unfold dpt at hu;omega)) (Aa (Ac (Aa (wpAny_mkInt (Ac ⟨_,_,rfl,h _⟩)))))
 | .int i,_,as,A,s,Q,_,x,_,h=>by cases x;exact wpAny_pyHash_int (h _)
 | .str y,_,as,A,s,Q,_,x,_,h=>by cases x;exact wpAny_pyHash_str (h _)
 | .tup ds,_,as,A,s,Q,hk,x,hu,h=>by
  unfold toPy at x
  cases x with
  | @tuple a o vs n _ _ g1 g2 g3 hw =>
   unfold dpt at hu
   refine PySem.W.pyHash_slot (T:="tuple") ⟨_,g1,g2⟩ F.slot_tuple_hash F.entry_tuple_hash (F.args_tuple_hash_1 _) (beq_builtin_none _) (.inr (by omega)) ?_
   refine (?_:wpAny _ _ (Builtin.Tuple.tupleItemsOf (.ref a) >>= _) _ _ s)
   refine Aa (wpAny_tupleItemsOf g1 g3 (Aa ?_))
   rw [← Array.forIn_toList]
   refine QG ds vs.toList as A.in1 s #[] _ (by unfold hsh at hk;exact hk) hw (by rw [Around.in1_units];omega) λtk b hb=>?_
   refine (?_:wpAny _ _ (retInt (Builtin.Tuple.tupleHashOf b.toList)) _ _ _)
   rw [hb]
   exact Aa (wpAny_mkInt (Ac ⟨_,_,rfl,h _⟩))
 | .bl _,_,_,_,_,_,h,_,_,_=>nomatch h
 | .lst _,_,_,_,_,_,h,_,_,_=>nomatch h
 | .dct _ _,_,_,_,_,_,h,_,_,_=>nomatch h
 | .set _,_,_,_,_,_,h,_,_,_=>nomatch h
 | .ref _,_,_,_,_,_,h,_,_,_=>nomatch h
theorem QG:∀ (ds:List D) (vs:List Value) (as:List Addr) (A:Around) (s:Shared) (b:Array Int) (Q:Array Int->Shared->Prop),Iz ds=true->ReadsAll s.heap vs (CG ds) as->A.units+Ny ds<cLine ->
  (∀ tk b',b'.toList=b.toList++EN w ds->Q b' { s with toks:=tk }) ->
  wpAny (model prog w) A (forIn vs b λx r=>do let h←pyHash x;pure PUnit.unit;pure (ForInStep.yield (r.push h))) Q E s
 | [],_,as,A,s,b,Q,_,x,_,h=>by unfold CG at x;cases x;exact Ac (h s.toks b (by simp [EN]))
 | d::ds,_,as,A,s,b,Q,hk,x,hu,h=>by
  unfold CG at x
  cases x with
  | cons x1 x2 =>
   unfold Iz at hk
   rw [Ab] at hk
   unfold Ny at hu
   rw [List.forIn_cons]
   refine Aa (Aa (RJ d _ _ A s _ hk.1 x1 (by omega) λtk=>Aa (Ac (Ac ?_))))
   exact QG ds _ _ A { s with toks:=tk } _ Q hk.2 x2 (by omega) λtk' b' hb=>h tk' b' (by simp [hb,EN])
end
theorem Hd.hash {A:Around}{s:Shared}{d:D}{u:Value}{Q:Int->Shared->Prop}(x:Hd s.heap d u)(hu:A.units+8<cLine)(h:∀ tk,Q (DJ w d) { s with toks:=tk }):wpAny (model prog w) A (pyHash u) Q E s:=by
 obtain ⟨as,r⟩:=x.rd
 have:=EG x.k
 exact RJ d u as A s Q this.1 r (by omega) h
theorem Hd.eq {A:Around}{s:Shared}{d e:D}{u v:Value}{Q:Bool->Shared->Prop}(x:Hd s.heap d u)(y:Hd s.heap e v)(hu:A.units+8<cLine)(h:Q (decide (d=e)) s):wpAny (model prog w) A (eqBool u v) Q E s:=by
 obtain ⟨as,r⟩:=x.rd
 obtain ⟨bs,r'⟩:=y.rd
 have k1:=EG x.k
 have k2:=EG y.k
 refine SeqAt.eqAt_reads _ _ A s u v as bs r r' x.ok y.ok (by rw [Li k1.1,Li k2.1];omega) prog w E Q ?_
 rw [ID k1.1 k2.1]
 exact h
mutual
theorem Qo:∀ (n:Nat) (d:D) (u:Value) (as:List Addr) (A:Around) (s:Shared) (Q:Bool->Shared->Prop),hsh d=true->dpt d≤n->Reads s.heap u (toPy d) as->Q true s->wpAny (model prog w) A (eqIsQuiet n u) Q E s
 | n,.non,_,as,A,s,Q,_,_,x,h=>by cases x;rw [eqIsQuiet_byValue n rfl];exact Ac h
 | n,.int _,_,as,A,s,Q,_,_,x,h=>by cases x;rw [eqIsQuiet_byValue n rfl];exact Ac h
 | n,.str _,_,as,A,s,Q,_,_,x,h=>by cases x;rw [eqIsQuiet_byValue n rfl];exact Ac h
 | n,.tup ds,_,as,A,s,Q,hk,hn,x,h=>by
  unfold toPy at x
  cases x with
  | @tuple a o vs k _ _ g1 g2 g3 hw =>
   unfold dpt at hn
   obtain ⟨m,rfl⟩:∃ m,n=m+1:=⟨n-1,by omega⟩
   have hT:s.TypeIs (.ref a) "tuple":=⟨o,g1,g2⟩
   unfold eqIsQuiet
   refine Aa (wpAny_specialOf hT F.slot_tuple_eq.lookup ?_)
   refine (?_:wpAny _ _ (isInstance (.ref a) (.type "tuple") >>= _) _ _ s)
   refine Aa (wpAny_isInstance hT isSubtype_tuple_tuple ?_)
   simp only [Bool.not_true,AH,A4]
   refine Aa (wpAny_seqItems g1 g3 (Aa ?_))
   refine (?_:wpAny _ _ (forIn vs _ _) _ _ s)
   rw [← Array.forIn_toList]
   exact NS m ds vs.toList as A s _ (by unfold hsh at hk;exact hk) (by omega) hw (Ac h)
 | _,.bl _,_,_,_,_,_,h,_,_,_=>nomatch h
 | _,.lst _,_,_,_,_,_,h,_,_,_=>nomatch h
 | _,.dct _ _,_,_,_,_,_,h,_,_,_=>nomatch h
 | _,.set _,_,_,_,_,_,h,_,_,_=>nomatch h
 | _,.ref _,_,_,_,_,_,h,_,_,_=>nomatch h
theorem NS:∀ (m:Nat) (ds:List D) (vs:List Value) (as:List Addr) (A:Around) (s:Shared) (Q:Option Bool×PUnit->Shared->Prop),Iz ds=true->Ny ds≤m->ReadsAll s.heap vs (CG ds) as->Q (none,PUnit.unit) s ->
  wpAny (model prog w) A (forIn vs ((none,PUnit.unit):Option Bool×PUnit) λy r=>do
    let q←eqIsQuiet m y
    if (!q)=true then pure (ForInStep.done (some false,PUnit.unit)) else pure (ForInStep.yield (none,PUnit.unit))) Q E s
 | m,[],_,as,A,s,Q,_,_,x,h=>by unfold CG at x;cases x;exact Ac h
 | m,d::ds,_,as,A,s,Q,hk,hn,x,h=>by
  unfold CG at x
  cases x with
  | cons x1 x2 =>
   unfold Iz at hk
   rw [Ab] at hk
   unfold Ny at hn
   rw [List.forIn_cons]
   refine Aa (Aa (Qo m d _ _ A s _ hk.1 (by omega) x1 ?_))
   simp only [Bool.not_true,AH,A4]
   exact Ac (NS m ds _ _ A s Q hk.2 (by omega) x2 h)
end
theorem Hd.quiet {A:Around}{s:Shared}{d:D}{u:Value}{Q:Bool->Shared->Prop}(x:Hd s.heap d u)(h:Q true s):wpAny (model prog w) A (eqIsQuiet 8 u) Q E s:=by
 obtain ⟨as,r⟩:=x.rd
 have k:=EG x.k
 exact Qo 8 d u as A s Q k.1 k.2 r h
end
noncomputable def EnK (w:World)(h:Heap)(k:D)(e:DictEntry):Prop:=e.hash=DJ w k∧Hd h k e.key
theorem DN {α β:Type}{F:α->β->Prop}:∀ {xs:List α} {ys:List β},Paired F xs ys->∀ j:Nat,(∀ x,xs[j]? = some x->∃ y,ys[j]? = some y∧F x y)∧(∀ y,ys[j]? = some y->∃ x,xs[j]? = some x∧F x y)
 | _,_,.nil,j=>⟨λx e=>by simp at e,λy e=>by simp at e⟩
 | _,_,.cons r t,0=>⟨λx e=>by simp at e;subst e;exact ⟨_,rfl,r⟩,λy e=>by simp at e;subst e;exact ⟨_,rfl,r⟩⟩
 | _,_,.cons r t,j+1=>by simpa using DN t j
theorem Dn {α β:Type}{F:α->β->Prop}:∀ {xs:List α} {ys:List β},Paired F xs ys->xs.length=ys.length
 | _,_,.nil=>rfl
 | _,_,.cons _ t=>by simp [Dn t]
theorem To {h:Heap}{k:D}{y:Str}{t:Tok}(x:Hd h k (.str y t)):k=.str y:=by
 obtain ⟨as,r⟩:=x.rd
 have hk:=(EG x.k).1
 cases k<;>first|(cases hk;done)|(unfold toPy at r;cases r;done)|(unfold toPy at r;cases r;rfl)
theorem WB {h:Heap}{k k':D}{u:Value}(x:Hd h k u)(y:Hd h k' u):k=k':=by
 obtain ⟨as,r⟩:=x.rd
 obtain ⟨bs,r'⟩:=y.rd
 have hk:=(EG x.k).1
 have hk':=(EG y.k).1
 have e:toPy k=toPy k':=SeqAt.Reads.unique _ _ _ _ _ x.ok r r'
 have:=ID hk hk'
 rw [← e,ID hk hk] at this
 simpa using this
theorem Wi {ks:List D}(hn:ks.Nodup){i j:Nat}{k:D}(a:ks[i]? = some k)(b:ks[j]? = some k):i=j:=by
 obtain ⟨hi,ei⟩:=Af.mp a
 exact (List.getElem?_inj hi hn).mp (a.trans b.symm)
section
variable {prog:Program} {w:World} {A:Around} {E:Value->Shared->Prop} {s:Shared}
theorem Iy {α:Type}{M:Model}{c:Prop} [Decidable c]{x y:Sem α}{Q:α->Shared->Prop}(h1:c->wpAny M A x Q E s)(h2:¬ c->wpAny M A y Q E s):wpAny M A (if c then x else y) Q E s:=by
 by_cases h:c
 ·rw [if_pos h];exact h1 h
 ·rw [if_neg h];exact h2 h
theorem U0 {k:D}{u:Value}{stored:List Value}{Q:Bool->Shared->Prop}(hk:Hd s.heap k u)(hst:∀ v∈stored,∃ k',Hd s.heap k' v)(h:Q false s):wpAny (model prog w) A (tableMayTell u stored) Q E s:=by
 unfold tableMayTell
 split
 ·exact Ac h
 ·refine Aa (hk.quiet ?_)
  simp only [Bool.not_true,AH,A4]
  refine Aa (wpAny_forIn_list _ (λrest r s'=>s'=s∧r=(none,PUnit.unit)∧∀ v∈rest,∃ k',Hd s.heap k' v) _ ?_ ?_ _ _ ⟨rfl,rfl,hst⟩)
  ·rintro x rest r s' ⟨rfl,rfl,hr⟩
   obtain ⟨k',hb⟩:=hr x List.mem_cons_self
   refine Aa (hb.quiet ?_)
   simp only [Bool.not_true,AH,A4]
   exact Ac ⟨rfl,rfl,λv hv=>hr v (Bn _ hv)⟩
  ·rintro r s' ⟨rfl,rfl,_⟩;exact Ac h
theorem Vd {h:Heap}{p:PyData}{u:Value}{as:List Addr}(r:Reads h u p as):u=.none∨(∃ i t,u=.int i t)∨(∃ x t,u=.str x t)∨(∃ b,u=.ref b)∨∃ b,p=.bool b:=by
 cases r
 all_goals first|exact .inl rfl|exact .inr (.inl ⟨_,_,rfl⟩)|exact .inr (.inr (.inl ⟨_,_,rfl⟩))|exact .inr (.inr (.inr (.inl ⟨_,rfl⟩)))|exact .inr (.inr (.inr (.inr ⟨_,rfl⟩)))
theorem Vl {h:Heap}{k:D}{u:Value}(hk:Hd h k u):u=.none∨(∃ i t,u=.int i t)∨(∃ x t,u=.str x t)∨∃ b,u=.ref b:=by
 obtain ⟨as,r⟩:=hk.rd
 have hh:=(EG hk.k).1
 rcases Vd r with h|h|h|h|⟨b,h⟩
 ·exact .inl h
 ·exact .inr (.inl h)
 ·exact .inr (.inr (.inl h))
 ·exact .inr (.inr (.inr h))
 ·cases k<;>first|(cases hh;done)|(unfold toPy at h;cases h;done)
theorem Lk {a:Addr}{o:Obj}{es:Array DictEntry}{ep:Nat}{ks:List D}{k:D}{u:Value}{Q:Option Nat->Shared->Prop}(hu:A.units+8<cLine)(hk:Hd s.heap k u)(ho:s.heap.get? a=some o)(hd:o.data=.dict es ep)
  (he:Paired (EnK w s.heap) ks es.toList) (hn:ks.Nodup) (h0:k∉ks->Q none s) (h1:∀ j,ks[j]? = some k->Q (some j) s):wpAny (model prog w) A (dictFind a u (DJ w k)) Q E s:=by
 have hat:∀ j e,es[j]? = some e->∃ k',ks[j]? = some k'∧EnK w s.heap k' e:=λj e q=>(DN he j).2 e (by rw [Az];exact q)
 have hto:∀ j k',ks[j]? = some k'->∃ e,es[j]? = some e∧EnK w s.heap k' e:=λj k' q=>by
  obtain ⟨e,e1,e2⟩:=(DN he j).1 k' q
  exact ⟨e,by rw [← Az];exact e1,e2⟩
 have hsz:es.size=ks.length:=by rw [Dn he,Array.length_toList]
 have hno:(∀ j,ks[j]?≠some k)->k∉ks:=λq z=>by obtain ⟨j,e⟩:=A7.mp z;exact q j e
 unfold dictFind
 try with_reducible refine AG ?_
 refine Aa (BN ho hd ?_)
 have hp:∀ j,ks[j]? = some k->(es[j]?.map (λe:DictEntry=>e.hash)==some (DJ w k))=true:=λj q=>by
  obtain ⟨e,e1,e2,_⟩:=hto j k q
  rw [e1];simp [e2]
 have walk:wpAny (model prog w) A (dictWalkPlain a u (DJ w k) es (placesWithHash es.size (λi=>es[i]?.map (λe:DictEntry=>e.hash)) (DJ w k))) Q E s:=by
  unfold dictWalkPlain
  refine Aa (wpAny_forIn_list _ (λrest b s'=>s'=s∧b=(none,PUnit.unit)∧∃ i,rest=(List.range' i (es.size-i)).filter (λi=>es[i]?.map (λe:DictEntry=>e.hash)==some (DJ w k))∧i≤es.size∧∀ j,j<i->ks[j]?≠some k) _ ?_ ?_ _ _
   ⟨rfl,rfl,0,by rw [placesWithHash,List.range_eq_range',Nat.sub_zero],A3 _,λj z=>absurd z (Nat.not_lt_zero _)⟩)
  ·rintro x rest b s' ⟨rfl,rfl,i,hr,hi,hH⟩
   obtain ⟨hix,hxn,hpx,hskip,hrest⟩:=filter_range'_cons _ _ _ _ _ hr.symm
   have hlt:x<es.size:=by omega
   have ex:es[x]? = some es[x]:=AD hlt
   obtain ⟨k',e1,e2,e3⟩:=hat x _ ex
   rw [ex] at hpx ⊢
   have hh:es[x].hash=DJ w k:=by simpa using hpx
   have hh':(es[x].hash==DJ w k)=true:=by simpa using hh
   have nx:∀ j,j<x->ks[j]?≠some k:=λj hj q=>by
    rcases Nat.lt_or_ge j i with z|z
    ·exact hH j z q
    ·have:=hskip j z hj;rw [hp j q] at this;cases this
   dsimp only
   rw [if_pos hh']
   refine Aa (BE ho hd (Aa (e3.eq hk hu (Aa (BE ho hd ?_)))))
   rw [if_neg (by simp)]
   by_cases c:k'=k
   ·rw [BJ c]
    subst c
    exact Aa (Bh (Ac (Ac (h1 x e1))))
   ·rw [AV c]
    refine Aa (Bh (Ac ⟨rfl,rfl,x+1,by rw [hrest];congr 2;omega,hlt,λj hj q=>?_⟩))
    rcases Nat.lt_or_ge j x with z|z
    ·exact nx j z q
    ·have:j=x:=by omega
     subst this
     rw [e1] at q
     exact c (AJ q)
  ·rintro b s' ⟨rfl,rfl,i,hr,hi,hH⟩
   refine Ac (h0 (hno λj q=>?_))
   rcases Nat.lt_or_ge j i with z|z
   ·exact hH j z q
   ·have hj:j<es.size:=by rw [hsz];exact (Af.mp q).1
    have:=List.filter_eq_nil_iff.mp hr.symm j (List.mem_range'_1.mpr ⟨z,by omega⟩)
    exact this (hp j q)
 have hst:∀ v∈(placesWithHash es.size (λi=>es[i]?.map (λe:DictEntry=>e.hash)) (DJ w k)).filterMap (λi=>es[i]?.map (λe:DictEntry=>e.key)),∃ k',Hd s.heap k' v:=λv hv=>by
  obtain ⟨i,_,hi⟩:=List.mem_filterMap.mp hv
  cases ei:es[i]? with
  | none=>rw [ei] at hi;cases hi
  | some e =>
   rw [ei] at hi
   obtain rfl:e.key=v:=by simpa using hi
   obtain ⟨k',_,_,q⟩:=hat i e ei
   exact ⟨k',q⟩
 have hany:∀ b,u=.ref b->¬ (es.any λe=>e.key==u&&e.hash != DJ w k)=true:=λb hb=>by
  rw [← Array.any_toList,List.any_eq_true]
  rintro ⟨e,hin,hc⟩
  obtain ⟨j,ej⟩:=A7.mp hin
  obtain ⟨k',_,q1,q2⟩:=hat j e (by rw [← Az];exact ej)
  rw [Ab,bne_iff_ne] at hc
  have ek:e.key=u:=eq_of_beq hc.1
  rw [ek] at q2
  exact hc.2 (by rw [q1,WB q2 hk])
 have c4:=Vl hk
 have str:∀ x t,u=.str x t->(es.all λe=>isExactStrKey e.key)=true->wpAny (model prog w) A (foundByValue a u es x) Q E s:=λx t hux hall=>by
  subst hux
  have kx:=To hk
  subst kx
  have hiff:∀ e∈es.toList,∀ k',Hd s.heap k' e.key->(e.key.isStr x=true ↔ k'=.str x):=λe hm k' q=>by
   rw [← Array.all_toList,Ao] at hall
   have:=hall e hm
   cases ek:e.key<;>rw [ek] at this q<;>first|(cases this;done)|skip
   rename_i y ty
   rw [To q]
   show (y==x)=true ↔ _
   simp
  have hidx:es.findIdx? (λe=>e.key.isStr x)=es.toList.findIdx? (λe=>e.key.isStr x):=by cases es;simp
  unfold foundByValue
  rw [hidx]
  cases hr:es.toList.findIdx? (λe=>e.key.isStr x) with
  | none =>
   refine Ac (h0 (hno λj q=>?_))
   obtain ⟨e,e1,e2,e3⟩:=hto j _ q
   have hm:e∈es.toList:=Ap (by rw [Az];exact e1)
   have:=List.findIdx?_eq_none_iff.mp hr e hm
   rw [(hiff e hm _ e3).mpr rfl] at this
   cases this
  | some j =>
   obtain ⟨hj,hpj,_⟩:=List.findIdx?_eq_some_iff_getElem.mp hr
   have he':es[j]? = some es.toList[j]:=by rw [← Az];exact As hj
   obtain ⟨k',e1,e2,e3⟩:=hat j _ he'
   have kk:=(hiff _ (BW hj) _ e3).mp hpj
   subst kk
   dsimp only
   rw [he']
   dsimp only
   refine Aa (BE ho hd (Aa (e3.eq hk hu (Aa (BE ho hd ?_)))))
   rw [if_neg (by simp),BJ rfl]
   exact Aa (Bh (Ac (h1 j e1)))
 obtain ⟨u',hu'⟩:∃ u',u'=u:=⟨u,rfl⟩
 have hA:∀ v,eqBool v u=eqBool v u':=λv=>by rw [hu']
 have hB:keyPart u=keyPart u':=by rw [hu']
 have hk':Hd s.heap k u':=by rw [hu'];exact hk
 simp only [hA,hB]
 clear hA hB hu'
 refine (λtail=>?main) (?tail:wpAny (model prog w) A ?T Q E s)
 case main =>
  rcases c4 with rfl|⟨i,t,rfl⟩|⟨x,t,rfl⟩|⟨b,rfl⟩
  case' inl=>refine Iy (λ_=>walk) λ_=>?_
  case' inr.inl=>refine Iy (λ_=>walk) λ_=>?_
  case' inr.inr.inl=>refine Iy (λhall=>str x t rfl hall) λ_=>Iy (λ_=>walk) λ_=>?_
  case' inr.inr.inr=>refine Iy (λ_=>walk) λ_=>?_
  case' inr.inr.inr=>refine Iy (λz=>absurd z (hany b rfl)) λ_=>?_
  all_goals
   refine Iy (λ_=>Aa (Ac ?_)) (λ_=>Aa (U0 hk hst ?_))<;>(
    refine Iy (λz=>absurd z (by simp)) λ_=>?_
    exact tail)
 case tail =>
  refine Aa (wpAny_forIn_list _ (λrest b s'=>s'=s∧∃ i hit,b=(none,hit)∧rest=(List.range' i (es.size-i)).filter (λi=>es[i]?.map (λe:DictEntry=>e.hash)==some (DJ w k))∧i≤es.size ∧
    ((hit=none∧∀ j,j<i->ks[j]?≠some k)∨∃ j,hit=some j∧j<i∧ks[j]? = some k)) _ ?_ ?_ _ _
   ⟨rfl,0,none,rfl,by rw [placesWithHash,List.range_eq_range',Nat.sub_zero],A3 _,.inl ⟨rfl,λj z=>absurd z (Nat.not_lt_zero _)⟩⟩)
  ·rintro x rest b s' ⟨rfl,i,hit,rfl,hr,hi,hH⟩
   obtain ⟨hix,hxn,hpx,hskip,hrest⟩:=filter_range'_cons _ _ _ _ _ hr.symm
   have hlt:x<es.size:=by omega
   have hrest':rest=(List.range' (x+1) (es.size-(x+1))).filter (λi=>es[i]?.map (λe:DictEntry=>e.hash)==some (DJ w k)):=by rw [hrest];congr 2;omega
   have ex:es[x]? = some es[x]:=AD hlt
   obtain ⟨k',e1,e2,e3⟩:=hat x _ ex
   rw [ex] at hpx ⊢
   have hh:es[x].hash=DJ w k:=by simpa using hpx
   have hh':(es[x].hash==DJ w k)=true:=by simpa using hh
   have hx:(hit=none∧∀ j,j<x->ks[j]?≠some k)∨∃ j,hit=some j∧j<x∧ks[j]? = some k:=by
    rcases hH with ⟨z0,hno'⟩|⟨j,z1,hji,hj⟩
    ·refine .inl ⟨z0,λj hj q=>?_⟩
     rcases Nat.lt_or_ge j i with z|z
     ·exact hno' j z q
     ·have:=hskip j z hj;rw [hp j q] at this;cases this
    ·exact .inr ⟨j,z1,by omega,hj⟩
   dsimp only
   rw [if_pos hh']
   refine Aa (BE ho hd (Aa (e3.eq hk' hu (Aa (BE ho hd ?_)))))
   rw [if_neg (by simp)]
   by_cases c:k'=k
   ·rw [BJ c]
    subst c
    rcases hx with ⟨rfl,_⟩|⟨j,_,hjx,hj⟩
    ·simp only [Option.isSome_none,AH,A4,if_true]
     refine Aa (Bh ?_)
     split
     ·exact Ac (Ac (h1 x e1))
     ·exact Ac ⟨rfl,x+1,some x,rfl,hrest',hlt,.inr ⟨x,rfl,AQ x,e1⟩⟩
    ·exact absurd (Wi hn hj e1) (by omega)
   ·rw [AV c]
    simp only [AH,A4,BA]
    refine Aa (Bh (Ac ⟨rfl,x+1,hit,rfl,hrest',hlt,?_⟩))
    rcases hx with ⟨z0,hno'⟩|⟨j,z1,hji,hj⟩
    ·refine .inl ⟨z0,λj hj q=>?_⟩
     rcases Nat.lt_or_ge j x with z|z
     ·exact hno' j z q
     ·have:j=x:=by omega
      subst this
      rw [e1] at q
      exact c (AJ q)
    ·exact .inr ⟨j,z1,by omega,hj⟩
  ·rintro b s' ⟨rfl,i,hit,rfl,hr,hi,hH⟩
   rcases hH with ⟨rfl,hno'⟩|⟨j,rfl,_,hj⟩
   ·refine Ac (h0 (hno λj q=>?_))
    rcases Nat.lt_or_ge j i with z|z
    ·exact hno' j z q
    ·have hj:j<es.size:=by rw [hsz];exact (Af.mp q).1
     exact List.filter_eq_nil_iff.mp hr.symm j (List.mem_range'_1.mpr ⟨z,by omega⟩) (hp j q)
   ·exact Ac (h1 j hj)
end
noncomputable def FJ (k:D):List D->List D->Option D
 | k'::ks,d::ds=>if k'=k then some d else FJ k ks ds
 | _,_=>none
noncomputable def NQ (k v:D):List D->List D->List D
 | k'::ks,d::ds=>(if k'=k then v else d)::NQ k v ks ds
 | _,ds=>ds
noncomputable def ER (k v:D)(ks ds:List D):List D×List D:=if k∈ks then (ks,NQ k v ks ds) else (ks++[k],ds++[v])
theorem IM {k:D}:∀ {ks ds:List D},k∉ks->FJ k ks ds=none
 | [],_,_=>rfl
 | _::_,[],_=>rfl
 | k'::ks,d::ds,h=>by
  rw [An,not_or] at h
  rw [FJ,if_neg (λe=>h.1 e.symm),IM h.2]
theorem KZ {k:D}:∀ {ks ds:List D} {j:Nat},ks.Nodup->ks[j]? = some k->FJ k ks ds=ds[j]?
 | [],_,_,_,e=>by simp at e
 | _::_,[],_,_,_=>by simp [FJ]
 | k'::ks,d::ds,0,n,e=>by simp at e;subst e;simp [FJ]
 | k'::ks,d::ds,j+1,n,e=>by
  rw [Bo] at n
  simp at e
  have:k'≠k:=λz=>n.1 (by rw [z];exact Ap e)
  rw [FJ,if_neg this,KZ n.2 e]
  rfl
theorem OE {k v:D}:∀ {ks ds:List D},k∉ks->NQ k v ks ds=ds
 | [],_,_=>rfl
 | _::_,[],_=>rfl
 | k'::ks,d::ds,h=>by
  rw [An,not_or] at h
  rw [NQ,if_neg (λe=>h.1 e.symm),OE h.2]
theorem K6 {k v:D}:∀ {ks ds:List D} {j:Nat},ks.Nodup->ks[j]? = some k->NQ k v ks ds=ds.set j v
 | [],_,_,_,e=>by simp at e
 | _::_,[],_,_,_=>by simp [NQ]
 | k'::ks,d::ds,0,n,e=>by
  simp at e
  subst e
  rw [Bo] at n
  rw [NQ,if_pos rfl,OE n.1]
  rfl
 | k'::ks,d::ds,j+1,n,e=>by
  rw [Bo] at n
  simp at e
  have:k'≠k:=λz=>n.1 (by rw [z];exact Ap e)
  rw [NQ,if_neg this,K6 n.2 e]
  rfl
noncomputable def Ka (K:Zc)(th:List Addr)(H:Hp)(a:Addr)(ks ds:List D):Prop:=∃ xs,H a=some (Hb a xs)∧xs.map (·.1)=EN K.w ks∧RepL K th H ks (xs.map (·.2.1))∧RepL K th H ds (xs.map (·.2.2))∧KeysOk ks
noncomputable def FA (mu:Sto):D->Option (List D×List D)
 | .dct ks ds=>some (ks,ds)
 | .ref k=>match mu[k]? with
  | some (.dct ks ds)=>some (ks,ds)
  | _=>none
 | _=>none
section
variable {X:Cx} {K:Zc} {th:List Addr} {mu:Sto} {H:Hp} {pins:List (Addr×Obj)} {st:L2.St} {s:Shared} {A:Around} {E:Value->Shared->Prop}
theorem Fc (so:StoOk K th mu H){d:D}{p:List D×List D}{v:V}(h:FA mu d=some p)(r:Rep K th H d v):∃ a,v=.ref a∧Ka K th H a p.1 p.2:=by
 unfold FA at h
 split at h
 ·cases h;unfold Rep at r;obtain ⟨a,xs,rfl,_,h1⟩:=r;exact ⟨a,rfl,xs,h1⟩
 ·split at h
  ·rename_i k _ ks ds e
   cases h
   unfold Rep at r
   obtain ⟨a,rfl,ha⟩:=r
   exact ⟨a,rfl,so.at' k a _ ha e⟩
  ·cases h
 ·cases h
structure DcO (X:Cx) (th:List Addr) (H:Hp) (s:Shared) (a:Addr) (ks ds:List D) (xs:List (Int×V×V)) (o:Obj) (es:Array DictEntry) (ep:Nat):Prop where
 ns:(a==sysModules)=false
 at':s.heap.get? a=some o
 ex:o.ExactDict
 dt:o.data=.dict es ep
 pr:Paired (λ(x:Int×V×V) (e:DictEntry)=>e.hash=x.1∧RelV x.2.1 e.key∧RelV x.2.2 e.val) xs es.toList
 en:Paired (EnK X.w s.heap) ks es.toList
 xl:xs.length=ks.length
 dl:ds.length=ks.length
theorem JF {α β:Type}{F:α->β->Prop}:∀ {xs:List α} {ys:List β},xs.length=ys.length->(∀ (j:Nat) x y,xs[j]? = some x->ys[j]? = some y->F x y)->Paired F xs ys
 | [],[],_,_=>.nil
 | [],_::_,h,_=>by simp at h
 | _::_,[],h,_=>by simp at h
 | x::xs,y::ys,h,f=>.cons (f 0 x y rfl rfl) (JF (by simpa using h) λj a b e1 e2=>f (j+1) a b (by simpa using e1) (by simpa using e2))
theorem HF (I:L2.Inv X pins st H s){a:Addr}{ks ds:List D}(h:Ka X.z th H a ks ds):∃ xs o es ep,H a=some (Hb a xs)∧DcO X th H s a ks ds xs o es ep:=by
 obtain ⟨xs,h1,h2,h3,h4,h5⟩:=h
 obtain ⟨⟨z,o,es,ep,g1,g2,g3,g4⟩,_⟩:=(show ObjOk X.prog X.w H s.heap a (Hb a xs) from I.hok a _ h1)
 have xl:xs.length=ks.length:=by have:=h3.len;simpa using this
 refine ⟨xs,o,es,ep,h1,z,g1,g2,g3,g4,?_,xl,by have:=h4.len;rw [Ag] at this;omega⟩
 refine JF (by rw [← Dn g4,xl]) λj k e e1 e2=>?_
 obtain ⟨x,q1,q2,q3,q4⟩:=(DN g4 j).2 e e2
 have hh:(xs.map (·.1))[j]? = (EN X.w ks)[j]?:=by rw [h2]
 rw [EE,Au,Au,q1,e1] at hh
 obtain ⟨v,v1,v2⟩:=h3.get e1
 rw [Au,q1] at v1
 have v1':x.2.1=v:=by simpa using v1
 refine ⟨by rw [q2];simpa using hh,IY I (h5.ok k (Ap e1)) v2 (by rw [← v1'];exact q3)⟩
theorem Xz (I:L2.Inv X pins st H s){a:Addr}{ks ds:List D}(h:Ka X.z th H a ks ds){k:D}{u:Value}(hk:Hd s.heap k u)(hu:A.units+8<cLine){Q:Option Value->Shared->Prop}
  (q0:FJ k ks ds=none->∀ tk,Q none { s with toks:=tk }) (q1:∀ d v r,FJ k ks ds=some d->Rep X.z th H d v->RelV v r->∀ tk,Q (some r) { s with toks:=tk }):wpAny (model X.prog X.w) A (dictGet a u) Q E s:=by
 obtain ⟨xs,o,es,ep,h1,g⟩:=HF I h
 obtain ⟨xs',h1',h2,h3,h4,h5⟩:=id h
 unfold dictGet
 refine AG (Aa (hk.hash hu λtk=>Aa (Lk (s:={ s with toks:=tk }) hu hk g.at' g.dt g.en h5.nd (λz=>Ac (q0 (IM z) tk)) λj ej=>?_)))
 refine Aa (BN (s:={ s with toks:=tk }) g.at' g.dt ?_)
 obtain ⟨e,e1,e2⟩:=(DN g.en j).1 k ej
 rw [Az] at e1
 rw [e1]
 obtain ⟨⟨z',o',es',ep',g1,g2,g3,g4⟩,_⟩:=(show ObjOk X.prog X.w H s.heap a (Hb a xs') from I.hok a _ h1')
 have g1':=g.at'
 rw [g1] at g1'
 cases g1'
 have g3':=g.dt
 rw [g3] at g3'
 cases g3'
 obtain ⟨x,x1,x2,x3,x4⟩:=(DN g4 j).2 e (by rw [Az];exact e1)
 have vj:(xs'.map (·.2.2))[j]? = some x.2.2:=by rw [Au,x1];rfl
 obtain ⟨d,d1,d2⟩:=h4.getV vj
 exact Ac (q1 d _ _ (by rw [KZ h5.nd ej];exact d1) d2 x4 tk)
theorem HY {α β:Type}{F:α->β->Prop}:∀ {xs:List α} {ys:List β} (j:Nat) {x:α} {y:β},Paired F xs ys->F x y->Paired F (xs.set j x) (ys.set j y)
 | _,_,_,_,_,.nil,_=>.nil
 | _,_,0,_,_,.cons _ t,f=>.cons f t
 | _,_,j+1,_,_,.cons r t,f=>.cons r (HY j t f)
theorem G1 {α β:Type}{F:α->β->Prop}:∀ {xs xs':List α} {ys ys':List β},Paired F xs ys->Paired F xs' ys'->Paired F (xs++xs') (ys++ys')
 | _,_,_,_,.nil,t=>t
 | _,_,_,_,.cons r t,t'=>.cons r (G1 t t')
theorem Yf (I:L2.Inv X pins st H s){a:Addr}{ks ds:List D}(h:Ka X.z th H a ks ds)(ext:∀ xs,Ext th H th (upd H a (Hb a xs)))(so:StoOk X.z th mu H){k v:D}{kv vv:V}{u r:Value}(hk:Es k=true)(rk:Rep X.z th H k kv)(ru:RelV kv u)(rv:Rep X.z th H v vv)(rr:RelV vv r)(lt:ks.length<sizeLine)(hu:A.units+8<cLine)
  {Q:Unit->Shared->Prop} (q:∀ s' xs',L2.Inv X pins st (upd H a (Hb a xs')) s'->Ka X.z th (upd H a (Hb a xs')) a (ER k v ks ds).1 (ER k v ks ds).2->Q () s'):wpAny (model X.prog X.w) A (dictSet a u r) Q E s:=by
 have hd:=IY I hk rk ru
 obtain ⟨xs',h1',h2,h3,h4,h5⟩:=id h
 obtain ⟨⟨z',o,es,ep,g1,g2,g3,g4⟩,_⟩:=(show ObjOk X.prog X.w H s.heap a (Hb a xs') from I.hok a _ h1')
 obtain ⟨xs,o',es',ep',h1,g⟩:=HF I h
 have g1':=g.at'
 rw [g1] at g1'
 cases g1'
 have g3':=g.dt
 rw [g3] at g3'
 cases g3'
 have mu1:Mut (H a):=by rw [h1'];exact True.intro
 unfold dictSet
 refine AG (Aa (hd.hash hu λtk=>?_))
 unfold dictSetHashed
 refine AG (Aa (Lk (s:={ s with toks:=tk }) hu hd g1 g3 g.en h5.nd (λz=>?_) λj ej=>?_))
 ·have hz0:es.size≤sizeLine:=by rw [← Array.length_toList,← Dn g.en];omega
  refine Aa (Bh (wpAny_updateDictKeys (s:={ s with toks:=tk }) g1 g3 (hz:=hz0) ?_))
  have e1:(ER k v ks ds).1=ks++[k]:=by unfold ER;rw [if_neg z]
  have e2:(ER k v ks ds).2=ds++[v]:=by unfold ER;rw [if_neg z]
  have so1:=AN (Obj.mapDictKeys (·.push ⟨DJ X.w k,u,r⟩)) g1 (BU (Obj.data_mapDictKeys g3 _))
  refine q _ (xs'++[(DJ X.w k,kv,vv)]) (I.write (x:=a) (e:=a) (t':=tk) mu1 (.inl rfl) (λb ob hb e=>((Ay ..).2 b hb).trans e) ⟨_,so1⟩ (LC ⟨z',_,_,ep+1,so1,g2.mapDictKeys _,Obj.data_mapDictKeys g3 _,?_⟩)) ?_
  ·rw [BM]
   exact G1 g4 (.cons ⟨rfl,ru,rr⟩ .nil)
  ·rw [e1,e2]
   have ex:=ext (xs'++[(DJ X.w k,kv,vv)])
   refine ⟨_,Ec,?_,?_,?_,?_⟩
   ·rw [AW,h2,EE,EE,AW];rfl
   ·rw [AW];exact (h3.ext ex so.out).app (.cons (rk.ext ex so.out) .nil)
   ·rw [AW];exact (h4.ext ex so.out).app (.cons (rv.ext ex so.out) .nil)
   ·refine ⟨by rw [Aq];exact lt,?_,λk' hk'=>?_⟩
    ·refine Br.mpr ⟨h5.nd,by simp,λx hx y hy=>?_⟩
     rw [Al.mp hy]
     exact λe=>z (e▸hx)
    ·rcases AI.mp hk' with w'|w'
     ·exact h5.ok k' w'
     ·rw [Al.mp w'];exact hk
 ·have mem:k∈ks:=Ap ej
  have e1:(ER k v ks ds).1=ks:=by unfold ER;rw [if_pos mem]
  have e2:(ER k v ks ds).2=ds.set j v:=by unfold ER;rw [if_pos mem];exact K6 h5.nd ej
  have hj:j<xs'.length:=by
   have:=(Af.mp ej).1
   have l2:=h3.len
   rw [Ag] at l2
   omega
  have hje:j<es.size:=by rw [← Array.length_toList,← Dn g4];exact hj
  obtain ⟨y,y1,y2,y3,y4⟩:=(DN g4 j).1 xs'[j] (As hj)
  rw [Az] at y1
  have ye:es[j]=y:=by rw [AD hje] at y1;exact AJ y1
  refine Aa (Bh (Aa (wpAny_updateDict (s:={ s with toks:=tk }) g1 g3 (wpAny_point ?_))))
  have so1:=AN (Obj.mapDict (·.modify j λe=>{ e with val:=r })) g1 (BU (Obj.data_mapDict g3 _))
  refine q _ (xs'.set j (xs'[j].1,xs'[j].2.1,vv)) (I.write (x:=a) (e:=a) (t':=tk) mu1 (.inl rfl) (λb ob hb e=>((Ay ..).2 b hb).trans e) ⟨_,so1⟩ (LC ⟨z',_,_,ep,so1,g2.mapDict _,Obj.data_mapDict g3 _,?_⟩)) ?_
  ·have em:(es.modify j λe=>{ e with val:=r }).toList=es.toList.set j { y with val:=r }:=by
    have yl:es.toList[j]? = some y:=by rw [Az];exact y1
    rw [Array.toList_modify]
    refine A9 λi=>?_
    rw [List.getElem?_modify]
    by_cases c:j=i
    ·subst c
     rw [yl,Bz (by simpa using hje)]
     simp
    ·rw [AE c]
     simp [c]
   rw [em]
   exact HY j g4 ⟨y2,y3,rr⟩
  ·rw [e1,e2]
   have ex:=ext (xs'.set j (xs'[j].1,xs'[j].2.1,vv))
   refine ⟨_,Ec,?_,?_,?_,h5⟩
   ·rw [← h2,List.map_set]
    refine A9 λi=>?_
    by_cases c:i=j
    ·subst c;simp [hj]
    ·rw [AE (Ne.symm c)]
   ·have:(xs'.set j (xs'[j].1,xs'[j].2.1,vv)).map (·.2.1)=xs'.map (·.2.1):=by
     rw [List.map_set]
     refine A9 λi=>?_
     by_cases c:i=j
     ·subst c;simp [hj]
     ·rw [AE (Ne.symm c)]
    rw [this]
    exact h3.ext ex so.out
   ·rw [List.map_set]
    exact (h4.ext ex so.out).setAt j (rv.ext ex so.out)
theorem Nb (I:L2.Inv X pins st H s){a:Addr}{ks ds:List D}(h:Ka X.z th H a ks ds){k d:D}{u:Value}(hk:Hd s.heap k u)(e:FJ k ks ds=some d):∃ v r,Rep X.z th H d v∧RelV v r ∧
  ∀ {A:Around} {E:Value->Shared->Prop} {Q:Option Value->Shared->Prop},A.units+8<cLine->(∀ tk,Q (some r) { s with toks:=tk })->wpAny (model X.prog X.w) A (dictGet a u) Q E s:=by
 obtain ⟨xs',h1',h2,h3,h4,h5⟩:=id h
 obtain ⟨xs,o,es,ep,h1,g⟩:=HF I h
 obtain ⟨⟨z',o',es',ep',g1,g2,g3,g4⟩,_⟩:=(show ObjOk X.prog X.w H s.heap a (Hb a xs') from I.hok a _ h1')
 have g1':=g.at'
 rw [g1] at g1'
 cases g1'
 have g3':=g.dt
 rw [g3] at g3'
 cases g3'
 have mem:k∈ks:=by
  refine Classical.byContradiction λz=>?_
  rw [IM z] at e
  cases e
 obtain ⟨j,ej⟩:=A7.mp mem
 rw [KZ h5.nd ej] at e
 obtain ⟨v,v1,v2⟩:=h4.get e
 obtain ⟨en,e1,e2⟩:=(DN g.en j).1 k ej
 obtain ⟨x,x1,x2,x3,x4⟩:=(DN g4 j).2 en e1
 rw [Au,x1] at v1
 have v1':x.2.2=v:=by simpa using v1
 rw [Az] at e1
 refine ⟨v,en.val,v2,v1'▸x4,λhu q=>?_⟩
 unfold dictGet
 refine AG (Aa (hk.hash hu λtk=>Aa (Lk (s:={ s with toks:=tk }) hu hk g1 g3 g.en h5.nd (λz=>absurd mem z) λj' ej'=>?_)))
 cases Wi h5.nd ej ej'
 refine Aa (BN (s:={ s with toks:=tk }) g1 g3 ?_)
 rw [e1]
 exact Ac (q tk)
theorem M9 (I:L2.Inv X pins st H s){a:Addr}{ks ds:List D}(h:Ka X.z th H a ks ds){k:D}{u:Value}(hk:Hd s.heap k u)(e:FJ k ks ds=none){Q:Option Value->Shared->Prop}(hu:A.units+8<cLine)(q:∀ tk,Q none { s with toks:=tk }):wpAny (model X.prog X.w) A (dictGet a u) Q E s:=
 Xz I h hk hu (λ_=>q) λd v r e'=>by rw [e] at e';cases e'
theorem QA (I:L2.Inv X pins st H s){a:Addr}{ks ds:List D}(h:Ka X.z th H a ks ds):s.TypeIs (.ref a) "dict"∧(a==sysModules)=false∧∃ o,s.heap.get? a=some o∧o.dict=none:=by
 obtain ⟨xs,o,es,ep,h1,g⟩:=HF I h
 exact ⟨⟨o,g.at',g.ex.1⟩,g.ns,o,g.at',g.ex.2.1⟩
theorem R8 {k:D}{ks ds:List D}(n:ks.Nodup)(l:ds.length=ks.length):(FJ k ks ds).isSome=decide (k∈ks):=by
 by_cases c:k∈ks
 ·obtain ⟨j,ej⟩:=A7.mp c
  rw [KZ n ej,BJ c]
  have:=(Af.mp ej).1
  rw [As (by omega)]
  rfl
 ·rw [IM c,AV c];rfl
theorem Su {a:Addr}{ks ds:List D}(h:Ka K th H a ks ds):ds.length=ks.length∧KeysOk ks:=by
 obtain ⟨xs,_,_,h3,h4,h5⟩:=h
 have a:=h3.len
 have b:=h4.len
 rw [Ag] at a b
 exact ⟨by omega,h5⟩
noncomputable def ixC (d e:D)(mu:Sto):Rs D:=match FA mu d with
 | some p=>if Es e=true then (FJ e p.1 p.2).map λv=>(v,mu) else none
 | none=>none
theorem UD {d e:D}{r:D×Sto}(h:ixC d e mu=some r):∃ p,FA mu d=some p∧Es e=true∧∃ v,FJ e p.1 p.2=some v∧r=(v,mu):=by
 unfold ixC at h
 split at h
 ·rename_i p e1
  split at h
  ·rename_i c
   cases q:FJ e p.1 p.2 with
   | none=>rw [q] at h;cases h
   | some v=>rw [q] at h;cases h;exact ⟨p,e1,c,v,q,rfl⟩
  ·cases h
 ·cases h
theorem Abn (hu:X.A.units+64<cLine):IxR X (r2 X.z ixC):=by
 intro value slice pins s st H x y v u Q I rx ry h hs
 obtain ⟨th,mu,d,e,so,r1,r2,t⟩:=h
 obtain ⟨a0,mu0,e0,_⟩:=id t
 obtain ⟨p,e1,hk,w',e2,er⟩:=UD e0
 rw [e0] at t
 cases er
 obtain ⟨a,rfl,dc⟩:=Fc so e1 r1
 cases rx
 obtain ⟨v',r',q1,q2,q3⟩:=Nb I dc (IY I hk r2 ry) e2
 obtain ⟨ty,_⟩:=QA I dc
 refine subscriptTail_builtinR (x:=r') ty slot_dict_getitem.lookup ?_ hs
 unfold getItem
 refine AG (Aa (wpAny_sequenceKey ty (by decide) (Aa (A5 (name:=Str.ofString "__getitem__") ty slot_dict_getitem (AY slot_dict_getitem ty entry_dict_getitem ?_ (args_dict_getitem _ _))))))
 refine (?_:wpAny _ _ (dictGet a u >>= _) _ _ s)
 exact Aa (q3 (by rw [Around.in1_units];omega) λtk=>Ac ⟨r',rfl,Ac ⟨rfl,v',H,I.tok _,q2,t.ret so _ q1⟩⟩)
theorem IxR.or {g g':D->D->Sto->Rs D}(h:IxR X (r2 X.z g))(h':IxR X (r2 X.z g')):IxR X (r2 X.z λd e mu=>match g d e mu with|some r=>some r|none=>g' d e mu):=by
 intro value slice pins s st H x y v u Q I rx ry q hs
 obtain ⟨th,mu,d,e,so,r1,r2,t⟩:=q
 dsimp only at t
 cases c:g d e mu with
 | some r=>rw [c] at t;exact h value slice pins s st H x y v u Q I rx ry ⟨th,mu,d,e,so,r1,r2,by rw [c];exact t⟩ hs
 | none=>rw [c] at t;exact h' value slice pins s st H x y v u Q I rx ry ⟨th,mu,d,e,so,r1,r2,t⟩ hs
noncomputable def ixG (d e:D)(mu:Sto):Rs D:=match ixD d e mu with
 | some r=>some r
 | none=>ixC d e mu
theorem CB (hu:X.A.units+64<cLine):IxR X (r2 X.z ixG):=IxR.or AaN (Abn hu)
noncomputable def inC (neg:Bool)(d c:D)(mu:Sto):Rs D:=match FA mu c with
 | some p=>if Es d=true then some (.bl (decide (d∈p.1) != neg),mu) else none
 | none=>none
theorem P2 {neg:Bool}{d e:D}{r:D×Sto}(h:inC neg d e mu=some r):∃ p,FA mu e=some p∧Es d=true∧r=(.bl (decide (d∈p.1) != neg),mu):=by
 unfold inC at h
 split at h
 ·rename_i p e1
  split at h
  ·rename_i c;cases h;exact ⟨p,e1,c,rfl⟩
  ·cases h
 ·cases h
theorem Wf (hu:X.A.units+64<cLine)(I:L2.Inv X pins st H s){a:Addr}{ks ds:List D}(dc:Ka X.z th H a ks ds){d:D}{u:Value}(hk:Hd s.heap d u){Q:Bool->Shared->Prop}(q:∀ tk,Q (decide (d∈ks)) { s with toks:=tk }):wpAny (model X.prog X.w) X.A (contains (.ref a) u) Q E s:=by
 obtain ⟨ty,ns,_⟩:=QA I dc
 obtain ⟨l,ko⟩:=Su dc
 have gm:=R8 (k:=d) ko.nd l
 unfold contains
 refine AG (Aa (wpAny_specialOf ty slot_dict_contains.lookup ?_))
 refine (?_:wpAny _ _ (if (some (Value.builtin "dict.__contains__")==some Value.none)=true then _ else _) _ E s)
 rw [if_neg (by rw [beq_builtin_none];exact AB)]
 refine Aa (wpAny_callSpecialUnlessNone?_slot (name:=Str.ofString "__contains__") ty slot_dict_contains (AY slot_dict_contains ty entry_dict_contains ?_ (args_dict_contains _ _)))
 refine (?_:wpAny _ _ (dictGet a u >>= _) _ _ s)
 refine Aa ?_
 have hu':X.A.in1.units+8<cLine:=by rw [Around.in1_units];omega
 cases c:FJ d ks ds with
 | some v =>
  rw [c] at gm
  obtain ⟨v',r',q1,q2,q3⟩:=Nb I dc hk c
  refine q3 hu' λtk=>?_
  refine (?_:wpAny _ _ (ret (.bool true)) _ _ _)
  exact Ac ⟨_,rfl,Bm (by rw [← gm] at q;exact q tk)⟩
 | none =>
  rw [c] at gm
  refine M9 I dc hk c hu' λtk=>?_
  refine (?_:wpAny _ _ (Builtin.Dict.pendingKey? a u >>= _) _ _ _)
  exact Aa (wpAny_pendingKey_other ns (Ac ⟨_,rfl,Bm (by rw [← gm] at q;exact q tk)⟩))
theorem Yt (hu:X.A.units+64<cLine):OpV X (compareOp .In) (inC false):=by
 intro pins s st H x y v u Q I rx ry h
 obtain ⟨th,mu,d,e,so,r1,r2,t⟩:=h
 obtain ⟨a0,mu0,e0,_⟩:=id t
 obtain ⟨p,e1,hk,er⟩:=P2 e0
 rw [e0] at t
 cases er
 obtain ⟨a,rfl,dc⟩:=Fc so e1 r2
 cases ry
 refine (?_:wpAny _ _ (do return Value.bool (← contains (.ref a) v)) _ _ s)
 exact Aa (Wf hu I dc (IY I hk r1 rx) λtk=>Ac ⟨.bl _,H,I.tok _,rfl,by have:=t.ret so _ rfl;simpa using this⟩)
theorem Vx (hu:X.A.units+64<cLine):OpV X (compareOp .NotIn) (inC true):=by
 intro pins s st H x y v u Q I rx ry h
 obtain ⟨th,mu,d,e,so,r1,r2,t⟩:=h
 obtain ⟨a0,mu0,e0,_⟩:=id t
 obtain ⟨p,e1,hk,er⟩:=P2 e0
 rw [e0] at t
 cases er
 obtain ⟨a,rfl,dc⟩:=Fc so e1 r2
 cases ry
 refine (?_:wpAny _ _ (do return Value.bool (!(← contains (.ref a) v))) _ _ s)
 exact Aa (Wf hu I dc (IY I hk r1 rx) λtk=>Ac ⟨.bl _,H,I.tok _,rfl,by have:=t.ret so _ rfl;simpa using this⟩)
theorem OpV.or {f:Value->Value->Sem Value}{g g':D->D->Sto->Rs D}(h:OpV X f g)(h':OpV X f g'):OpV X f λd e mu=>match g d e mu with|some r=>some r|none=>g' d e mu:=by
 intro pins s st H x y v u Q I rx ry q
 obtain ⟨th,mu,d,e,so,r1,r2,t⟩:=q
 dsimp only at t
 cases c:g d e mu with
 | some r=>rw [c] at t;exact h pins s st H x y v u Q I rx ry ⟨th,mu,d,e,so,r1,r2,by rw [c];exact t⟩
 | none=>rw [c] at t;exact h' pins s st H x y v u Q I rx ry ⟨th,mu,d,e,so,r1,r2,t⟩
noncomputable def inG (d e:D)(mu:Sto):Rs D:=match inD d e mu with
 | some r=>some r
 | none=>inC false d e mu
noncomputable def Ht (d e:D)(mu:Sto):Rs D:=match SM d e mu with
 | some r=>some r
 | none=>inC true d e mu
theorem GD (hu:X.A.units+64<cLine):OpV X (compareOp .In) inG:=OpV.or (Wx hu) (Yt hu)
theorem GQ (hu:X.A.units+64<cLine):OpV X (compareOp .NotIn) Ht:=OpV.or (Ut hu) (Vx hu)
noncomputable def putG (d e v:D)(mu:Sto):Rs Unit:=match d with
 | .ref k=>match mu[k]? with
  | some (.dct ks ds)=>if Es e=true∧ks.length<sizeLine then some ((),mu.set k (.dct (ER e v ks ds).1 (ER e v ks ds).2)) else none
  | _=>VC d e v mu
 | _=>none
noncomputable def Zl (K:Zc):Sk:=λo i v H Q=>∃ th mu d e w,StoOk K th mu H∧Rep K th H d o∧Rep K th H e i∧Rep K th H w v∧Tr K th H (putG d e w mu) λ_ _ _ H'=>Q H'
theorem YQ (hu:X.A.units+64<cLine):VN X (Zl X.z):=by
 intro pins s st H o i v ov iv u Q I ro ri rv h
 obtain ⟨th,mu,d,e,w,so,r1,r2,r3,t⟩:=h
 unfold putG at t
 split at t
 ·rename_i k
  split at t
  ·rename_i ks ds em
   split at t
   ·rename_i c
    unfold Rep at r1
    obtain ⟨a,rfl,ha⟩:=r1
    have dc:Ka X.z th H a ks ds:=so.at' k a _ ha em
    obtain ⟨ty,ns,_⟩:=QA I dc
    cases ro
    unfold setItem
    refine AG (Aa (wpAny_sequenceKey ty (by decide) (Aa (A5 (name:=Str.ofString "__setitem__") ty slot_dict_setitem (AY slot_dict_setitem ty entry_dict_setitem ?_ (args_dict_setitem _ _ _))))))
    refine (?_:wpAny _ _ (Builtin.Dict.notOrdered "__setitem__" ⟨[.ref a,iv,u],[]⟩ >>= _) _ _ s)
    refine Aa (wpAny_notOrdered_dict ty (?_:wpAny _ _ (dictSet a iv u >>= _) _ _ s))
    refine Aa (Yf I dc (λxs=>.mut (Ap ha) _) so c.1 r2 ri r3 rv c.2 (by rw [Around.in1_units];omega) λs' xs' I' dc'=>Ac ⟨.none,rfl,Ac ⟨_,I',?_⟩⟩)
    exact t.retX (.mut (Ap ha) _) (so.putG ha _ _ dc')
   ·exact t.no.elim
  ·exact Aaf pins s st H o i v ov iv u Q I ro ri rv ⟨th,mu,.ref k,e,w,so,r1,r2,r3,t⟩
 ·exact t.no.elim
noncomputable def gIx (o i:Ex):Gx:=λv ro mu=>bM (o ro mu) λd m1=>bM (i ro m1) λe m2=>bM (putG d e v m2) λ_ m3=>some (ro,m3)
theorem T7 (hu:X.A.units+64<cLine){o i:Expr}{mo mi:Ex}{pos:Pos}(ho:SV X o mo)(hi:SV X i mi)
  (ha:∀ v,assign (.Subscript o i pos) X.env v=(do
   let ov←holding [v] (eval o X.env)
   let iv←holding [v,ov] (eval i X.env)
   standAt pos
   holding [v,ov,iv] (setItem ov iv v)
   release [v,ov,iv] []):=by intro _;rfl):SVG X (.Subscript o i pos) (gIx mo mi):=⟨PG.weak (WW ho.r hi.r (YQ hu) ha) λv st H Q h=>by
 obtain ⟨th,mu,ro,d,so,en,r,t⟩:=h
 refine ⟨th,mu,ro,so,en,t.bind.mono λx th1 mu1 H1 e1 s1 t1 xv rx=>?_⟩
 refine ⟨th1,mu1,ro,s1,en.ext e1 so.out,t1.bind.mono λy th2 mu2 H2 e2 s2 t2 yv ry=>?_⟩
 refine ⟨th2,mu2,x,y,d,s2,rx.ext e2 s1.out,ry,(r.ext e1 so.out).ext e2 s1.out,t2.bind.mono λ_ th3 mu3 H3 e3 s3 t3=>?_⟩
 exact t3.ret s3 _ (((en.ext e1 so.out).ext e2 s1.out).ext e3 s2.out)⟩
end
section
variable {prog:Program} {w:World} {A:Around} {E:Value->Shared->Prop} {s:Shared}
theorem wp_choose {M:Model}{src:Source}{n:Nat}{Q:Nat->Shared->Prop}(hn:n≠0)(h:∀ i d',i<n->Q i { s with drawn:=d' }):wpAny M A (choose src n) Q E s:=
 λ_ _ _=>⟨hn,h _ _ (Nat.mod_lt _ (Nat.pos_of_ne_zero hn))⟩
theorem Jk {α:Type}:∀ (xs:List α) (i:Nat) (hi:i<xs.length),(xs[i]::xs.eraseIdx i).Perm xs
 | [],i,hi=>by simp at hi
 | x::xs,0,_=>List.Perm.refl _
 | x::xs,i+1,hi=>by
  have hi':i<xs.length:=by simpa using hi
  exact (List.Perm.swap x xs[i] _).trans (List.Perm.cons x (Jk xs i hi'))
theorem NM {M:Model}{α:Type}:∀ (n:Nat) (xs:List α) {s:Shared} {Q:List α->Shared->Prop},n=xs.length->(∀ ys d',ys.Perm xs->Q ys { s with drawn:=d' })->wpAny M A (drawOrder n xs) Q E s
 | 0,[],s,Q,_,h=>Ac (h [] s.drawn (List.Perm.refl _))
 | 0,_::_,_,_,e,_=>by simp at e
 | n+1,[],_,_,e,_=>by simp at e
 | n+1,x::xs,s,Q,e,h=>by
  refine Aa (wp_choose (by simp) λi d' hi=>?_)
  rw [As hi]
  refine Aa (NM n ((x::xs).eraseIdx i) (by rw [List.length_eraseIdx_of_lt hi,← e];rfl) λys d2 p=>Ac (h _ d2 ?_))
  exact (List.Perm.cons _ p).trans (Jk _ _ hi)
theorem Mf {α:Type}(next:Nat->Nat):∀ (f k:Nat) (left:List α) (out:Array α),f=left.length->(pickOrder.go next f k left out).toList.Perm (out.toList++left)
 | 0,k,[],out,_=>by unfold pickOrder.go;simp
 | 0,_,_::_,_,e=>by simp at e
 | f+1,k,[],out,e=>by simp at e
 | f+1,k,x::xs,out,e=>by
  unfold pickOrder.go
  have hi:next k % (x::xs).length<(x::xs).length:=Nat.mod_lt _ (by simp)
  rw [As hi]
  refine (Mf next f (k+1) _ _ (by rw [List.length_eraseIdx_of_lt hi,← e];rfl)).trans ?_
  rw [BM,List.append_assoc]
  exact List.Perm.append_left _ (Jk _ _ hi)
theorem GA {α:Type}(next:Nat->Nat)(xs:Array α):(pickOrder next xs).toList.Perm xs.toList:=by
 have:=Mf next xs.size 0 xs.toList #[] (by simp)
 simpa [pickOrder] using this
noncomputable def DY (w:World):Bool:=w.params.followText "set-order"
theorem FE {Q:Bool->Shared->Prop}(h:Q (DY w) s):wpAny (model prog w) A setsByText Q E s:=Aa (wpAny_askSetting (Ac h))
theorem D5:Slot "set_iterator" "__next__" "set_iterator.__next__":=
 .of (owner:="set_iterator") (n:="__next__") (by rw [typeLookup_type,builtinLookup_eq_fast];kernel_rfl) (by decide +kernel) (by decide +kernel) (by decide +kernel) (by first|exact .inl (by decide +kernel)|exact .inr (by decide +kernel)) (by rw [isSubtype_type];kernel_rfl)
theorem HL:entryFor table "set_iterator.__next__"=some Builtin.«set_iterator.__next__»:=entryFor_of_tree (by kernel_rfl)
theorem LM:Manifest.owners.lookup (String.ofList ['r','o','t','a','r','e','t','i','_','t','e','s'].reverse)=some Manifest.sig_set_iterator:=by kernel_rfl
theorem Ia (a:Value):argsOk "set_iterator.__next__" ⟨[a],[]⟩:=by
 unfold argsOk;rw [signature?_of (id:="set_iterator.__next__") (n:=['_','_','t','x','e','n','_','_']) (o:=['r','o','t','a','r','e','t','i','_','t','e','s']) (by kernel_rfl) LM];kernel_rfl
theorem HW:Slot "set_iterator" "__iter__" "set_iterator.__iter__":=
 .of (owner:="set_iterator") (n:="__iter__") (by rw [typeLookup_type,builtinLookup_eq_fast];kernel_rfl) (by decide +kernel) (by decide +kernel) (by decide +kernel) (by first|exact .inl (by decide +kernel)|exact .inr (by decide +kernel)) (by rw [isSubtype_type];kernel_rfl)
inductive Md where
 | txt|drw (TI:Addr) (pl:List Nat)|one
noncomputable def SetAt (h:Heap)(S:Addr)(es:Array (Int×Value))(ep:Nat)(t:SetTable):Prop:=∃ o,h.get? S=some o∧o.data=.set es ep t
noncomputable def Fst (w:World)(es:Array (Int×Value))(t:SetTable)(h:Heap)(i:Nat)(v:Value):Md->Prop
 | .txt=>DY w=true∧∃ c:Nat,v=rawInt c
 | .drw TI pl=>v=.ref TI∧h.IsTuple TI (pl.map λp:Nat=>rawInt p).toArray∧pl.length=es.size∧(∀ p∈pl,p<es.size)
 | .one=>DY w=false∧(t.plain=false∨es.size≤1)∧es.size≤1∧t.led=true∧v=rawInt ((if i=0 then 0 else t.place.getD 0 0+1:Nat):Int)
noncomputable def LP (w:World)(S:Addr)(es:Array (Int×Value))(ep:Nat):Md->List Value
 | .txt=>(pickOrder (w.params.setOrder S ep) es).toList.map (·.2)
 | .drw _ pl=>pl.map λp=>(es.getD p (0,.none)).2
 | .one=>es.toList.map (·.2)
noncomputable def SIt (w:World)(S I:Addr)(es:Array (Int×Value))(ep:Nat)(t:SetTable)(md:Md)(i:Nat)(h:Heap):Prop:=
 SetAt h S es ep t∧∃ o v,h.get? I=some o∧o.cls=.type "set_iterator"∧o.data=.fields #[v,rawInt i,.ref S,rawInt es.size,rawInt ep]∧Fst w es t h i v md
theorem HH {M:Model}{I:Addr}{Q:PySem.Fin->Shared->Prop}(hh:A.handled=none)(q:∀ h' e,(∀ c o,s.heap.get? c=some o->h'.get? c=some o)->(∃ o,h'.get? e=some o∧o.cls=.type "StopIteration")->E (.ref e) { s with heap:=h' }) :
  wpAny M A (newExc (.type "StopIteration") [] >>= λe=>(raiseNew e:Sem PySem.Fin)) Q E s:=by
 refine Aa ?_
 simp only [newExc,newTuple]
 refine Aa (AO (Aa (m:=firstArgMember _ _) (wpAny_of_eq (a:=Value.none) (by first|rfl|(simp only [firstArgMember];rfl)) (AO ?_ (by size_fits)))) (by size_fits))
 simp only [raiseNew]
 refine Aa (wpAny_handled ?_)
 rw [hh]
 exact Aa (Ac (wpAny_throw (q _ _ (λc o e=>Ad _ (Ad _ e)) ⟨_,Am _ rfl,rfl⟩)))
theorem LI {xs:Array Nat}(h:xs.size≤1):SetTable.below xs 0=0:=by
 unfold SetTable.below
 rcases Nat.lt_or_ge 0 xs.size with c|c
 ·have:xs.size=1:=by omega
  rw [this]
  simp [SetTable.below.go]
 ·have:xs.size=0:=by omega
  rw [this]
  simp [SetTable.below.go]
theorem PN {xs:Array Nat}(h:xs.size=1):SetTable.below xs (xs.getD 0 0+1)=1:=by
 unfold SetTable.below
 have e0:xs[0]? = some xs[0]:=AD (by omega)
 rw [h]
 simp [SetTable.below.go,e0]
theorem FL {a:Addr}{o:Obj}{vs:Array Value}{i:Nat}{x:Value}{h:Heap}(ho:h.get? a=some o)(hd:o.data=.fields vs):∃ o',(h.update a (Obj.mapFields (·.setIfInBounds i x))).get? a=some o'∧o'.cls=o.cls∧o'.data=.fields (vs.setIfInBounds i x):=
 ⟨_,AN _ ho (Obj.isFreed_of_fields (Obj.data_mapFields hd _)),Obj.cls_mapFields ..,Obj.data_mapFields hd _⟩
theorem SetAt.keep {h h':Heap}{S I:Addr}{es:Array (Int×Value)}{ep:Nat}{t:SetTable}(x:SetAt h S es ep t)(ne:S≠I)(sb:Heap.SameBut I h h'):SetAt h' S es ep t:=
 let ⟨o,a,b⟩:=x;⟨o,(sb.2 S ne).trans a,b⟩
noncomputable def Md.apart (I:Addr):Md->Prop
 | .drw TI _=>TI≠I
 | _=>True
theorem Rj {S I:Addr}{es:Array (Int×Value)}{ep:Nat}{t:SetTable}{md:Md}{i:Nat}{Q:Value->Shared->Prop}(hf:t.fits es.size=true)(ne:S≠I)(ap:md.apart I)(g:SIt w S I es ep t md i s.heap)(hi:i<es.size)
  (q:∀ v h',(LP w S es ep md)[i]? = some v->SIt w S I es ep t md (i+1) h'->Heap.SameBut I s.heap h'->Q v { s with heap:=h' }) :
  wpAny (model prog w) A (Builtin.«set_iterator.__next__» ⟨[.ref I],[]⟩) (λfin s'=>∃ v,fin=.done (.ret v)∧Q v s') E s:=by
 obtain ⟨⟨ob,g1,g2⟩,o,v,k1,k2,k3,k4⟩:=id g
 refine (?_:wpAny _ _ (fieldsOf (.ref I) >>= _) _ _ _)
 refine Aa (wpAny_fieldsOf k1 k3 (?_:wpAny _ _ (setEntries S >>= _) _ _ _))
 refine Aa (wpAny_setEntries_of g1 g2 hf ?_)
 rw [if_neg (by simp)]
 cases md with
 | drw TI pl =>
  obtain ⟨rfl,⟨tb,b1,b2,n,b3⟩,c1,c2⟩:=k4
  refine (?_:wpAny _ _ (seqItems? (.ref TI) >>= _) _ _ _)
  refine Aa (wpAny_seqItems b1 b3 ?_)
  have hp:i<pl.length:=by omega
  have ei:(pl.map λp:Nat=>rawInt p).toArray[(i:Int).toNat]? = some (rawInt pl[i]):=by simp [hp]
  dsimp only
  rw [ei]
  have hpl:=c2 pl[i] (BW hp)
  refine (?_:wpAny _ _ (setNextDrawn S ((pl[i]:Nat):Int).toNat ((ep:Nat):Int).toNat >>= _) _ _ _)
  refine Aa ?_
  unfold setNextDrawn
  refine Aa (Bs g1 g2 hf ?_)
  rw [Int.toNat_natCast,Int.toNat_natCast]
  dsimp only
  rw [if_neg (by simp),AD hpl]
  refine Ac (Aa (Bu k1 k3 (by simp) (Ac ⟨_,rfl,q _ _ ?_ ?_ (Ay ..)⟩)))
  ·unfold LP
   rw [Au,As hp]
   simp [Array.getD,hpl]
  ·obtain ⟨o',e1,e2,e3⟩:=FL (i:=1) (x:=rawInt ((i:Int)+1)) k1 k3
   exact ⟨SetAt.keep ⟨ob,g1,g2⟩ ne (Ay ..),o',.ref TI,e1,e2.trans k2,e3,rfl,⟨tb,((Ay ..).2 TI ap).trans b1,b2,n,b3⟩,c1,c2⟩
 | txt =>
  obtain ⟨bt,c,rfl⟩:=k4
  refine (?_:wpAny _ _ (setNext S ((c:Nat):Int).toNat ((i:Nat):Int).toNat ((ep:Nat):Int).toNat >>= _) _ _ _)
  refine Aa ?_
  unfold setNext
  refine Aa (Bs g1 g2 hf (Aa (FE ?_)))
  rw [if_pos bt]
  rw [Int.toNat_natCast,Int.toNat_natCast,Int.toNat_natCast]
  dsimp only
  rw [if_neg (by simp)]
  refine Aa ?_
  unfold setWalk
  refine Aa (Bs g1 g2 hf (Aa (FE ?_)))
  rw [if_pos bt]
  refine Aa (wpAny_askSetting (Ac ?_))
  have hl:i<(pickOrder (w.params.setOrder S ep) es).size:=by
   have:=(GA (w.params.setOrder S ep) es).length_eq
   simp at this
   omega
  have ex:(pickOrder ((⟨prog,w.params⟩:Setting).params.setOrder S ep) es)[i]? = some (pickOrder (w.params.setOrder S ep) es)[i]:=AD hl
  refine Ac ?_
  have ex':Option.map (λe:Int×Value=>(e.2,c)) (pickOrder ((⟨prog,w.params⟩:Setting).params.setOrder S ep) es)[i]? = some ((pickOrder (w.params.setOrder S ep) es)[i].2,c):=by rw [ex];rfl
  refine (?_:wpAny _ _ (match Option.map (λe:Int×Value=>(e.2,c)) (pickOrder ((⟨prog,w.params⟩:Setting).params.setOrder S ep) es)[i]? with|some (x,next)=>_|none=>_) _ _ _)
  rw [ex']
  obtain ⟨o',e1,e2,e3⟩:=FL (i:=0) (x:=rawInt (c:Int)) k1 k3
  refine Aa (Bu k1 k3 (by simp) ?_)
  obtain ⟨o2,f1,f2,f3⟩:=FL (i:=1) (x:=rawInt ((i:Int)+1)) e1 e3
  refine Aa (Bu e1 e3 (by simp) (Ac ⟨_,rfl,q _ _ ?_ ?_ ((Ay ..).trans (Ay ..))⟩))
  ·unfold LP
   rw [Au,Az,AD hl]
   rfl
  ·exact ⟨(SetAt.keep ⟨ob,g1,g2⟩ ne (Ay ..)).keep ne (Ay ..),o2,rawInt c,f1,(f2.trans e2).trans k2,f3,bt,c,rfl⟩
 | one =>
  obtain ⟨bt,pl,sz,led,rfl⟩:=k4
  have i0:i=0:=by omega
  subst i0
  have s1:es.size=1:=by omega
  have ps:t.place.size=1:=by
   simp only [SetTable.fits,Ab,beq_iff_eq,Ae] at hf
   omega
  refine (?_:wpAny _ _ (setNext S ((0:Nat):Int).toNat ((0:Nat):Int).toNat ((ep:Nat):Int).toNat >>= _) _ _ _)
  refine Aa ?_
  unfold setNext
  refine Aa (Bs g1 g2 hf (Aa (FE ?_)))
  rw [if_neg (by rw [bt];exact AB)]
  refine Iy (λz=>?_) λ_=>?_
  ·exfalso
   have z':(!t.plain&&decide (es.size > 1))=true:=z
   rw [s1] at z'
   simp at z'
  refine Aa (Iy (λz=>?_) λ_=>?_)
  ·exfalso
   have z':(!t.led&&!es.isEmpty)=true:=z
   rw [led] at z'
   simp at z'
  refine Ac ?_
  have b0:=LI (xs:=t.place) (by omega)
  have ee:es[0]? = some es[0]:=AD (by omega)
  have pe:t.place[0]? = some t.place[0]:=AD (by omega)
  have hm:(match es[SetTable.below t.place ((0:Nat):Int).toNat]?,t.place[SetTable.below t.place ((0:Nat):Int).toNat]? with|some (_,x),some j=>some (x,j+1)|_,_=>none)=some (es[0].2,t.place[0]+1):=by
   rw [show ((0:Nat):Int).toNat=0 from rfl,b0,ee,pe]
  refine (?_:wpAny _ _ (pure (match es[SetTable.below t.place ((0:Nat):Int).toNat]?,t.place[SetTable.below t.place ((0:Nat):Int).toNat]? with|some (_,x),some j=>some (x,j+1)|_,_=>none)) _ _ _)
  rw [hm]
  refine Ac ?_
  obtain ⟨o',e1,e2,e3⟩:=FL (i:=0) (x:=rawInt ((t.place[0]+1:Nat):Int)) k1 k3
  refine Aa (Bu k1 k3 (by simp) ?_)
  obtain ⟨o2,f1,f2,f3⟩:=FL (i:=1) (x:=rawInt (((0:Nat):Int)+1)) e1 e3
  refine Aa (Bu e1 e3 (by simp) (Ac ⟨_,rfl,q _ _ ?_ ?_ ((Ay ..).trans (Ay ..))⟩))
  ·unfold LP
   rw [Au,Az,ee]
   rfl
  ·refine ⟨(SetAt.keep ⟨ob,g1,g2⟩ ne (Ay ..)).keep ne (Ay ..),o2,rawInt ((t.place[0]+1:Nat):Int),f1,(f2.trans e2).trans k2,f3,bt,pl,sz,led,?_⟩
   have:t.place.getD 0 0=t.place[0]:=by simp [Array.getD,ps]
   rw [this]
   rfl
end
noncomputable def rk:D->Nat
 | .int _=>0|.str _=>1|.tup _=>2|_=>3
noncomputable def Iq (i j:Nat):Ordering:=if i<j then .lt else if j<i then .gt else .eq
noncomputable def KL (i j:Int):Ordering:=if i<j then .lt else if j<i then .gt else .eq
noncomputable def HQ (x y:Str):Ordering:=if x.cps.toList<y.cps.toList then .lt else if y.cps.toList<x.cps.toList then .gt else .eq
noncomputable def oTh:Ordering->Ordering->Ordering
 | .eq,t=>t
 | .lt,_=>.lt
 | .gt,_=>.gt
mutual
noncomputable def Dd:D->D->Ordering
 | .int i,.int j=>KL i j
 | .str x,.str y=>HQ x y
 | .tup xs,.tup ys=>G3 xs ys
 | a,b=>Iq (rk a) (rk b)
noncomputable def G3:List D->List D->Ordering
 | [],[]=>.eq
 | [],_::_=>.lt
 | _::_,[]=>.gt
 | x::xs,y::ys=>oTh (Dd x y) (G3 xs ys)
end
noncomputable def ltT (a b:D):Bool:=Dd a b==.lt
structure T3 (a b c:Ordering):Prop where
 e1:a=.eq->b=c
 e2:b=.eq->a=c
 e3:a=b->c=a
theorem Dk (i j:Nat):Iq j i=(Iq i j).swap:=by
 unfold Iq
 rcases Nat.lt_trichotomy i j with h|h|h
 ·rw [if_pos h,if_neg (by omega),if_pos h];rfl
 ·subst h;simp
 ·rw [if_pos h,if_neg (by omega),if_pos h];rfl
theorem Rv (i j:Int):KL j i=(KL i j).swap:=by
 unfold KL
 rcases Int.lt_trichotomy i j with h|h|h
 ·rw [if_pos h,if_neg (by omega),if_pos h];rfl
 ·subst h;simp
 ·rw [if_pos h,if_neg (by omega),if_pos h];rfl
theorem X0 {x y:Str}:(x.cps.toList<y.cps.toList)->¬ (y.cps.toList<x.cps.toList):=λa b=>List.lt_asymm a b
theorem JZ (i j:Str):HQ j i=(HQ i j).swap:=by
 unfold HQ
 by_cases h:i.cps.toList<j.cps.toList
 ·rw [if_pos h,if_neg (X0 h),if_pos h];rfl
 ·rw [if_neg h]
  by_cases h2:j.cps.toList<i.cps.toList
  ·rw [if_pos h2,if_neg h,if_pos h2];rfl
  ·rw [if_neg h2,if_neg h,if_neg h2];rfl
theorem Wk {α:Type}(f:α->α->Ordering)(lt:α->α->Prop)(h1:∀ x y,lt x y->f x y=.lt∧f y x=.gt)(h0:∀ x,f x x=.eq)(tr:∀ x y z,lt x y->lt y z->lt x z)(tri:∀ x y,lt x y∨x=y∨lt y x)(a b c:α):T3 (f a b) (f b c) (f a c):=by
 rcases tri a b with h|rfl|h
 ·rcases tri b c with g|rfl|g
  ·rw [(h1 _ _ h).1,(h1 _ _ g).1,(h1 _ _ (tr _ _ _ h g)).1];exact ⟨λz=>(nomatch z),λ_=>rfl,λ_=>rfl⟩
  ·rw [(h1 _ _ h).1,h0];exact ⟨λz=>(nomatch z),λ_=>rfl,λ_=>rfl⟩
  ·rw [(h1 _ _ h).1,(h1 _ _ g).2];exact ⟨λz=>(nomatch z),λz=>(nomatch z),λz=>(nomatch z)⟩
 ·rw [h0];exact ⟨λ_=>rfl,λz=>z.symm,λz=>z.symm⟩
 ·rcases tri b c with g|rfl|g
  ·rw [(h1 _ _ h).2,(h1 _ _ g).1];exact ⟨λz=>(nomatch z),λz=>(nomatch z),λz=>(nomatch z)⟩
  ·rw [(h1 _ _ h).2,h0];exact ⟨λz=>(nomatch z),λ_=>rfl,λ_=>rfl⟩
  ·rw [(h1 _ _ h).2,(h1 _ _ g).2,(h1 _ _ (tr _ _ _ g h)).2];exact ⟨λz=>(nomatch z),λ_=>rfl,λ_=>rfl⟩
theorem Xr:∀ i j k:Nat,T3 (Iq i j) (Iq j k) (Iq i k):=
 Wk Iq (·<·) (λx y h=>⟨if_pos h,by rw [Iq,if_neg (Nat.lt_asymm h),if_pos h]⟩) (λx=>by rw [Iq,if_neg (A6 x),if_neg (A6 x)]) (λ_ _ _=>Nat.lt_trans) Nat.lt_trichotomy
theorem W3:∀ i j k:Int,T3 (KL i j) (KL j k) (KL i k):=
 Wk KL (·<·) (λx y h=>⟨if_pos h,by rw [KL,if_neg (Int.lt_asymm h),if_pos h]⟩) (λx=>by rw [KL,if_neg (Int.lt_irrefl x),if_neg (Int.lt_irrefl x)]) (λ_ _ _=>Int.lt_trans) Int.lt_trichotomy
theorem Ju {i j:Str}:HQ i j=.eq ↔ i=j:=by
 unfold HQ
 constructor
 ·intro h
  by_cases h1:i.cps.toList<j.cps.toList
  ·rw [if_pos h1] at h;cases h
  ·rw [if_neg h1] at h
   by_cases h2:j.cps.toList<i.cps.toList
   ·rw [if_pos h2] at h;cases h
   ·exact V1 (List.le_antisymm (Std.not_lt.mp h2) (Std.not_lt.mp h1))
 ·rintro rfl
  rw [if_neg (List.lt_irrefl _),if_neg (List.lt_irrefl _)]
theorem GJ {i j:Str}:HQ i j=.lt ↔ i.cps.toList<j.cps.toList:=by
 unfold HQ
 by_cases h1:i.cps.toList<j.cps.toList
 ·simp [h1]
 ·rw [if_neg h1]
  by_cases h2:j.cps.toList<i.cps.toList
  ·simp [h2,h1]
  ·simp [h2,h1]
theorem KW {i j:Str}:HQ i j=.gt ↔ j.cps.toList<i.cps.toList:=by
 rw [← GJ,JZ i j]
 cases HQ i j<;>simp
theorem WQ (i j k:Str):T3 (HQ i j) (HQ j k) (HQ i k):=by
 refine ⟨λh=>?_,λh=>?_,λh=>?_⟩
 ·rw [Ju.mp h]
 ·rw [Ju.mp h]
 ·cases c:HQ i j with
  | eq=>rw [Ju.mp c];rw [c] at h;exact h.symm
  | lt=>rw [c] at h;exact GJ.mpr (List.lt_trans (GJ.mp c) (GJ.mp h.symm))
  | gt=>rw [c] at h;exact KW.mpr (List.lt_trans (KW.mp h.symm) (KW.mp c))
mutual
theorem cmp_swap:∀ (a b:D),Dd b a=(Dd a b).swap
 | .tup xs,.tup ys=>by unfold Dd;exact MF xs ys
 | .int i,b=>by cases b<;>first|(unfold Dd;exact Rv _ _)|(simp only [Dd];exact Dk _ _)
 | .str i,b=>by cases b<;>first|(unfold Dd;exact JZ _ _)|(simp only [Dd];exact Dk _ _)
 | .tup xs,.int _=>by simp only [Dd];exact Dk _ _
 | .tup xs,.str _=>by simp only [Dd];exact Dk _ _
 | .tup xs,.non=>by simp only [Dd];exact Dk _ _
 | .tup xs,.bl _=>by simp only [Dd];exact Dk _ _
 | .tup xs,.lst _=>by simp only [Dd];exact Dk _ _
 | .tup xs,.dct _ _=>by simp only [Dd];exact Dk _ _
 | .tup xs,.set _=>by simp only [Dd];exact Dk _ _
 | .tup xs,.ref _=>by simp only [Dd];exact Dk _ _
 | .non,b=>by cases b<;>(simp only [Dd];exact Dk _ _)
 | .bl _,b=>by cases b<;>(simp only [Dd];exact Dk _ _)
 | .lst _,b=>by cases b<;>(simp only [Dd];exact Dk _ _)
 | .dct _ _,b=>by cases b<;>(simp only [Dd];exact Dk _ _)
 | .set _,b=>by cases b<;>(simp only [Dd];exact Dk _ _)
 | .ref _,b=>by cases b<;>(simp only [Dd];exact Dk _ _)
theorem MF:∀ (xs ys:List D),G3 ys xs=(G3 xs ys).swap
 | [],[]=>rfl
 | [],_::_=>rfl
 | _::_,[]=>rfl
 | x::xs,y::ys=>by
  unfold G3
  rw [cmp_swap x y]
  cases Dd x y with
  | eq=>exact MF xs ys
  | lt=>rfl
  | gt=>rfl
end
theorem Pe {a b:D}(h:rk a≠rk b):Dd a b=Iq (rk a) (rk b):=by
 cases a<;>cases b<;>first|(simp only [Dd];done)|(exact absurd rfl h)
theorem Wr {a b:D}(h:Dd a b=.eq):rk a=rk b:=by
 refine Classical.byContradiction λz=>?_
 rw [Pe z] at h
 unfold Iq at h
 repeat' split at h
 all_goals first|(cases h;done)|omega
theorem T3.then' {h1 h2 h3 t1 t2 t3:Ordering}(h:T3 h1 h2 h3)(t:T3 t1 t2 t3):T3 (oTh h1 t1) (oTh h2 t2) (oTh h3 t3):=by
 obtain ⟨a,b,c⟩:=h
 cases h1 with
 | eq =>
  cases a rfl
  cases h2 with
  | eq=>exact t
  | lt=>exact (show T3 t1 .lt .lt from ⟨λ_=>rfl,λz=>(nomatch z),λz=>z.symm⟩)
  | gt=>exact (show T3 t1 .gt .gt from ⟨λ_=>rfl,λz=>(nomatch z),λz=>z.symm⟩)
 | lt =>
  cases h2 with
  | eq=>cases b rfl;exact (show T3 .lt t2 .lt from ⟨λz=>(nomatch z),λ_=>rfl,λ_=>rfl⟩)
  | lt=>cases c rfl;exact (show T3 .lt .lt .lt from ⟨λz=>(nomatch z),λ_=>rfl,λ_=>rfl⟩)
  | gt=>exact (show T3 .lt .gt _ from ⟨λz=>(nomatch z),λz=>(nomatch z),λz=>(nomatch z)⟩)
 | gt =>
  cases h2 with
  | eq=>cases b rfl;exact (show T3 .gt t2 .gt from ⟨λz=>(nomatch z),λ_=>rfl,λ_=>rfl⟩)
  | gt=>cases c rfl;exact (show T3 .gt .gt .gt from ⟨λz=>(nomatch z),λ_=>rfl,λ_=>rfl⟩)
  | lt=>exact (show T3 .gt .lt _ from ⟨λz=>(nomatch z),λz=>(nomatch z),λz=>(nomatch z)⟩)
theorem T3.of_rk {a b c:D}(h:¬ (rk a=rk b∧rk b=rk c)):T3 (Dd a b) (Dd b c) (Dd a c):=by
 have n3:=Xr (rk a) (rk b) (rk c)
 have sg:∀ x y:D,rk x≠rk y->Dd x y≠.eq:=λx y z e=>z (Wr e)
 have lt:∀ x y:D,rk x<rk y->Dd x y=.lt:=λx y z=>by rw [Pe (by omega)];unfold Iq;rw [if_pos z]
 have gt:∀ x y:D,rk y<rk x->Dd x y=.gt:=λx y z=>by rw [Pe (by omega)];unfold Iq;rw [if_neg (by omega),if_pos z]
 rcases Nat.lt_trichotomy (rk a) (rk b) with h1|h1|h1<;>rcases Nat.lt_trichotomy (rk b) (rk c) with h2|h2|h2
 ·rw [lt a b h1,lt b c h2,lt a c (by omega)];exact ⟨λz=>(nomatch z),λ_=>rfl,λ_=>rfl⟩
 ·rw [lt a b h1,lt a c (by omega)];exact ⟨λz=>(nomatch z),λ_=>rfl,λ_=>rfl⟩
 ·rw [lt a b h1,gt b c h2];exact ⟨λz=>(nomatch z),λz=>(nomatch z),λz=>(nomatch z)⟩
 ·rw [lt b c h2,lt a c (by omega)];exact ⟨λ_=>rfl,λz=>(nomatch z),λz=>z.symm⟩
 ·exact absurd ⟨h1,h2⟩ h
 ·rw [gt b c h2,gt a c (by omega)];exact ⟨λ_=>rfl,λz=>(nomatch z),λz=>z.symm⟩
 ·rw [gt a b h1,lt b c h2];exact ⟨λz=>(nomatch z),λz=>(nomatch z),λz=>(nomatch z)⟩
 ·rw [gt a b h1,gt a c (by omega)];exact ⟨λz=>(nomatch z),λ_=>rfl,λ_=>rfl⟩
 ·rw [gt a b h1,gt b c h2,gt a c (by omega)];exact ⟨λz=>(nomatch z),λ_=>rfl,λ_=>rfl⟩
theorem RX {b:D}(h:0=rk b):∃ j,b=.int j:=by cases b<;>first|exact ⟨_,rfl⟩|cases h
theorem Sq {b:D}(h:1=rk b):∃ j,b=.str j:=by cases b<;>first|exact ⟨_,rfl⟩|cases h
theorem Ui {b:D}(h:2=rk b):∃ j,b=.tup j:=by cases b<;>first|exact ⟨_,rfl⟩|cases h
theorem Xj {a b:D}(ha:3=rk a)(hb:3=rk b):Dd a b=.eq:=by
 cases a<;>first|(cases ha;done)|(cases b<;>first|(cases hb;done)|rfl)
theorem T3.of_o {a b c:D}(h:3=rk a):T3 (Dd a b) (Dd b c) (Dd a c):=by
 by_cases e:rk a=rk b∧rk b=rk c
 ·have h2:=h.trans e.1
  rw [Xj h h2,Xj h2 (h2.trans e.2),Xj h (h2.trans e.2)]
  exact ⟨λ_=>rfl,λ_=>rfl,λ_=>rfl⟩
 ·exact .of_rk e
mutual
theorem V7:∀ (a b c:D),T3 (Dd a b) (Dd b c) (Dd a c)
 | .tup xs,b,c=>by
  by_cases e:rk (.tup xs)=rk b∧rk b=rk c
  ·obtain ⟨ys,rfl⟩:=Ui e.1
   obtain ⟨zs,rfl⟩:=Ui e.2
   unfold Dd
   exact RT xs ys zs
  ·exact .of_rk e
 | .int i,b,c=>by
  by_cases e:rk (.int i)=rk b∧rk b=rk c
  ·obtain ⟨j,rfl⟩:=RX e.1
   obtain ⟨k,rfl⟩:=RX e.2
   unfold Dd
   exact W3 _ _ _
  ·exact .of_rk e
 | .str i,b,c=>by
  by_cases e:rk (.str i)=rk b∧rk b=rk c
  ·obtain ⟨j,rfl⟩:=Sq e.1
   obtain ⟨k,rfl⟩:=Sq e.2
   unfold Dd
   exact WQ _ _ _
  ·exact .of_rk e
 | .non,_,_=>.of_o rfl
 | .bl _,_,_=>.of_o rfl
 | .lst _,_,_=>.of_o rfl
 | .dct _ _,_,_=>.of_o rfl
 | .set _,_,_=>.of_o rfl
 | .ref _,_,_=>.of_o rfl
theorem RT:∀ (xs ys zs:List D),T3 (G3 xs ys) (G3 ys zs) (G3 xs zs)
 | [],[],[]=>⟨λ_=>rfl,λ_=>rfl,λ_=>rfl⟩
 | [],[],_::_=>⟨λ_=>rfl,λz=>(nomatch z),λz=>(nomatch z)⟩
 | [],_::_,[]=>⟨λz=>(nomatch z),λz=>(nomatch z),λz=>(nomatch z)⟩
 | [],y::ys,z::zs=>⟨λz=>(nomatch z),λ_=>rfl,λ_=>rfl⟩
 | x::xs,[],[]=>⟨λz=>(nomatch z),λ_=>rfl,λz=>(nomatch z)⟩
 | x::xs,[],_::_=>⟨λz=>(nomatch z),λz=>(nomatch z),λz=>(nomatch z)⟩
 | x::xs,y::ys,[]=>⟨λ_=>rfl,λz=>(nomatch z),λz=>z.symm⟩
 | x::xs,y::ys,z::zs=>by
  unfold G3
  exact (V7 x y z).then' (RT xs ys zs)
end
theorem QF (a b:D)(h:ltT a b=true):ltT b a=false:=by
 unfold ltT at *
 rw [cmp_swap a b]
 cases c:Dd a b<;>rw [c] at h<;>first|rfl|cases h
theorem TB (a b c:D)(h1:ltT b a=false)(h2:ltT c b=false):ltT c a=false:=by
 unfold ltT at *
 have t:=V7 c b a
 cases q:Dd c b with
 | eq=>rw [← t.e1 q];exact h1
 | lt=>rw [q] at h2;cases h2
 | gt =>
  cases q2:Dd b a with
  | eq=>rw [← t.e2 q2,q];rfl
  | lt=>rw [q2] at h1;cases h1
  | gt=>rw [t.e3 (q.trans q2.symm),q];rfl
mutual
noncomputable def HU:D->Bool
 | .int _=>true
 | .str _=>true
 | .tup ds=>Ja ds
 | _=>false
noncomputable def Ja:List D->Bool
 | []=>true
 | d::ds=>HU d&&Ja ds
end
mutual
theorem NF:∀ {d:D},HU d=true->hsh d=true
 | .int _,_=>rfl
 | .str _,_=>rfl
 | .tup ds,h=>by unfold HU at h;unfold hsh;exact NO h
 | .non,h=>nomatch h
 | .bl _,h=>nomatch h
 | .lst _,h=>nomatch h
 | .dct _ _,h=>nomatch h
 | .set _,h=>nomatch h
 | .ref _,h=>nomatch h
theorem NO:∀ {ds:List D},Ja ds=true->Iz ds=true
 | [],_=>rfl
 | d::ds,h=>by
  unfold Ja at h
  rw [Ab] at h
  unfold Iz
  rw [NF h.1,NO h.2]
  rfl
end
mutual
theorem OS:∀ (a b:D),HU a=true->HU b=true->Dd a b=.eq->a=b
 | .int i,b,_,hb,h=>by
  cases b<;>first|(cases hb;done)|(simp [Dd,Iq,rk] at h;done)|skip
  rename_i j
  unfold Dd KL at h
  repeat' split at h
  all_goals first|(cases h;done)|(congr 1;omega)
 | .str i,b,_,hb,h=>by
  cases b<;>first|(cases hb;done)|(simp [Dd,Iq,rk] at h;done)|skip
  unfold Dd at h
  rw [Ju.mp h]
 | .tup xs,b,ha,hb,h=>by
  cases b<;>first|(cases hb;done)|(simp [Dd,Iq,rk] at h;done)|skip
  unfold Dd at h
  unfold HU at ha hb
  congr 1
  exact P9 xs _ ha hb h
 | .non,_,h,_,_=>nomatch h
 | .bl _,_,h,_,_=>nomatch h
 | .lst _,_,h,_,_=>nomatch h
 | .dct _ _,_,h,_,_=>nomatch h
 | .set _,_,h,_,_=>nomatch h
 | .ref _,_,h,_,_=>nomatch h
theorem P9:∀ (xs ys:List D),Ja xs=true->Ja ys=true->G3 xs ys=.eq->xs=ys
 | [],[],_,_,_=>rfl
 | [],_::_,_,_,h=>by cases h
 | _::_,[],_,_,h=>by cases h
 | x::xs,y::ys,ha,hb,h=>by
  unfold Ja at ha hb
  rw [Ab] at ha hb
  unfold G3 at h
  cases c:Dd x y<;>rw [c] at h<;>first|(cases h;done)|skip
  rw [OS x y ha.1 hb.1 c,P9 xs ys ha.2 hb.2 h]
end
theorem lt_eq (a b:D)(ha:HU a=true)(hb:HU b=true)(h1:ltT a b=false)(h2:ltT b a=false):a=b:=by
 refine OS a b ha hb ?_
 unfold ltT at h1 h2
 rw [cmp_swap a b] at h2
 cases c:Dd a b with
 | eq=>rfl
 | lt=>rw [c] at h1;cases h1
 | gt=>rw [c] at h2;cases h2
theorem TU (a:D):Dd a a=.eq:=by
 have:=cmp_swap a a
 cases c:Dd a a<;>rw [c] at this<;>first|rfl|cases this
mutual
theorem V9:∀ (a b:D) (r:Bool),HU a=true->HU b=true->ltB a b=some r->r=(Dd a b==.lt)
 | .int i,b,r,_,hb,h=>by
  cases b<;>first|(cases hb;done)|(unfold ltB at h;cases h;done)|skip
  rename_i j
  unfold ltB at h
  cases h
  unfold Dd KL
  by_cases c:i<j
  ·simp [c]
  ·rw [AV c,if_neg c];split<;>rfl
 | .str i,b,r,_,hb,h=>by
  cases b<;>first|(cases hb;done)|(unfold ltB at h;cases h;done)|skip
  rename_i j
  unfold ltB at h
  cases h
  unfold Dd
  by_cases c:i.cps.toList<j.cps.toList
  ·rw [BJ c,GJ.mpr c];rfl
  ·rw [AV c]
   have:HQ i j≠.lt:=λz=>c (GJ.mp z)
   cases e:HQ i j<;>first|rfl|exact absurd e this
 | .tup xs,b,r,ha,hb,h=>by
  cases b<;>first|(cases hb;done)|(unfold ltB at h;cases h;done)|skip
  unfold ltB at h
  unfold Dd
  unfold HU at ha hb
  exact SE xs _ r ha hb h
 | .non,_,_,h,_,_=>nomatch h
 | .bl _,_,_,h,_,_=>nomatch h
 | .lst _,_,_,h,_,_=>nomatch h
 | .dct _ _,_,_,h,_,_=>nomatch h
 | .set _,_,_,h,_,_=>nomatch h
 | .ref _,_,_,h,_,_=>nomatch h
theorem SE:∀ (xs ys:List D) (r:Bool),Ja xs=true->Ja ys=true->Ik xs ys=some r->r=(G3 xs ys==.lt)
 | [],[],r,_,_,h=>by unfold Ik at h;cases h;rfl
 | [],_::_,r,_,_,h=>by unfold Ik at h;cases h;rfl
 | _::_,[],r,_,_,h=>by unfold Ik at h;cases h;rfl
 | x::xs,y::ys,r,ha,hb,h=>by
  unfold Ja at ha hb
  rw [Ab] at ha hb
  unfold Ik at h
  split at h
  ·rw [ID (NF ha.1) (NF hb.1)] at h
   unfold G3
   by_cases c:x=y
   ·rw [BJ c] at h
    subst c
    rw [TU]
    exact SE xs ys r ha.2 hb.2 (by simpa using h)
   ·rw [AV c] at h
    have e:=V9 x y r ha.1 hb.1 (by simpa using h)
    rw [e]
    cases q:Dd x y with
    | eq=>exact absurd (OS x y ha.1 hb.1 q) c
    | lt=>rfl
    | gt=>rfl
  ·cases h
end
noncomputable def leT (a b:D):Bool:=!ltT b a
noncomputable def G2 (es:List D):List D:=es.mergeSort leT
theorem RE (a b c:D)(h1:leT a b=true)(h2:leT b c=true):leT a c=true:=by
 unfold leT at *
 simp at h1 h2 ⊢
 exact TB a b c h1 h2
theorem Rx (a b:D):(leT a b||leT b a)=true:=by
 unfold leT
 cases c:ltT b a with
 | false=>rfl
 | true=>simp [QF b a c]
theorem EL (es:List D):(G2 es).Perm es:=List.mergeSort_perm es leT
theorem Nm (es:List D):(G2 es).Pairwise λa b=>leT a b=true:=List.pairwise_mergeSort RE Rx es
theorem K3 {es rs:List D}(ho:∀ d∈es,HU d=true)(hp:rs.Perm es)(hs:rs.Pairwise λa b=>leT a b=true):rs=G2 es:=by
 have hp2:=hp.trans (EL es).symm
 refine List.Perm.eq_of_pairwise (λa b ha hb h1 h2=>?_) hs (Nm es) hp2
 unfold leT at h1 h2
 simp at h1 h2
 exact lt_eq a b (ho a (hp.mem_iff.mp ha)) (ho b ((EL es).mem_iff.mp hb)) h2 h1
theorem Mb {es fs:List D}(ho:∀ d∈es,HU d=true)(hp:fs.Perm es):G2 fs=G2 es:=K3 ho ((EL fs).trans hp) (Nm fs)
section
variable {prog:Program} {w:World} {A:Around} {E:Value->Shared->Prop} {s:Shared}
theorem QN {S I:Addr}{es:Array (Int×Value)}{ep:Nat}{t:SetTable}{md:Md}{Q:PySem.Fin->Shared->Prop}(hh:A.handled=none)(hf:t.fits es.size=true)(g:SIt w S I es ep t md es.size s.heap)
  (q:∀ h' e,(∀ c o,c≠I->s.heap.get? c=some o->h'.get? c=some o)->(∃ o,h'.get? e=some o∧o.cls=.type "StopIteration")->E (.ref e) { s with heap:=h' }) :
  wpAny (model prog w) A (Builtin.«set_iterator.__next__» ⟨[.ref I],[]⟩) Q E s:=by
 obtain ⟨⟨ob,g1,g2⟩,o,v,k1,k2,k3,k4⟩:=id g
 have upd:∀ (h:Heap) f c o',c≠I->h.get? c=some o'->(h.update I f).get? c=some o':=λh f c o' hc e=>((Ay ..).2 c hc).trans e
 refine (?_:wpAny _ _ (fieldsOf (.ref I) >>= _) _ _ _)
 refine Aa (wpAny_fieldsOf k1 k3 (?_:wpAny _ _ (setEntries S >>= _) _ _ _))
 refine Aa (wpAny_setEntries_of g1 g2 hf ?_)
 rw [if_neg (by simp)]
 cases md with
 | drw TI pl =>
  obtain ⟨rfl,⟨tb,b1,b2,n,b3⟩,c1,c2⟩:=k4
  refine (?_:wpAny _ _ (seqItems? (.ref TI) >>= _) _ _ _)
  refine Aa (wpAny_seqItems b1 b3 ?_)
  have ei:(pl.map λp:Nat=>rawInt p).toArray[((es.size:Nat):Int).toNat]? = none:=by simp [c1]
  dsimp only
  rw [ei]
  obtain ⟨o',e1,e2,e3⟩:=FL (i:=0) (x:=rawInt 0) k1 k3
  refine Aa (Bu k1 k3 (by simp) (Aa (Bu e1 e3 (by simp) ?_)))
  exact HH (I:=I) hh λh' e a b=>q h' e (λc o hc z=>a c o (upd _ _ c o hc (upd _ _ c o hc z))) b
 | txt =>
  obtain ⟨bt,c,rfl⟩:=k4
  refine (?_:wpAny _ _ (setNext S ((c:Nat):Int).toNat ((es.size:Nat):Int).toNat ((ep:Nat):Int).toNat >>= _) _ _ _)
  refine Aa ?_
  unfold setNext
  refine Aa (Bs g1 g2 hf (Aa (FE ?_)))
  rw [if_pos bt]
  rw [Int.toNat_natCast,Int.toNat_natCast,Int.toNat_natCast]
  dsimp only
  rw [if_neg (by simp)]
  refine Aa ?_
  unfold setWalk
  refine Aa (Bs g1 g2 hf (Aa (FE ?_)))
  rw [if_pos bt]
  refine Aa (wpAny_askSetting (Ac (Ac ?_)))
  have hl:(pickOrder (w.params.setOrder S ep) es).size=es.size:=by
   have:=(GA (w.params.setOrder S ep) es).length_eq
   simpa using this
  have ex':Option.map (λe:Int×Value=>(e.2,c)) (pickOrder ((⟨prog,w.params⟩:Setting).params.setOrder S ep) es)[es.size]? = none:=by
   rw [BD (by rw [show (⟨prog,w.params⟩:Setting).params.setOrder S ep=w.params.setOrder S ep from rfl,hl];exact Ah _)];rfl
  refine (?_:wpAny _ _ (match Option.map (λe:Int×Value=>(e.2,c)) (pickOrder ((⟨prog,w.params⟩:Setting).params.setOrder S ep) es)[es.size]? with|some (x,next)=>_|none=>_) _ _ _)
  rw [ex']
  refine Aa (Bu k1 k3 (by simp) ?_)
  exact HH (I:=I) hh λh' e a b=>q h' e (λc o hc z=>a c o (upd _ _ c o hc z)) b
 | one =>
  obtain ⟨bt,pl,sz,led,rfl⟩:=k4
  refine (?_:wpAny _ _ (setNext S ((if es.size=0 then 0 else (t.place.getD 0 0+1):Nat):Int).toNat ((es.size:Nat):Int).toNat ((ep:Nat):Int).toNat >>= _) _ _ _)
  refine Aa ?_
  unfold setNext
  refine Aa (Bs g1 g2 hf (Aa (FE ?_)))
  rw [if_neg (by rw [bt];exact AB)]
  refine Iy (λz=>?_) λ_=>?_
  ·exfalso
   have z':(!t.plain&&decide (es.size > 1))=true:=z
   simp at z'
   omega
  refine Aa (Iy (λz=>?_) λ_=>?_)
  ·exfalso
   have z':(!t.led&&!es.isEmpty)=true:=z
   rw [led] at z'
   simp at z'
  refine Ac ?_
  have ps:t.place.size=es.size:=by
   simp only [SetTable.fits,Ab,beq_iff_eq,Ae] at hf
   exact hf.1
  have bl:SetTable.below t.place (if es.size=0 then 0 else (t.place.getD 0 0+1))=es.size:=by
   by_cases c:es.size=0
   ·rw [if_pos c,LI (by omega),c]
   ·rw [if_neg c,PN (by omega)];omega
  have en:es[es.size]? = none:=BD (Ah _)
  have hm:(match es[SetTable.below t.place ((if es.size=0 then 0 else (t.place.getD 0 0+1):Nat):Int).toNat]?,t.place[SetTable.below t.place ((if es.size=0 then 0 else (t.place.getD 0 0+1):Nat):Int).toNat]? with|some (_,x),some j=>some (x,j+1)|_,_=>none)=none:=by
   rw [Int.toNat_natCast,bl,en]
  refine (?_:wpAny _ _ (pure (match es[SetTable.below t.place ((if es.size=0 then 0 else (t.place.getD 0 0+1):Nat):Int).toNat]?,t.place[SetTable.below t.place ((if es.size=0 then 0 else (t.place.getD 0 0+1):Nat):Int).toNat]? with|some (_,x),some j=>some (x,j+1)|_,_=>none)) _ _ _)
  rw [hm]
  refine Ac (Aa (Bu k1 k3 (by simp) ?_))
  exact HH (I:=I) hh λh' e a b=>q h' e (λc o hc z=>a c o (upd _ _ c o hc z)) b
theorem SIt.ty {S I:Addr}{es:Array (Int×Value)}{ep:Nat}{t:SetTable}{md:Md}{i:Nat}(g:SIt w S I es ep t md i s.heap):s.TypeIs (.ref I) "set_iterator":=let ⟨_,o,v,k1,k2,_⟩:=g;⟨o,k1,k2⟩
noncomputable def Md.fp (S I:Addr):Md->List Addr
 | .drw TI _=>[I,S,TI]
 | _=>[I,S]
theorem KP:entryFor table "set_iterator.__iter__"=some Builtin.«dict_keyiterator.__iter__»:=
 entryFor_alias (id':="dict_keyiterator.__iter__") (by kernel_rfl) rfl (by decide +kernel) (by kernel_rfl)
theorem Ly (a:Value):argsOk "set_iterator.__iter__" ⟨[a],[]⟩:=by
 unfold argsOk;rw [signature?_of (id:="set_iterator.__iter__") (n:=['_','_','r','e','t','i','_','_']) (o:=['r','o','t','a','r','e','t','i','_','t','e','s']) (by kernel_rfl) LM];kernel_rfl
theorem Mw (hh:A.handled=none){S I:Addr}{es:Array (Int×Value)}{ep:Nat}{t:SetTable}{md:Md}(hf:t.fits es.size=true)(ne:S≠I)(ap:md.apart I) :
  Walks prog w A I (md.fp S I) [I] es.size (λi v=>(LP w S es ep md)[i]? = some v) (λi h=>SIt w S I es ep t md i h) where
 sub:=λb hb=>by rw [Al.mp hb];cases md<;>simp [Md.fp]
 frame:=λ_ h h' st hk=>by
  obtain ⟨⟨ob,g1,g2⟩,o,v,k1,k2,k3,k4⟩:=st
  refine ⟨⟨ob,hk S (by cases md<;>simp [Md.fp]) _ g1,g2⟩,o,v,hk I (by cases md<;>simp [Md.fp]) _ k1,k2,k3,?_⟩
  cases md with
  | drw TI pl=>obtain ⟨a,⟨tb,b1,b2⟩,c⟩:=k4;exact ⟨a,⟨tb,hk TI (by simp [Md.fp]) _ b1,b2⟩,c⟩
  | txt=>exact k4
  | one=>exact k4
 item:=λ_ s Q E hi st hQ=>by
  unfold pyNext
  exact Aa (wpAny_attempt (A5 (name:=Str.ofString "__next__") st.ty D5 (AY D5 st.ty HL (Rj hf ne ap st hi λv h' e g' sb=>Ac (hQ v h' s.toks e g' λb o hb z=>(sb.2 b (by simpa using hb)).trans z)) (Ia _))))
 done:=λs Q E st hQ=>by
  unfold pyNext
  refine Aa (wpAny_attempt (A5 (name:=Str.ofString "__next__") st.ty D5 (AY D5 st.ty HL (QN hh hf st λh' e a b=>?_) (Ia _))))
  obtain ⟨o,ho,hc⟩:=b
  exact Aa (wpAny_isInstance (T:="StopIteration") (b:=true) ⟨o,ho,hc⟩ isSubtype_stop (Ac (hQ h' s.toks λb o hb z=>a b o (by simpa using hb) z)))
 self:=λi s Q E st hQ=>by
  refine wpAny_pyIter_slot st.ty HW (AY HW st.ty KP ?_ (Ly _))
  refine (?_:wpAny _ _ (ret (.ref I)) _ _ s)
  exact Ac ⟨_,rfl,"set_iterator",_,st.ty,D5.lookup,hQ⟩
theorem Ld:entryFor table "set.__iter__"=some Builtin.«frozenset.__iter__»:=
 entryFor_alias (id':="frozenset.__iter__") (by kernel_rfl) (by decide +kernel) (by decide +kernel) (by kernel_rfl)
theorem PJ {S:Addr}{ob:Obj}{es:Array (Int×Value)}{ep:Nat}{t:SetTable}{Q:Value->Shared->Prop}(hz:es.size≤sizeLine)(g1:s.heap.get? S=some ob)(gc:ob.cls=.type "set")(g2:ob.data=.set es ep t)(hf:t.fits es.size=true)(hw:DY w=true∨t.led=true∧(t.plain=false∨es.size≤1))
  (q:∀ I h' d' md,s.heap.objs.size≤I->SIt w S I es ep t md 0 h'->md.apart I->(∀ b o,s.heap.get? b=some o->h'.get? b=some o)->(LP w S es ep md).Perm (es.toList.map (·.2))->(∀ b∈md.fp S I,b<h'.objs.size)->Q (.ref I) { s with heap:=h',drawn:=d' }):wpAny (model prog w) A (pyIter (.ref S)) Q E s:=by
 have ty:s.TypeIs (.ref S) "set":=⟨ob,g1,gc⟩
 refine wpAny_pyIter_slot ty F.slot_set_iter (AY F.slot_set_iter ty Ld ?_ (F.args_set_iter_1 _))
 refine (?_:wpAny _ _ (Builtin.Frozenset.sizeOf S >>= _) _ _ s)
 refine Aa (Aa (wpAny_setEntries_of g1 g2 hf (Ac ?_)))
 have lt:S<s.heap.objs.size:=Ak g1
 have fin:∀ (h1:Heap) d1 (md:Md) (v:Value),(∀ b o,s.heap.get? b=some o->h1.get? b=some o)->s.heap.objs.size≤h1.objs.size->Fst w es t h1 0 v md->(∀ TI pl,md=.drw TI pl->TI<h1.objs.size)->(LP w S es ep md).Perm (es.toList.map (·.2)) ->
   wpAny (model prog w) A.in1 (setEpoch S >>= λe=>newFields "set_iterator" [v,rawInt 0,.ref S,rawInt es.size,rawInt e] >>= λr=>ret r) (λfin s'=>∃ v,fin=.done (.ret v)∧∃ T' r,s'.TypeIs v T'∧typeLookup (.type T') "__next__"=pure (some r)∧Q v s') E { s with heap:=h1,drawn:=d1 }:=λh1 d1 md v hk hsz hF hTI hp=>by
  refine Aa (wpAny_setEpoch_of (s:={ s with heap:=h1,drawn:=d1 }) (hk _ _ g1) g2 hf (Aa ?_))
  unfold newFields
  refine AO (Ac ⟨_,rfl,"set_iterator",_,⟨_,Am _ rfl,rfl⟩,D5.lookup,?_⟩) (by size_fits)
  refine q h1.objs.size _ d1 md hsz ⟨⟨ob,Ad _ (hk _ _ g1),g2⟩,_,v,Am _ rfl,rfl,rfl,?_⟩ ?_ (λb o e=>Ad _ (hk b o e)) hp ?_
  ·cases md with
   | drw TI pl=>obtain ⟨a,⟨tb,b1,b2⟩,c⟩:=hF;exact ⟨a,⟨tb,Ad _ b1,b2⟩,c⟩
   | txt=>exact hF
   | one=>exact hF
  ·cases md with
   | drw TI pl=>exact Ar (hTI TI pl rfl)
   | txt=>exact True.intro
   | one=>exact True.intro
  ·intro b hb
   rw [Bt]
   have lS:=A0 (Aw lt hsz)
   cases md with
   | drw TI pl =>
    have:=hTI TI pl rfl
    simp only [Md.fp,An,AR,BG] at hb
    rcases hb with rfl|rfl|rfl
    ·exact AQ _
    ·exact lS
    ·exact A0 this
   | txt =>
    simp only [Md.fp,An,AR,BG] at hb
    rcases hb with rfl|rfl
    ·exact AQ _
    ·exact lS
   | one =>
    simp only [Md.fp,An,AR,BG] at hb
    rcases hb with rfl|rfl
    ·exact AQ _
    ·exact lS
 refine (?_:wpAny _ _ (setDrawn S >>= _) _ _ s)
 refine Aa ?_
 unfold setDrawn
 refine Aa (Bs g1 g2 hf (Aa (FE (Ac ?_))))
 refine Iy (λc=>?_) λc=>?_
 ·have c':(!DY w&&(!t.plain&&decide (es.size > 1)))=true:=c
  refine Aa (NM es.size (List.range es.size) (by simp) λys d' p=>?_)
  unfold newTuple
  refine Aa (AO ?_ (by
   show ((ys.map λi:Nat=>rawInt i).toArray).size≤sizeLine
   rw [Ai,Ag,p.length_eq,List.length_range];exact hz))
  have sz:(s.heap.push { cls:=.type "tuple",data:=.seq (ys.map λi:Nat=>rawInt i).toArray }).objs.size=s.heap.objs.size+1:=Bt ..
  refine fin _ d' (.drw s.heap.objs.size ys) _ (λb o e=>Ad _ e) (by rw [sz];omega) ⟨rfl,⟨_,Am _ rfl,rfl,_,rfl⟩,by rw [p.length_eq,List.length_range],λx hx=>BI.mp (p.mem_iff.mp hx)⟩ (λTI pl e=>by cases e;rw [sz];exact AQ _) ?_
  unfold LP
  have e1:(List.range es.size).map (λp=>(es.getD p (0,.none)).2)=es.toList.map (·.2):=by
   refine A9 λi=>?_
   rw [Au,Au,Az]
   by_cases hi:i<es.size
   ·simp [hi,Array.getD]
   ·simp [hi]
  rw [← e1]
  exact p.map _
 ·have c':¬ (!DY w&&(!t.plain&&decide (es.size > 1)))=true:=c
  by_cases bt:DY w=true
  ·refine fin s.heap s.drawn .txt (rawInt 0) (λ_ _ e=>e) (Ah _) ⟨bt,0,rfl⟩ (λTI pl e=>nomatch e) ?_
   exact (GA _ es).map _
  ·have bf:DY w=false:=by simpa using bt
   have hw':=hw.resolve_left bt
   have sz:es.size≤1:=by
    rw [bf] at c'
    rcases hw'.2 with z|z
    ·rw [z] at c';simp at c';omega
    ·exact z
   exact fin s.heap s.drawn .one (rawInt 0) (λ_ _ e=>e) (Ah _) ⟨bf,hw'.2,sz,hw'.1,rfl⟩ (λTI pl e=>nomatch e) (List.Perm.refl _)
theorem Pb {S:Addr}{ob:Obj}{es:Array (Int×Value)}{ep:Nat}{t:SetTable}{Q:List Value->Shared->Prop}(hh:A.handled=none)(hz:es.size≤sizeLine)(g1:s.heap.get? S=some ob)(gc:ob.cls=.type "set")(g2:ob.data=.set es ep t)(hf:t.fits es.size=true)(hw:DY w=true∨t.led=true∧(t.plain=false∨es.size≤1))
  (q:∀ zs h' tk d',zs.Perm (es.toList.map (·.2))->(∀ b o,s.heap.get? b=some o->h'.get? b=some o)->Q zs { s with heap:=h',toks:=tk,drawn:=d' }):wpAny (model prog w) A (collect (.ref S)) Q E s:=by
 have lt:S<s.heap.objs.size:=Ak g1
 have nS:s.heap.objs.size≠S:=BH lt
 unfold collect
 refine Aa (wpAny_runValue (Bj F.entry_proto_collect ?_))
 rw [Bf F.plain_proto_collect _]
 refine (?_:wpAny _ A.in1 (newList [] >>= λl=>again (.builtin "list.__iadd__" ⟨[l,.ref S],[]⟩)) _ _ s)
 refine Aa (AO (Ac ⟨plainId_quiet F.plain_list_iadd _,Bj F.entry_list_iadd ?_⟩))
 rw [Bf F.plain_list_iadd _]
 refine (?_:wpAny _ A.in1 (Builtin.List.listExtendWith (.ref s.heap.objs.size) (.ref S) (.ref s.heap.objs.size)) _ _ _)
 (unfold Builtin.List.listExtendWith)
 have gS:(s.heap.push { cls:=.type "list",data:=.seq ([]:List Value).toArray }).get? S=some ob:=Ad _ g1
 have gL:(s.heap.push { cls:=.type "list",data:=.seq ([]:List Value).toArray }).get? s.heap.objs.size=some { cls:=.type "list",data:=.seq ([]:List Value).toArray }:=Am _ rfl
 generalize hP:s.heap.push { cls:=.type "list",data:=.seq ([]:List Value).toArray }=h1 at gS gL ⊢
 have k1:∀ b o,s.heap.get? b=some o->h1.get? b=some o:=λb o e=>by rw [← hP];exact Ad _ e
 have sz1:h1.objs.size=s.heap.objs.size+1:=by rw [← hP];exact Bt ..
 have ty:Shared.TypeIs { s with heap:=h1 } (.ref S) "set":=⟨ob,gS,gc⟩
 refine Aa (BB ty ?_)
 have e1:Builtin.List.listSameRef (.ref s.heap.objs.size) (.ref S)=false:=by simp [Builtin.List.listSameRef,nS]
 have e2:(Value.type "set"==Value.type "list")=false:=by decide
 have e3:(Value.type "set"==Value.type "tuple")=false:=by decide
 simp only [e1,e2,e3,Bool.or_false,AH,A4]
 refine Aa (PJ (s:={ s with heap:=h1 }) hz gS gc g2 hf hw λI h2 d2 md hI st ap k2 pm fpl=>?_)
 refine Aa (AG ?_)
 have ty2:Shared.TypeIs { s with heap:=h2,drawn:=d2 } (.ref S) "set":=⟨ob,k2 _ _ gS,gc⟩
 (unfold Builtin.List.listLengthHint)
 refine Aa (wpAny_specialOf ty2 F.slot_set_len.lookup ?_)
 refine (?_:wpAny _ A.in1 (isInstance (Value.ref S) (.type "set") >>= _) _ _ _)
 refine Aa (wpAny_isInstance ty2 sub_set_self ?_)
 refine (?_:wpAny _ A.in1 (typeOf (Value.ref S) >>= _) _ _ _)
 refine Aa (BB ty2 (Ac ?_))
 refine (?_:wpAny _ A.in1 (rule "list.extend.makes-room" >>= λ_=>Builtin.List.listTouch (.ref s.heap.objs.size) >>= λ_=>again (.builtin "list.extend.loop" ⟨[.ref s.heap.objs.size,.ref I,.ref s.heap.objs.size],[]⟩)) _ _ _)
 refine Aa (Bh (Aa ?_))
 refine (?_:wpAny _ A.in1 (updateSeq s.heap.objs.size (·.push .none) >>= λ_=>updateSeq s.heap.objs.size (·.pop)) _ _ _)
 have gL2:=k2 _ _ gL
 refine Aa (wpAny_updateSeq gL2 rfl ?_)
 have gL3:=AN (Obj.mapSeq (·.push Value.none)) gL2 rfl
 refine wpAny_updateSeq gL3 rfl ?_
 have gL4:=AN (Obj.mapSeq (·.pop)) gL3 rfl
 have nL:s.heap.objs.size∉md.fp S I:=by
  have nI:s.heap.objs.size≠I:=λe=>by
   have:s.heap.objs.size+1≤I:=by rw [← sz1];exact hI
   rw [← e] at this
   exact absurd this (Nat.not_succ_le_self _)
  cases md with
  | drw TI pl =>
   obtain ⟨_,o,v,_,_,_,_,⟨tb,b1,b2,_⟩,_⟩:=st
   have nT:s.heap.objs.size≠TI:=λe=>by
    rw [← e,gL2] at b1
    cases b1
    exact absurd b2 (by decide)
   simp only [Md.fp,An,AR,BG,not_or]
   exact ⟨nI,nS,nT⟩
  | txt=>simp only [Md.fp,An,AR,BG,not_or];exact ⟨nI,nS⟩
  | one=>simp only [Md.fp,An,AR,BG,not_or];exact ⟨nI,nS⟩
 have oth:∀ b o,b≠s.heap.objs.size->h2.get? b=some o->((h2.update s.heap.objs.size (Obj.mapSeq (·.push Value.none))).update s.heap.objs.size (Obj.mapSeq (·.pop))).get? b=some o:=
  λb o hb e=>(BC _ _ (Ne.symm hb)).trans ((BC _ _ (Ne.symm hb)).trans e)
 have nSI:S≠I:=λe=>by
  have a:s.heap.objs.size+1≤I:=by rw [← sz1];exact hI
  rw [← e] at a
  exact absurd (Aw lt (AK (Bc _) a)) (A6 _)
 have W:=(Mw (prog:=prog) (A:=A.in1) (w:=w) (ep:=ep) hh hf nSI ap).toS
 refine Ac ⟨plainId_quiet F.plain_extend_loop _,codeAny_extend_loopS (A:=A) W hz _ nL _ es.size 0 _ _ _ rfl (A3 _) ?_ gL4 (ItemsOf.nil _) λs' acc' c' hm hS' hacc=>?_⟩
 ·exact (Mw (prog:=prog) (A:=A.in1) (w:=w) (ep:=ep) hh hf nSI ap).frame 0 _ _ st λb hb o e=>oth b o (λz=>nL (z▸hb)) e
 refine (?_:wpAny _ A (load s.heap.objs.size >>= _) _ _ s')
 refine Aa (wpAny_load hS' ?_)
 obtain ⟨zh,zg,zd,zt,zo⟩:=s'
 have e4:zg=s.gens:=hm.gens
 have e5:zd=d2:=hm.drawn
 have e6:zo=s.os:=hm.os
 subst e4 e5 e6
 refine Ac (q acc'.toList zh zt zd ?_ λb o e=>?_)
 ·have ln:(LP w S es ep md).length=es.size:=by rw [pm.length_eq];simp
  have:acc'.toList=LP w S es ep md:=by
   refine A9 λi=>?_
   by_cases hi:i<es.size
   ·have hi':i<acc'.size:=by rw [hacc.1];exact hi
    rw [Az,AD hi']
    exact (hacc.2 i _ (AD hi')).symm
   ·rw [Az,BD (by rw [hacc.1];omega),List.getElem?_eq_none (by rw [ln];omega)]
  rw [this]
  exact pm
 ·have bl:=Ak e
  refine hm.heap b o ?_ (oth b o (Ar bl) (k2 _ _ (k1 _ _ e)))
  simp only [An,AR,BG,not_or]
  refine ⟨Ar bl,λz=>?_⟩
  have a:s.heap.objs.size+1≤I:=by rw [← sz1];exact hI
  rw [← z] at a
  exact absurd (Aw bl (AK (Bc _) a)) (A6 _)
noncomputable def Jr (prog:Program)(w:World)(A:Around)(zs out:List Value)(s:Shared):Prop:=∀ (h1:Heap) (a:Addr) (P:PySem.Fin->Shared->Prop) (E':Value->Shared->Prop),(∀ b o,s.heap.get? b=some o->h1.get? b=some o)->s.heap.get? a=none->h1.get? a=some (seqObj "list" zs.toArray 0) ->
 P (.done (.ret .none)) { s with heap:=sortedHeap h1 a zs out.toArray }->wpAny (model prog w) A (Builtin.«list.sort» ⟨[.ref a],[]⟩) P E' { s with heap:=h1 }
theorem Mm {x:Value}{Q:Value->Shared->Prop}(hcol:wpAny (model prog w) A.in1 (collect x) (λzs s1=>zs.length≤sizeLine∧∃ out,Jr prog w A.in1.in1 zs out s1∧∀ h' e a,(∀ b o,s1.heap.get? b=some o->h'.get? b=some o)->s1.heap.objs.size≤a->h'.get? a=some (seqObj "list" out.toArray e)->Q (.ref a) { s1 with heap:=h' }) E s) :
  wpAny (model prog w) A (call (.builtin "sorted") [x]) Q E s:=by
 (refine Calls.call_function_entry kind_sorted plain_sorted entry_sorted (args_sorted1 _) ?_)
 unfold Builtin.«sorted»
 refine Aa (m:=checkCount "sorted" 1 1 _) (Ac (Aa (BQ hcol (λzs s1 hq=>?_) λ_ _ z=>z)))
 obtain ⟨hz,out,hs,q⟩:=hq
 refine Aa (wpAny_newList ?_ hz)
 have g1:(s1.heap.push (seqObj "list" zs.toArray 0)).get? s1.heap.objs.size=some (seqObj "list" zs.toArray 0):=Am _ rfl
 have fr:s1.heap.get? s1.heap.objs.size=none:=Heap.get?_none_of_le (Ah _)
 refine Aa (AG (AY slot_list_sort ⟨_,g1,rfl⟩ entry_list_sort (hs (s1.heap.push (seqObj "list" zs.toArray 0)) _ _ _ (λb o e=>Ad _ e) fr g1 ⟨_,rfl,Ac ⟨_,rfl,?_⟩⟩) (args_list_sort _)))
 obtain ⟨e,he⟩:=sortedHeap_at (out:=out.toArray) g1
 refine q _ e _ (λb o z=>?_) (Ah _) he
 have lb:=Ak z
 rw [sortedHeap_old (Ar lb) (by rw [size_push'];exact A0 lb)]
 exact Ad _ z
end
noncomputable def WI:D->Bool
 | .str _=>true
 | _=>false
noncomputable def OA (es:List D):Bool:=es.all λa=>es.all λb=>(ltB a b).isSome
noncomputable def Ga (es:List D):Bool:=decide (es.length<64)&&es.all HU&&OA es&&(es.all WI||es.all tupS)
section
variable {X:Cx} {K:Zc} {th:List Addr} {mu:Sto} {H:Hp} {pins:List (Addr×Obj)} {st:L2.St} {s:Shared}
theorem UU {es:List D}(ho:es.all HU=true)(hc:OA es=true):Pre es.length (QO es) λi j=>ltT (es.getD i .non) (es.getD j .non):=by
 have gd:∀ i,i<es.length->es.getD i .non=es[i]?.getD .non∧∃ d,es[i]? = some d∧es.getD i .non=d∧d∈es:=λi hi=>by
  rw [AF]
  exact ⟨rfl,es[i],As hi,by rw [As hi];rfl,BW hi⟩
 rw [Ao] at ho
 unfold OA at hc
 rw [Ao] at hc
 refine ⟨λi j hi hj=>?_,λi j hi hj h=>QF _ _ h,λi j k hi hj hk h1 h2=>TB _ _ _ h1 h2⟩
 obtain ⟨_,d,e1,e2,e3⟩:=gd i hi
 obtain ⟨_,d',f1,f2,f3⟩:=gd j hj
 unfold QO
 rw [e1,f1,e2,f2]
 have:=hc d e3
 rw [Ao] at this
 obtain ⟨r,hr⟩:=Option.isSome_iff_exists.mp (this d' f3)
 dsimp only
 rw [hr,V9 d d' r (ho d e3) (ho d' f3) hr]
 rfl
theorem VJ (I:L2.Inv X pins st H s){es:List D}{vs:List V}{us:List Value}(hd:es.all WI=true)(r:RepL X.z th H es vs)(q:Vals vs us){A:Around} :
  ∀ i j b C,QO es i j=some b->C b s->PySem.W.kas_ask X.prog X.w A oneType' us i j C s:=λi j b C e hC=>by
 rw [Ao] at hd
 unfold QO at e
 cases e1:es[i]? with
 | none=>rw [e1] at e;cases e
 | some d =>
  cases e2:es[j]? with
  | none=>rw [e1,e2] at e;cases e
  | some d' =>
   rw [e1,e2] at e
   have s1:=hd d (Ap e1)
   have s2:=hd d' (Ap e2)
   cases d<;>first|(cases s1;done)|skip
   cases d'<;>first|(cases s2;done)|skip
   rename_i x y
   unfold ltB at e
   cases e
   obtain ⟨v,v1,v2⟩:=r.get e1
   obtain ⟨v',v1',v2'⟩:=r.get e2
   obtain ⟨u,u1,u2⟩:=q.get v1
   obtain ⟨u',u1',u2'⟩:=q.get v1'
   obtain ⟨rfl,_⟩:=(show _∧_ from v2)
   obtain ⟨rfl,_⟩:=(show _∧_ from v2')
   obtain ⟨t,rfl⟩:=u2
   obtain ⟨t',rfl⟩:=u2'
   unfold PySem.W.kas_ask
   rw [AF,AF,u1,u1']
   exact PySem.W.kas_lt_str hC
theorem RL {es:List D}{vs:List V}{us:List Value}(hd:es.all WI=true)(r:RepL X.z th H es vs)(q:Vals vs us):∃ ss,StrsAre us ss:=by
 refine ⟨_,strsAre_map us λu hu=>?_⟩
 obtain ⟨i,ei⟩:=A7.mp hu
 have hi:i<es.length:=by
  have:=(Af.mp ei).1
  rw [← q.length,r.len] at this
  exact this
 rw [Ao] at hd
 obtain ⟨v,v1,v2⟩:=r.get (As hi)
 have hs:=hd _ (BW hi)
 obtain ⟨u',u1,u2⟩:=q.get v1
 rw [ei] at u1
 cases u1
 cases e:es[i]<;>rw [e] at hs v2<;>first|(cases hs;done)|skip
 obtain ⟨rfl,_⟩:=(show _∧_ from v2)
 obtain ⟨t,rfl⟩:=u2
 exact ⟨_,t,rfl⟩
theorem sorts (hu:X.A.units+64<cLine)(I:L2.Inv X pins st H s){es:List D}{vs:List V}{zs:List Value}(h2:RepL X.z th H es vs)(rv:Vals vs zs)(ok:Ga es=true) :
  ∃ ws out,RepL X.z th H (G2 es) ws∧Vals ws out∧Jr X.prog X.w X.A.in1.in1 zs out s:=by
 unfold Ga at ok
 rw [Ab,Ab,Ab,Ae,Bool.or_eq_true] at ok
 obtain ⟨⟨⟨c64,ho⟩,hc⟩,hk⟩:=ok
 have ho':∀ d∈es,HU d=true:=by rw [Ao] at ho;exact ho
 have lz:zs.length=es.length:=by rw [← rv.length,h2.len]
 by_cases c2:es.length<2
 ·have:G2 es=es:=by
   refine (K3 ho' (List.Perm.refl _) ?_).symm
   match es,c2 with
   | [],_=>exact .nil
   | [_],_=>exact List.pairwise_singleton _ _
   | _::_::_,c2=>exact absurd c2 (by simp only [List.length_cons];omega)
  rw [this]
  exact ⟨vs,zs,h2,rv,λh1 a P E' hk fr hl hP=>SR hl (by rw [lz];exact c2) hP⟩
 ·obtain ⟨p,p1,pm,up⟩:=UY (UU ho hc) (by omega)
  have pl:p.size=es.length:=by rw [← Array.length_toList,pm.length_eq,List.length_range]
  have inn:∀ i∈p.toList,i<es.length:=λi hi=>BI.mp (pm.mem_iff.mp hi)
  have es_eq:p.toList.map (λi=>es.getD i .non)=G2 es:=by
   refine K3 ho' ?_ ?_
   ·refine (pm.map _).trans ?_
    have:(List.range es.length).map (λi=>es.getD i .non)=es:=by
     refine A9 λi=>?_
     rw [Au]
     by_cases hi:i<es.length
     ·simp [hi]
     ·simp [hi]
    rw [this]
   ·rw [List.pairwise_iff_getElem]
    intro i j hi hj hij
    rw [Ag,Array.length_toList,pl] at hi hj
    have:=up i j (Nat.le_of_lt hij) hj
    rw [RZ (by omega),RZ (by omega)] at this
    dsimp only at this
    unfold leT
    simp only [List.getElem_map,Array.getElem_toList]
    rw [this]
    rfl
  refine ⟨p.toList.map λi=>vs.getD i .non,p.toList.map λi=>zs.getD i Value.none,?_,?_,λh1 a P E' hk1 fr hl hP=>?_⟩
  ·rw [← es_eq]
   exact RepL.pick (ds:=es) (vs:=vs) _ _ _ λi hi=>by
    have hi':=inn i hi
    obtain ⟨v,ev,rv'⟩:=h2.get (show es[i]? = some es[i] by simp [hi'])
    rw [AF,AF,ev,show es[i]? = some es[i] by simp [hi']]
    exact rv'
  ·exact Vals.pick rv _ _ _ λi hi=>by
    have hi':=inn i hi
    obtain ⟨v,ev,_⟩:=h2.get (show es[i]? = some es[i] by simp [hi'])
    obtain ⟨u,eu,ru⟩:=rv.get ev
    rw [AF,AF,ev,eu]
    exact ru
  ·have I6:L2.Inv X pins st H { s with heap:=((h1.update a (Obj.mapSeq λ_=>#[])).push (seqObj "tuple" zs.toArray 0)).push (seqObj "list" #[] 0) }:=I.kept (t':=s.toks) λb o q=>by
    refine Ad _ (Ad _ ?_)
    rw [Heap.get?_update_ne _ _ _ _ (λz=>by rw [z,fr] at q;cases q)]
    exact hk1 b o q
   rcases hk with hk|hk
   ·obtain ⟨ss,hS⟩:=RL hk h2 rv
    refine Qe (kd:=oneType') p (by rw [lz];exact pl) hl (by rw [lz];omega) (by rw [lz];exact c64) (λQ' E2 hq=>?_) (λG hG=>?_) hP
    ·match zs,hS,lz with
     | [],_,lz=>simp at lz;omega
     | [_],_,lz=>simp at lz;omega
     | v1::v2::r,hS,_=>rw [keyKind_strs hS];exact Ac hq
    ·rw [lz]
     exact Kb (λi j b C ea hC=>VJ I6 hk h2 rv i j b C ea hC) _ p G p1 hG
   ·obtain ⟨fs,f1,f2,f3⟩:=LK I6 hk h2 rv
    refine Qe (kd:=tuples' true) p (by rw [lz];exact pl) hl (by rw [lz];omega) (by rw [lz];exact c64) (λQ' E2 hq=>PySem.W.kat_kind f1 (by rw [f2];omega) (T:=.type "str") (λv hv=>?_) rfl hq) (λG hG=>?_) hP
    ·obtain ⟨x,tk,rfl⟩:=f3 v hv
     exact λA Q E s _ hq=>BB (typeIs_str s x tk) hq
    ·rw [lz]
     exact Kb (λi j b C ea hC=>W9 I6 hk h2 rv (A:=X.A.in1.in1) (by show X.A.units+1+1+60<cLine;omega) i j b C ea hC) _ p G p1 hG
end
theorem Vq (t:SetTable)(es:Array (Int×Value))(h:Int)(x:Value):(layNew t es h x).2.1.led=t.led∧((layNew t es h x).2.1.plain=t.plain∨(layNew t es h x).2.1.plain=false):=by
 unfold layNew
 split
 ·dsimp only
  unfold SetTable.orStandIn
  split
  ·exact ⟨rfl,.inl rfl⟩
  ·exact ⟨rfl,.inr rfl⟩
 ·exact ⟨rfl,.inr rfl⟩
theorem Sf {mask finger moves:Nat}{led plain:Bool}{hs:Array Int}{r:SetTable×Array Nat}(h:SetTable.laid mask finger moves led plain hs=some r):r.1.led=led∧r.1.plain=plain:=by
 unfold SetTable.laid at h
 cases e:SetTable.layClean mask hs with
 | none=>rw [e] at h;cases h
 | some o=>rw [e] at h;cases h;exact ⟨rfl,rfl⟩
theorem Rg (t:SetTable)(es:Array (Int×Value))(n:Nat):(relayAll t es n).2.1.led=t.led∧((relayAll t es n).2.1.plain=t.plain∨(relayAll t es n).2.1.plain=false):=by
 unfold relayAll
 split
 ·rename_i t' order e
  have:=Sf e
  dsimp only at this ⊢
  split
  ·exact ⟨this.1,.inl this.2⟩
  ·exact ⟨rfl,.inr rfl⟩
 ·exact ⟨rfl,.inr rfl⟩
noncomputable def EnS (w:World)(e:Int×Value)(x:Str):Prop:=e.1=hashStr w x∧∃ t,e.2=.str x t
noncomputable def MP (w:World)(S:Addr)(ls:List Str)(led:Bool)(h:Heap):Prop:=∃ o es ep t,h.get? S=some o∧o.ExactSet∧o.data=.set es ep t∧t.fits es.size=true∧t.led=led∧(t.plain=false∨es.size=0)∧∃ ss:List Str,ss.Perm ls∧Paired (EnS w) es.toList ss
theorem Ma {α β:Type}{F:α->β->Prop}:∀ {xs xs':List α},xs.Perm xs'->∀ {ys:List β},Paired F xs' ys->∃ ys',ys'.Perm ys∧Paired F xs ys':=by
 intro xs xs' p
 induction p with
 | nil=>intro ys h;cases h;exact ⟨[],.nil,.nil⟩
 | cons x p ih =>
  intro ys h
  cases h with
  | cons r t =>
   obtain ⟨ys',a,b⟩:=ih t
   exact ⟨_,a.cons _,.cons r b⟩
 | swap x y l =>
  intro ys h
  cases h with
  | cons r t =>
   cases t with
   | cons r' t=>exact ⟨_,List.Perm.swap _ _ _,.cons r' (.cons r t)⟩
 | trans p q ih1 ih2 =>
  intro ys h
  obtain ⟨ys',a,b⟩:=ih2 h
  obtain ⟨ys2,c,d⟩:=ih1 b
  exact ⟨ys2,c.trans a,d⟩
section
variable {prog:Program} {w:World} {A:Around} {E:Value->Shared->Prop} {s:Shared}
theorem Yp {es:List (Int×Value)}{ss:List Str}(h:Paired (EnS w) es ss):ElemsOf (PySem.strKind prog w) es:=by
 induction h with
 | nil=>intro e he;cases he
 | cons r t ih =>
  obtain ⟨r1,tk,r2⟩:=r
  intro e he
  rcases An.mp he with rfl|he
  ·refine ⟨⟨_,?_,r1⟩,by rw [r2];rfl⟩
   rw [r2]
   simp [PySem.strKind,Value.isStrOf]
  ·exact ih e he
noncomputable def Hy (r:List Str)(v:Str):List Str:=if v∈r then r else r++[v]
theorem Tw {S:Addr}{ls:List Str}{led:Bool}{x:Str}{t:Tok}{Q:Bool->Shared->Prop}(hS:MP w S ls led s.heap)(hz:ls.length+1<scanBound)
  (q:∀ h' b tk,Heap.SameBut S s.heap h'->MP w S (Hy ls x) led h'->s.toks≤tk->Q b { s with heap:=h',toks:=tk }):wpAny (model prog w) A (setAdd S (.str x t)) Q E s:=by
 obtain ⟨o,es,ep,tb,ho,hex,hd,hf,hl,hp,ss,pm,pr⟩:=hS
 have sz:es.size=ls.length:=by rw [← pm.length_eq,← Dn pr,Array.length_toList]
 have hb:es.size+1<scanBound:=by omega
 have key:(PySem.strKind prog w).is x (.str x t)=true:=by simp [PySem.strKind,Value.isStrOf]
 have hel:ElemsOf (PySem.strKind prog w) es.toList:=Yp pr
 have his:∀ (j:Nat) e,es.toList[j]? = some e->((PySem.strKind prog w).is x e.2=true ↔ ss[j]? = some x):=λj e ej=>by
  obtain ⟨y,y1,y2,tk,y3⟩:=(DN pr j).1 e ej
  rw [y1,y3]
  simp only [PySem.strKind,Value.isStrOf,Option.some.injEq]
  constructor
  ·intro z;simpa using z
  ·intro z;simpa using z
 unfold setAdd
 refine AG (Aa ((PySem.strKind prog w).pyHash (k:=x) key ?_))
 (unfold setAddHashed setAddHashedIn)
 refine AG (Aa (Bs (s:={ s with toks:=s.toks+1 }) ho hd hf ?_))
 dsimp only
 rw [byScan_of (knd:=PySem.strKind prog w) (by rfl) (by omega) hel]
 simp only [↓reduceIte]
 unfold setAddByScan
 refine Aa (Aa (Bh (Aa (wpAny_setScan_of (knd:=PySem.strKind prog w) (s:={ s with toks:=s.toks+1 }) key ho hd hf hel ?_))))
 cases hr:es.toList.findIdx? (λe=>(PySem.strKind prog w).is x e.2) with
 | some j =>
  obtain ⟨hj,hpj,_⟩:=List.findIdx?_eq_some_iff_getElem.mp hr
  have mem:x∈ls:=pm.mem_iff.mp (Ap ((his j _ (As hj)).mp hpj))
  refine Ac (Ac (q s.heap _ _ (Heap.SameBut.refl _ _) ?_ (Bc _)))
  unfold Hy
  rw [if_pos mem]
  exact ⟨o,es,ep,tb,ho,hex,hd,hf,hl,hp,ss,pm,pr⟩
 | none =>
  have nmem:x∉ls:=λz=>by
   obtain ⟨j,ej⟩:=A7.mp (pm.mem_iff.mpr z)
   obtain ⟨e,e1,_⟩:=(DN pr j).2 x ej
   have:=List.findIdx?_eq_none_iff.mp hr e (Ap e1)
   rw [(his j e e1).mpr ej] at this
   cases this
  dsimp only
  have L1:=layNew_perm tb es ((PySem.strKind prog w).hash x) (.str x t)
  have L2':=layNew_fits tb es ((PySem.strKind prog w).hash x) (.str x t)
  have L3:=Vq tb es ((PySem.strKind prog w).hash x) (.str x t)
  generalize layNew tb es ((PySem.strKind prog w).hash x) (.str x t)=L at L1 L2' L3 ⊢
  obtain ⟨es1,t1,wasDummy,gave⟩:=L
  dsimp only at L1 L2' L3 ⊢
  rw [BM] at L1
  obtain ⟨ss1,pm1,pr1⟩:=Ma L1 (G1 pr (.cons (show EnS w ((PySem.strKind prog w).hash x,Value.str x t) x from ⟨rfl,t,rfl⟩) .nil))
  have al:Hy ls x=ls++[x]:=by unfold Hy;rw [if_neg nmem]
  have pm2:ss1.Perm (Hy ls x):=by rw [al];exact pm1.trans (pm.append (List.Perm.refl _))
  have sz1:es1.size=ls.length+1:=by rw [← Array.length_toList,Dn pr1,pm2.length_eq,al];simp
  have hz1:es1.size≤sizeLine:=fits_of_scanBound (by omega)
  have gw:∀ (b:Bool) {s1:Shared} {Q':Unit->Shared->Prop},Q' () s1->wpAny (model prog w) A (match b with|true=>rule "set.scan.the-table-gave-way"|false=>pure ()) Q' E s1:=λb s1 Q' hq=>by
   cases b
   ·exact Ac hq
   ·exact Bh hq
  refine Aa (gw gave ?_)
  have go:∀ t2:SetTable,t2.fits es1.size=true->t2.led=led->t2.plain=false->wpAny (model prog w) A (do
    storeSet S es1 t2
    if (!wasDummy&&t2.tooFull)=true then do
      (match (relayAll t2 es1 (SetTable.grown es1.size)).2.2 with|true=>rule "set.scan.the-table-gave-way"|false=>pure ())
      storeSet S (relayAll t2 es1 (SetTable.grown es1.size)).1 (relayAll t2 es1 (SetTable.grown es1.size)).2.1
      pure (some true)
     else pure (some true)) (λr s'=>wpAny (model prog w) A (match r with|some added=>pure added|none=>setAddHashedIn S (.str x t) ((PySem.strKind prog w).hash x) 99999) Q E s') E { s with toks:=s.toks+1 }:=λt2 f2 l2 p2=>by
   refine Aa (wpAny_storeSet_of (s:={ s with toks:=s.toks+1 }) ho hd ?_ hz1)
   have ho1:(s.heap.update S (Obj.putSet es1 t2)).get? S=some { o with data:=.set es1 (ep+1) t2 }:=by
    have:=AN (Obj.putSet es1 t2) ho (by rw [putSet_of es1 t2 hd];rfl)
    rw [putSet_of es1 t2 hd] at this
    exact this
   refine Iy (λ_=>?_) λ_=>?_
   ·have R1:=relayAll_perm t2 es1 (SetTable.grown es1.size)
    have R2:=relayAll_fits t2 es1 (SetTable.grown es1.size)
    have R3:=Rg t2 es1 (SetTable.grown es1.size)
    generalize relayAll t2 es1 (SetTable.grown es1.size)=R at R1 R2 R3 ⊢
    obtain ⟨es2,t3,g2⟩:=R
    dsimp only at R1 R2 R3 ⊢
    obtain ⟨ss2,pm3,pr3⟩:=Ma R1 pr1
    have sz2:es2.size=es1.size:=by rw [← Array.length_toList,R1.length_eq,Array.length_toList]
    refine Aa (gw g2 (Aa (wpAny_storeSet_of ho1 rfl (Ac ?_) (by rw [sz2];exact hz1))))
    refine Ac (q _ _ _ ((Ay ..).trans (Ay ..)) ?_ (Bc _))
    have ho2:=AN (Obj.putSet es2 t3) ho1 (by rw [putSet_of es2 t3 rfl];rfl)
    rw [putSet_of es2 t3 rfl] at ho2
    exact ⟨_,es2,_,t3,ho2,hex,rfl,R2,R3.1.trans l2,.inl (R3.2.elim (λz=>z.trans p2) id),ss2,pm3.trans pm2,pr3⟩
   ·refine Ac (Ac (q _ _ _ (Ay ..) ?_ (Bc _)))
    exact ⟨_,es1,_,t2,ho1,hex,rfl,f2,l2,.inl p2,ss1,pm2,pr1⟩
  refine Iy (λc=>?_) λc=>?_
  ·refine Aa ?_
   rw [hashByValue_scannable 8 (by rfl)]
   refine Ac ?_
   refine go { t1 with plain:=false } (SetTable.fits_plain_off L2') (L3.1.trans hl) rfl
  ·refine Aa (Ac ?_)
   have c':t1.plain=false:=by simpa using c
   exact go t1 L2' (L3.1.trans hl) c'
theorem TV (a:Value){Q1:Value->Shared->Prop}(h:Q1 (.ref s.heap.objs.size) { s with heap:=s.heap.push { cls:=.type "set",dict:=none,data:=.set #[] 0 (.fresh 0 0 (!DY w)) } }) :
  codeAny (model prog w) A (.call (.builtin "set.__new__") ⟨[.type "set",a],[]⟩) (wants Q1 E) s:=by
 refine codeAny_of_tree (?_:wpAny _ A.in1 (do checkBuiltinCall "set.__new__" ⟨[.type "set",a],[]⟩;again (.builtin "set.__new__" ⟨[.type "set",a],[]⟩)) _ _ s)
 refine Aa (wpAny_of_eq (F.newCall_set_1 a) (Ac ⟨plainId_quiet F.plain_set_new _,Bj F.entry_set_new ?_⟩))
 rw [Bf F.plain_set_new _]
 (unfold Builtin.«set.__new__» Builtin.Frozenset.newClass)
 have hsub:=sub_set_self
 obtain ⟨hp,g,d,tk,os⟩:=s
 dsimp only
 wp_walk
 refine wpAny_askSetting (Ac ?_)
 dsimp only
 simp only [newObj]
 exact Aa (wpAny_alloc (Ac (Ac h)))
noncomputable def YieldsV (prog:Program)(w:World)(A:Around)(E:Value->Shared->Prop)(h:Heap)(l:Addr)(us:List Value):Prop:=
 ∀ (s1:Shared) (A':Around) (R:Value->Shared->Prop),A'.handled=A.handled->(∀ b o,h.get? b=some o->s1.heap.get? b=some o) ->
  (∀ (I:Addr) (fp:List Addr) (h2:Heap) (d2:Drawn) (P:Nat->Value->Prop) (St:Nat->Heap->Prop),s1.heap.objs.size≤I->(∀ b∈fp,b<h2.objs.size)->(∀ b∈fp,s1.heap.objs.size≤b∨∃ o,h.get? b=some o)->(∀ A2:Around,A2.handled=A.handled->Walks prog w A2 I fp [I] us.length P St)->St 0 h2 ->
   (∀ b o,s1.heap.get? b=some o->h2.get? b=some o)->(∀ i v,P i v->us[i]? = some v)->R (.ref I) { s1 with heap:=h2,drawn:=d2 })->wpAny (model prog w) A' (pyIter (.ref l)) R E s1
theorem Q4 {I:Addr}{fp:List Addr}{n:Nat}{P:Nat->Value->Prop}{St:Nat->Heap->Prop}{R:Result->Shared->Prop}(W:Walks prog w A.in1 I fp [I] n P St)(S:Addr)(hSf:S∉fp){led:Bool}{ss:List Str}(hl:ss.length=n)(hval:∀ i v,P i v->∃ x t,ss[i]? = some x∧v=.str x t)(hb:n+1<scanBound)(k:Nat) :
  ∀ (i:Nat) (s:Shared) (ls:List Str),i+k=n->ls.length≤i->St i s.heap->MP w S ls led s.heap->(∀ h' tk,(∀ b o,b≠S->b≠I->s.heap.get? b=some o->h'.get? b=some o)->MP w S ((ss.drop i).foldl Hy ls) led h'->R (.ok (.ret .none)) { s with heap:=h',toks:=tk }) ->
   codeAny (model prog w) A (Code.builtin "set.update.loop" ⟨[.ref S,.ref I],[]⟩) R s:=by
 have nI:I∈fp:=W.sub _ (by simp)
 have nS:S≠I:=λz=>hSf (z▸nI)
 have keepS:∀ {h h':Heap} {ls:List Str},(∀ b o,b∉[I]->h.get? b=some o->h'.get? b=some o)->MP w S ls led h->MP w S ls led h':=λk ⟨o,es,ep,t,ho,r⟩=>⟨o,es,ep,t,k S o (by simpa using nS) ho,r⟩
 induction k with
 | zero =>
  intro i s ls e lsl st hS hR
  obtain rfl:i=n:=by omega
  refine Bj PyProof.Rows.F.entry_set_update_loop ?_
  rw [Bf BV _]
  refine Aa (m:=pyNext (.ref I)) (W.done s _ _ st λh1 tk1 k1=>Ac (a:=Fin.done (.ret Value.none)) (hR h1 tk1 (λb o _ hb z=>k1 b o (by simpa using hb) z) ?_))
  rw [List.drop_eq_nil_of_le (by omega)]
  exact keepS k1 hS
 | succ k ih =>
  intro i s ls e lsl st hS hR
  have lt:i<n:=by omega
  refine Bj PyProof.Rows.F.entry_set_update_loop ?_
  rw [Bf BV _]
  refine Aa (m:=pyNext (.ref I)) (W.item i s _ _ lt st λv h1 tk1 hP st1 k1=>?_)
  obtain ⟨x,t,ex,ev⟩:=hval i v hP
  subst ev
  refine Aa (m:=holding [Value.str x t] (setAdd S (.str x t))) (AG (Tw (s:={ s with heap:=h1,toks:=tk1 }) (keepS k1 hS) (by omega) λh2 _ tk2 sb hS2 _=>?_))
  have dr:ss.drop i=x::ss.drop (i+1):=by
   have hi:i<ss.length:=by omega
   rw [BF hi]
   rw [As hi] at ex
   rw [AJ ex]
  have al:(Hy ls x).length≤i+1:=by
   unfold Hy
   split
   ·omega
   ·rw [Aq,List.length_singleton];omega
  refine Ac (And.intro (plainId_quiet BV _) (ih (i+1) _ (Hy ls x) (by omega) al (W.frame _ h1 _ st1 λb hb o z=>?_) hS2 λh3 tk3 k3 hS3=>hR h3 tk3 (λb o b1 b2 z=>?_) ?_))
  ·exact (sb.2 b λq:b=S=>hSf (q▸hb)).trans z
  ·exact k3 b o b1 b2 ((sb.2 b b1).trans (k1 b o (by simpa using b2) z))
  ·rw [dr]
   exact hS3
set_option maxHeartbeats 4000000 in
theorem Qq {l:Addr}{ol:Obj}{T:String}{us:List Value}{ss:List Str}{Q:Value->Shared->Prop}
  (hol:s.heap.get? l=some ol) (hcl:ol.cls=.type T) (t1:isSubtype (.type T) (.type "set")=pure false) (t2:isSubtype (.type T) (.type "frozenset")=pure false) (t3:(Value.type T==Value.type "dict")=false)
  (hb:us.length+1<scanBound) (hss:Paired (λ(u:Value) (x:Str)=>∃ t,u=.str x t) us ss) (hit:YieldsV prog w A E s.heap l us)
  (h:∀ (h':Heap) (tk:Nat) d',MP w s.heap.objs.size (ss.foldl Hy []) (!DY w) h'->(∀ b o,s.heap.get? b=some o->h'.get? b=some o)->Q (.ref s.heap.objs.size) { s with heap:=h',toks:=tk,drawn:=d' }) :
  wpAny (model prog w) A (PySem.call (.type "set") [.ref l]) Q E s:=by
 refine call_cls (Q1:=λobj z=>obj=.ref s.heap.objs.size∧z={ s with heap:=s.heap.push (Jn (!DY w)) }) PySem.F.called_set (PySem.F.typeCall_set_1 _) (TV (.ref l) ⟨rfl,rfl⟩) λobj z hz=>?_
 obtain ⟨e1,e2⟩:=hz
 subst e1 e2
 have gS:(s.heap.push (Jn (!DY w))).get? s.heap.objs.size=some (Jn (!DY w)):=Am _ rfl
 refine ⟨⟨_,gS,rfl⟩,codeAny_call_builtin PySem.F.called_set.init.plain PySem.F.entry_set_init (check_set_init_1 ⟨_,gS,rfl⟩ ?_)⟩
 obtain ⟨oc,od,oda,osl⟩:=ol
 simp only at hcl
 subst hcl
 have gl:(s.heap.push (Jn (!DY w))).get? l=some { cls:=.type T,dict:=od,data:=oda,slots:=osl }:=Ad _ hol
 unfold Builtin.«set.__init__»
 unfold noKeywords
 unfold Builtin.Frozenset.updateFrom
 generalize hPI:pyIter=PI
 wp_walk
 subst hPI
 have sz:(s.heap.push (Jn (!DY w))).objs.size=s.heap.objs.size+1:=Bt ..
 refine hit _ _ _ rfl (λb o e=>Ad _ e) λI fp h2 d2 P St hI fpl fpn W st0 k2 hval=>Aa (wpAny_runValue ?_)
 have nf:s.heap.objs.size∉fp:=λz=>by
  rcases fpn _ z with q|⟨o,q⟩
  ·have q':(s.heap.push (Jn (!DY w))).objs.size≤s.heap.objs.size:=q
   rw [sz] at q'
   exact absurd q' (Nat.not_succ_le_self _)
  ·exact absurd (Ak q) (A6 _)
 have h0:MP w s.heap.objs.size [] (!DY w) h2:=⟨_,#[],0,_,k2 _ _ gS,⟨rfl,rfl,rfl⟩,rfl,by rfl,rfl,.inr rfl,[],.nil,.nil⟩
 have ssl:ss.length=us.length:=(Dn hss).symm
 refine Q4 (W A.in1.in1.in1 rfl) s.heap.objs.size nf (ss:=ss) ssl (λi v hP=>?_) hb us.length 0 { s with heap:=h2,drawn:=d2 } [] (Nat.zero_add _) (Ah _) st0 h0 λh3 tk3 k3 hS=>?_
 ·obtain ⟨x,x1,t,x2⟩:=(DN hss i).1 v (hval i v hP)
  exact ⟨x,t,x1,x2⟩
 ·refine Ac (Ac (a:=Fin.done (.ret Value.none)) (And.intro rfl (h h3 tk3 d2 hS λb o e=>?_)))
  have blt:=Ak e
  refine k3 b o (Ar blt) (λz=>?_) (k2 _ _ (Ad _ e))
  have hI':(s.heap.push (Jn (!DY w))).objs.size≤I:=hI
  rw [sz,← z] at hI'
  exact absurd (Aw blt (AK (Bc _) hI')) (A6 _)
end
noncomputable def E9 (r:List D)(v:D):List D:=if v∈r then r else r++[v]
noncomputable def Fp (es:List D):List D:=es.foldl E9 []
theorem Kl (ss:List Str):∀ r:List Str,(ss.foldl Hy r).map D.str=(ss.map D.str).foldl E9 (r.map D.str):=by
 induction ss with
 | nil=>intro r;rfl
 | cons x ss ih =>
  intro r
  rw [List.foldl_cons,ih,AM,List.foldl_cons]
  congr 1
  unfold Hy E9
  have:D.str x∈r.map D.str ↔ x∈r:=by
   rw [Ax]
   exact ⟨λ⟨y,hy,e⟩=>by cases e;exact hy,λh=>⟨x,h,rfl⟩⟩
  by_cases c:x∈r
  ·rw [if_pos c,if_pos (this.mpr c)]
  ·rw [if_neg c,if_neg (λz=>c (this.mp z)),AW];rfl
theorem Ov (es:List D):∀ r:List D,r.Nodup->(es.foldl E9 r).Nodup:=by
 induction es with
 | nil=>intro r h;exact h
 | cons x es ih =>
  intro r h
  rw [List.foldl_cons]
  refine ih _ ?_
  unfold E9
  split
  ·exact h
  ·rename_i c
   refine Br.mpr ⟨h,by simp,λa ha b hb=>?_⟩
   rw [Al.mp hb]
   exact λe=>c (e▸ha)
theorem Mk (es:List D):∀ (r:List D) (d:D),d∈es.foldl E9 r ↔ d∈r∨d∈es:=by
 induction es with
 | nil=>intro r d;simp
 | cons x es ih =>
  intro r d
  rw [List.foldl_cons,ih,An]
  unfold E9
  split
  ·rename_i c
   constructor
   ·rintro (h|h)
    ·exact .inl h
    ·exact .inr (.inr h)
   ·rintro (h|rfl|h)
    ·exact .inl h
    ·exact .inl c
    ·exact .inr h
  ·rw [AI,Al]
   constructor
   ·rintro ((h|h)|h)
    ·exact .inl h
    ·exact .inr (.inl h)
    ·exact .inr (.inr h)
   ·rintro (h|h|h)
    ·exact .inl (.inl h)
    ·exact .inl (.inr h)
    ·exact .inr h
theorem RB (es:List D):∀ r:List D,(es.foldl E9 r).length≤r.length+es.length:=by
 induction es with
 | nil=>intro r;simp
 | cons x es ih =>
  intro r
  rw [List.foldl_cons,List.length_cons]
  refine AK (ih _) ?_
  unfold E9
  split
  ·omega
  ·rw [Aq,List.length_singleton];omega
noncomputable def J8:Fn:=λds mu=>match sq1 ds mu with
 | some es=>match strsOf es with
  | some _=>if es.length<4000 then some (.set (Fp es),mu) else none
  | none=>none
 | none=>none
theorem Uj {ds:List D}{mu:Sto}{r:D×Sto}(h:J8 ds mu=some r):∃ d es ss,ds=[d]∧G6 mu d=some es∧strsOf es=some ss∧es.length<4000∧r=(.set (Fp es),mu):=by
 unfold J8 at h
 split at h
 ·rename_i es e
  split at h
  ·rename_i ss e2
   split at h
   ·rename_i c
    cases h
    obtain ⟨d,rfl,e3⟩:=K4 e
    exact ⟨d,es,ss,rfl,e3,e2,c,rfl⟩
   ·cases h
  ·cases h
 ·cases h
section
variable {X:Cx} {K:Zc} {th:List Addr} {mu:Sto} {H:Hp} {pins:List (Addr×Obj)} {st:L2.St} {s:Shared}
theorem Kw (I:L2.Inv X pins st H s)(hc:X.calm=true){a:Addr}{vs:List V}{E:Value->Shared->Prop}(h:SqL X.K H a vs):∃ us,Vals vs us∧YieldsV X.prog X.w X.A E s.heap a us∧∃ o,s.heap.get? a=some o∧o.cls=.type "list":=by
 obtain ⟨its,rv,pl,hz⟩:=I.list h
 obtain ⟨o,n,ho,hcl,hdd,hdt⟩:=id pl
 refine ⟨its,rv,λs1 A' R hA hk hR=>?_,o,ho,hcl⟩
 have pl':s1.heap.IsList a its.toArray:=pl.isList.at λo e=>hk a o e
 have lt:a<s1.heap.objs.size:=Ak (hk a o ho)
 have hh:=I.ok.hd hc
 refine wpAny_pyIter_list pl' (hR s1.heap.objs.size [s1.heap.objs.size,a] _ s1.drawn (λi v=>its.toArray[i]? = some v) (λi h=>h.IsListIter s1.heap.objs.size a i∧h.IsList a its.toArray) (Ah _) (λb hb=>?_) (λb hb=>?_) (λA2 hA2=>?_) ?_ (λb o e=>Ad _ e) λi v hP=>?_)
 ·rw [Bt]
  rcases An.mp hb with rfl|hb
  ·exact AQ _
  ·rw [Al.mp hb];exact A0 lt
 ·rcases An.mp hb with rfl|hb
  ·exact .inl (Ah _)
  ·rw [Al.mp hb];exact .inr ⟨o,ho⟩
 ·have:=Walks.list (prog:=X.prog) (w:=X.w) (hA2.trans hh) s1.heap.objs.size a (Ar lt) its.toArray
  rw [Ai] at this
  exact this
 ·exact ⟨⟨_,Am _ rfl,rfl,rfl⟩,pl'.push _⟩
 ·have hP':its.toArray[i]? = some v:=hP
  simpa using hP'
theorem JA (I:L2.Inv X pins st H s)(hc:X.calm=true){a:Addr}{vs:List V}{E:Value->Shared->Prop}(h:SqT X.K H a vs):∃ us,Vals vs us∧YieldsV X.prog X.w X.A E s.heap a us∧∃ o,s.heap.get? a=some o∧o.cls=.type "tuple":=by
 obtain ⟨its,rv,pl,hz⟩:=I.tuple h
 obtain ⟨o,ho,hcl,n,hdt⟩:=id pl
 refine ⟨its,rv,λs1 A' R hA hk hR=>?_,o,ho,hcl⟩
 have pl':s1.heap.IsTuple a its.toArray:=⟨o,hk a o ho,hcl,n,hdt⟩
 have lt:a<s1.heap.objs.size:=Ak (hk a o ho)
 have hh:=I.ok.hd hc
 refine wpAny_pyIter_tuple pl' (hR s1.heap.objs.size [s1.heap.objs.size,a] _ s1.drawn (λi v=>its.toArray[i]? = some v) (λi h=>h.IsTupleIter s1.heap.objs.size a i∧h.IsTuple a its.toArray) (Ah _) (λb hb=>?_) (λb hb=>?_) (λA2 hA2=>?_) ?_ (λb o e=>Ad _ e) λi v hP=>?_)
 ·rw [Bt]
  rcases An.mp hb with rfl|hb
  ·exact AQ _
  ·rw [Al.mp hb];exact A0 lt
 ·rcases An.mp hb with rfl|hb
  ·exact .inl (Ah _)
  ·rw [Al.mp hb];exact .inr ⟨o,ho⟩
 ·have:=Walks.tuple (prog:=X.prog) (w:=X.w) (hA2.trans hh) s1.heap.objs.size a (Ar lt) its.toArray
  rw [Ai] at this
  exact this
 ·exact ⟨⟨_,Am _ rfl,rfl,rfl⟩,⟨o,Ad _ (hk a o ho),hcl,n,hdt⟩⟩
 ·have hP':its.toArray[i]? = some v:=hP
  simpa using hP'
theorem Xi {P:Program}{w:World}{h:Heap}{a:Addr}{us:List V}(x:Yb w a us h):ObjOk P w H h a (Q6 w a us):=by
 refine ⟨x,?_,λh1 h2 ⟨o,es,ep,t,ho,r⟩ k=>⟨o,es,ep,t,k o ho,r⟩⟩
 obtain ⟨o,es,ep,t,ho,r⟩:=x
 exact ⟨o,ho⟩
theorem IH (hc:X.calm=true):CallV X (.type "set") J8:=by
 intro pins s st H xs us Q I r h
 obtain ⟨th,mu,ds,so,rd,t⟩:=h
 obtain ⟨a0,mu0,e0,_⟩:=id t
 obtain ⟨d,es,ss,rfl,e2,e3,hl,er⟩:=Uj e0
 rw [e0] at t
 cases er
 obtain ⟨x,rfl,rx⟩:=DT rd
 obtain ⟨a,vs,rfl,h1,h2,h3⟩:=Gw so e2 rx
 obtain ⟨u,rfl,ru⟩:=vals1 r
 cases ru
 have em:=Lm e3
 rw [em] at h2
 obtain ⟨ev,hok⟩:=Mo h2
 subst ev
 have fin:∀ (h':Heap) (tk:Nat) d',MP X.w s.heap.objs.size (ss.foldl Hy []) (!DY X.w) h'->(∀ b o,s.heap.get? b=some o->h'.get? b=some o)->EP X pins st Q (.ref s.heap.objs.size) { s with heap:=h',toks:=tk,drawn:=d' }:=λh' tk d' hS hk=>by
  obtain ⟨o,tes,ep,tb,ho,hex,hd,hf,hled,hpl,ss',pm,pr⟩:=hS
  have hp:H s.heap.objs.size=none:=I.hok.fresh (Ah _)
  have ol:(ss.foldl Hy []).length=(Fp es).length:=by
   have:=congrArg List.length (Kl ss [])
   rw [Ag] at this
   rw [this]
   unfold Fp
   rw [em]
   rfl
  have ole:(Fp es).length≤es.length:=by have:=RB es [];simpa [Fp] using this
  have tl:tes.size=ss'.length:=by rw [← Dn pr,Array.length_toList]
  have sb:tes.size<scanBound:=by
   rw [tl,pm.length_eq,ol]
   unfold scanBound
   omega
  have sp:Yb X.w s.heap.objs.size (ss'.map V.str) h':=by
   refine ⟨o,tes,ep,tb,ho,hex,hd,sb,hf,?_,?_⟩
   ·refine JF (by simp [tl]) λj a b ea eb=>?_
    rw [Au] at ea eb
    cases ej:ss'[j]? with
    | none=>rw [ej] at ea;cases ea
    | some y =>
     obtain ⟨e',e1,_,tk',e2'⟩:=(DN pr j).2 y ej
     rw [ej] at ea
     rw [e1] at eb
     cases ea
     cases eb
     exact ⟨tk',e2'⟩
   ·cases c:DY X.w with
    | true=>exact .inl c
    | false =>
     rw [c] at hled
     exact .inr ⟨hled,hpl.elim .inl λz=>.inr (by omega)⟩
  have I0:L2.Inv X pins st H { s with drawn:=d' }:=⟨I.ok,I.os,I.bare,I.base,I.loc,I.cell,I.free,I.freeC,I.pin,I.hok,I.len⟩
  refine ⟨.ref s.heap.objs.size,_,I0.laid (h':=h') (t':=tk) (o:=Q6 X.w s.heap.objs.size (ss'.map V.str)) hk (Ah _) (Xi sp),rfl,?_⟩
  refine t.retX (.new hp _) (so.new hp _) _ ?_
  unfold Rep
  refine ⟨_,ss'.map V.str,(ss.foldl Hy []).map V.str,rfl,so.notin hp,Ec,pm.map _,?_,Ov es [] List.nodup_nil⟩
  have eo:Fp es=(ss.foldl Hy []).map D.str:=by
   rw [Kl,em]
   rfl
  rw [eo]
  refine JT λx hx=>hok x ?_
  have:D.str x∈Fp es:=by rw [eo];exact Ax.mpr ⟨x,hx,rfl⟩
  rcases (Mk es [] _).mp this with z|z
  ·cases z
  ·rw [em] at z
   obtain ⟨y,hy,e⟩:=Ax.mp z
   cases e
   exact hy
 have pairs:∀ us:List Value,Vals (ss.map V.str) us->Paired (λ(u:Value) (x:Str)=>∃ t,u=.str x t) us ss:=λus q=>by
  refine JF (by have:=q.length;rw [Ag] at this;exact this.symm) λj u x e1 e2=>?_
  obtain ⟨u',u1,u2⟩:=q.get (show (ss.map V.str)[j]? = some (V.str x) by rw [Au,e2];rfl)
  rw [e1] at u1
  cases u1
  exact u2
 have ul:∀ us:List Value,Vals (ss.map V.str) us->us.length+1<scanBound:=λus q=>by
  have a:=q.length
  rw [Ag] at a
  have b:es.length=ss.length:=by rw [em,Ag]
  unfold scanBound
  omega
 rcases h1 with h1|⟨h1,_⟩
 ·obtain ⟨us,q,y,o,ho,hcl⟩:=Kw (E:=X.xe) I hc h1
  exact Qq ho hcl PySem.F.sub_list_set PySem.F.sub_list_frozenset (by decide) (ul us q) (pairs us q) y fin
 ·obtain ⟨us,q,y,o,ho,hcl⟩:=JA (E:=X.xe) I hc h1
  exact Qq ho hcl VD PL (by decide) (ul us q) (pairs us q) y fin
noncomputable def VZ:Fn:=λds mu=>match ds with
 | [.set es]=>some (.int es.length,mu)
 | [d]=>(FA mu d).map λp=>(.int p.1.length,mu)
 | _=>none
theorem R5 {ds:List D}{r:D×Sto}(h:VZ ds mu=some r):(∃ es,ds=[.set es]∧r=(.int es.length,mu))∨∃ d p,ds=[d]∧FA mu d=some p∧r=(.int p.1.length,mu):=by
 unfold VZ at h
 split at h
 ·cases h;exact .inl ⟨_,rfl,rfl⟩
 ·rename_i d _
  cases e:FA mu d with
  | none=>rw [e] at h;cases h
  | some p=>rw [e] at h;cases h;exact .inr ⟨d,p,rfl,e,rfl⟩
 ·cases h
theorem Q5:CallV X (.builtin "len") VZ:=by
 intro pins s st H xs us Q I r h
 obtain ⟨th,mu,ds,so,rd,t⟩:=h
 obtain ⟨a0,mu0,e0,_⟩:=id t
 rcases R5 e0 with ⟨es,rfl,er⟩|⟨d,p,rfl,ed,er⟩
 ·rw [e0] at t
  cases er
  obtain ⟨x,rfl,rx⟩:=DT rd
  unfold Rep at rx
  obtain ⟨a,us',vs,rfl,_,h1,h2,h3,_⟩:=rx
  obtain ⟨u,rfl,ru⟩:=vals1 r
  cases ru
  obtain ⟨⟨o,tes,ep,tb,ho,hex,hd,sb,hf,hv,_⟩,_⟩:=(show ObjOk X.prog X.w H s.heap a (Q6 X.w a us') from I.hok a _ h1)
  have ln:tes.size=es.length:=by
   have e1:us'.length=tes.size:=by have:=hv.length;simpa using this
   rw [← e1,h2.length_eq,h3.len]
  refine PySem.call_len_set ho hex hd hf (by unfold scanBound at sb;omega) ⟨.int es.length,H,I.tok _,⟨_,by rw [ln]⟩,t.ret so _ rfl⟩
 ·rw [e0] at t
  cases er
  obtain ⟨x,rfl,rx⟩:=DT rd
  obtain ⟨a,rfl,dc⟩:=Fc so ed rx
  obtain ⟨u,rfl,ru⟩:=vals1 r
  cases ru
  obtain ⟨xs',o,es,ep,h1,g⟩:=HF I dc
  have ty:s.TypeIs (.ref a) "dict":=⟨o,g.at',g.ex.1⟩
  have ln:es.size=p.1.length:=by rw [Dn g.en,Array.length_toList]
  have fit:((p.1.length:Nat):Int)<2 ^ 63:=by
   have:=(Su dc).2.len
   rw [AL] at this
   omega
  have hM:MeetsIn X.prog X.w (Builtin.«dict.__len__» ⟨[.ref a],[]⟩) (λ_ R s=>s.heap.get? a=some o∧R (.ok (.ret (.int p.1.length s.toks))) { s with toks:=s.toks+1 }):=.of_wp λA R s ⟨g0,h⟩=>by
   refine (?_:wpAny _ _ (dictSize a >>= _) _ _ s)
   unfold dictSize
   refine Aa (Aa (BN g0 g.dt (Ac (?_:wpAny _ _ (Builtin.Dict.pendingCount a >>= _) _ _ s))))
   refine Aa (wpAny_pendingCount_other g.ns (wpAny_ret_mkInt ?_))
   rw [Nat.add_zero,ln]
   exact h
  (refine Calls.call_function_entry kind_len plain_len entry_len (args_len1 _) ?_)
  unfold Builtin.«len»
  refine Aa (m:=oneArg "len" _) (Ac (Aa (m:=callSpecial? (.ref a) (Str.ofString "__len__")) (A5 (name:=Str.ofString "__len__") ty F.slot_dict_len (call_meetsIn F.slot_dict_len ty F.entry_dict_len (F.args_dict_len_1 _) hM ⟨g.at',?_⟩))))
  refine (?_:wpAny _ _ _ _ _ { s with toks:=s.toks+1 })
  refine Aa (AG (Ac (Aa (wpAny_letGo (?_:wpAny _ _ (if ((p.1.length:Nat):Int)<0 then _ else _) _ _ _)))))
  rw [if_neg (by omega)]
  refine (?_:wpAny _ _ (if ((p.1.length:Nat):Int) ≥ 2 ^ 63 then _ else _) _ _ _)
  rw [if_neg (by omega)]
  exact Aa (wpAny_mkInt (Ac ⟨_,rfl,⟨.int p.1.length,H,I.tok _,⟨_,rfl⟩,t.ret so _ rfl⟩⟩))
noncomputable def DZ:Fn:=λds mu=>match Ux ds mu with|some r=>some r|none=>VZ ds mu
theorem Cv:CallV X (.builtin "len") DZ:=CallV.or Rn Q5
noncomputable def Ti (mu:Sto):D->Option (List D)
 | .set es=>some es
 | d=>G6 mu d
noncomputable def OB:Fn:=λds mu=>match Im ds with
 | some d=>match Ti mu d with
  | some es=>if Ga es=true then some (.lst (G2 es),mu) else none
  | none=>none
 | none=>none
theorem TJ {ds:List D}{r:D×Sto}(h:OB ds mu=some r):∃ d es,ds=[d]∧Ti mu d=some es∧Ga es=true∧r=(.lst (G2 es),mu):=by
 unfold OB at h
 split at h
 ·rename_i d e
  split at h
  ·rename_i es e2
   split at h
   ·rename_i c;cases h;exact ⟨d,es,Io e,e2,c,rfl⟩
   ·cases h
  ·cases h
 ·cases h
theorem O7 {es fs:List D}(p:fs.Perm es)(h:Ga es=true):Ga fs=true:=by
 unfold Ga OA at *
 rw [Ab,Ab,Ab,Ae,Bool.or_eq_true] at *
 simp only [Ao] at *
 obtain ⟨⟨⟨a,b⟩,c⟩,d⟩:=h
 exact ⟨⟨⟨by rw [p.length_eq];exact a,λx hx=>b x (p.mem_iff.mp hx)⟩,λx hx y hy=>c x (p.mem_iff.mp hx) y (p.mem_iff.mp hy)⟩,d.imp (λz x hx=>z x (p.mem_iff.mp hx)) λz x hx=>z x (p.mem_iff.mp hx)⟩
theorem Rc {es:List D}(h:Ga es=true):∀ d∈es,HU d=true:=by
 unfold Ga at h
 rw [Ab,Ab,Ab] at h
 exact Ao.mp h.1.1.2
theorem RepL.perm {ds:List D}{vs us:List V}(p:us.Perm vs)(r:RepL K th H ds vs):∃ ds',ds'.Perm ds∧RepL K th H ds' us:=by
 induction p generalizing ds with
 | nil=>exact ⟨ds,List.Perm.refl _,r⟩
 | cons x p ih =>
  cases ds with
  | nil=>cases r.inv0
  | cons d ds =>
   obtain ⟨v,r',e,a,b⟩:=r.inv
   cases e
   obtain ⟨ds',q1,q2⟩:=ih b
   exact ⟨d::ds',q1.cons d,.cons a q2⟩
 | swap x y l =>
  cases ds with
  | nil=>cases r.inv0
  | cons d ds =>
   obtain ⟨v,r',e,a,b⟩:=r.inv
   cases e
   cases ds with
   | nil=>cases b.inv0
   | cons d' ds =>
    obtain ⟨v',r2,e',a',b'⟩:=b.inv
    cases e'
    exact ⟨d'::d::ds,List.Perm.swap _ _ _,.cons a' (.cons a b')⟩
 | trans p q ih1 ih2 =>
  obtain ⟨ds1,a1,b1⟩:=ih2 r
  obtain ⟨ds2,a2,b2⟩:=ih1 b1
  exact ⟨ds2,a2.trans a1,b2⟩
theorem Vals.perm {vs:List V}{us us':List Value}(p:us'.Perm us)(r:Vals vs us):∃ vs',vs'.Perm vs∧Vals vs' us':=by
 induction p generalizing vs with
 | nil=>cases r;exact ⟨[],.nil,.nil⟩
 | cons x p ih =>
  cases r with
  | cons a b=>obtain ⟨vs',q1,q2⟩:=ih b;exact ⟨_,q1.cons _,.cons a q2⟩
 | swap x y l =>
  cases r with
  | cons a b =>
   cases b with
   | cons a' b'=>exact ⟨_,List.Perm.swap _ _ _,.cons a' (.cons a b')⟩
 | trans p q ih1 ih2 =>
  obtain ⟨v1,a1,b1⟩:=ih2 r
  obtain ⟨v2,a2,b2⟩:=ih1 b1
  exact ⟨v2,a2.trans a1,b2⟩
theorem Ra (hu:X.A.units+64<cLine)(hc:X.calm=true):CallV X (.builtin "sorted") OB:=by
 intro pins s st H xs us Q I r h
 obtain ⟨th,mu,ds,so,rd,t⟩:=h
 obtain ⟨a0,mu0,e0,_⟩:=id t
 obtain ⟨d,es,rfl,eg,ok,er⟩:=TJ e0
 rw [e0] at t
 cases er
 obtain ⟨x,rfl,rx⟩:=DT rd
 obtain ⟨u,rfl,ru⟩:=vals1 r
 have fin:∀ (fs:List D) (vs:List V) (zs:List Value) (h1:Heap) (tk:Nat) d',fs.Perm es->RepL X.z th H fs vs->Vals vs zs->(∀ b o,s.heap.get? b=some o->h1.get? b=some o)->zs.length≤sizeLine∧∃ out,Jr X.prog X.w X.A.in1.in1 zs out { s with heap:=h1,toks:=tk,drawn:=d' } ∧
   ∀ h' e a,(∀ b o,h1.get? b=some o->h'.get? b=some o)->h1.objs.size≤a->h'.get? a=some (seqObj "list" out.toArray e)->EP X pins st Q (.ref a) { s with heap:=h',toks:=tk,drawn:=d' }:=λfs vs zs h1 tk d' p h2 rv hk=>by
  have I0:L2.Inv X pins st H { s with drawn:=d' }:=⟨I.ok,I.os,I.bare,I.base,I.loc,I.cell,I.free,I.freeC,I.pin,I.hok,I.len⟩
  have I1:L2.Inv X pins st H { s with heap:=h1,toks:=tk,drawn:=d' }:=I0.kept (t':=tk) hk
  have okf:=O7 p ok
  have l64:fs.length<64:=by
   unfold Ga at okf
   rw [Ab,Ab,Ab,Ae] at okf
   exact okf.1.1.1
  have lz:zs.length=fs.length:=by rw [← rv.length,h2.len]
  obtain ⟨ws,out,w1,w2,w3⟩:=sorts hu I1 h2 rv okf
  rw [Mb (Rc ok) p] at w1
  have z64:64≤sizeLine:=by rw [AL];decide
  have wl:(G2 es).length≤sizeLine:=by rw [(EL es).length_eq,← p.length_eq];omega
  refine ⟨by omega,out,w3,λh' e a hk' ha he=>?_⟩
  have hp:H a=none:=I1.hok.fresh ha
  refine ⟨.ref a,_,I1.laid (t':=tk) (o:=.lst ws) hk' ha ⟨by rw [w1.len];exact wl,out,e,w2,he⟩,rfl,?_⟩
  exact t.retX (.new hp _) (so.new hp _) _ (Rep.newLst so hp w1 wl)
 refine Mm ?_
 have seqc:∀ (T:String) (a:Addr) (ob:Obj) (vs:List V) (zs:List Value) (n:Nat),(T="list"∨T="tuple")->s.heap.get? a=some ob->ob.cls=.type T->ob.data=.seq zs.toArray n->Vals vs zs->RepL X.z th H es vs->es.length≤sizeLine->wpAny (model X.prog X.w) X.A.in1 (collect (.ref a)) (λzs s1=>zs.length≤sizeLine∧∃ out,Jr X.prog X.w X.A.in1.in1 zs out s1∧∀ h' e a,(∀ b o,s1.heap.get? b=some o->h'.get? b=some o)->s1.heap.objs.size≤a->h'.get? a=some (seqObj "list" out.toArray e)->EP X pins st Q (.ref a) { s1 with heap:=h' }) X.xe s:=λT a ob vs zs n hT g1 g2 g3 rv h2 hz=>by
  refine Pq hT g1 g2 g3 ?_ (by rw [← rv.length,h2.len];exact hz)
  refine fin es vs zs _ s.toks s.drawn (List.Perm.refl _) h2 rv λb o e=>?_
  have lt:=Ak e
  rw [Heap.get?_update_ne _ _ _ _ (Ar lt),Heap.get?_push_ne _ _ _ (Ar lt)]
  exact e
 have sq:G6 mu d=some es->wpAny (model X.prog X.w) X.A.in1 (collect u) (λzs s1=>zs.length≤sizeLine∧∃ out,Jr X.prog X.w X.A.in1.in1 zs out s1∧∀ h' e a,(∀ b o,s1.heap.get? b=some o->h'.get? b=some o)->s1.heap.objs.size≤a->h'.get? a=some (seqObj "list" out.toArray e)->EP X pins st Q (.ref a) { s1 with heap:=h' }) X.xe s:=λe2=>by
  obtain ⟨a,vs,rfl,h1,h2,h3⟩:=Gw so e2 rx
  cases ru
  rcases h1 with h1|⟨h1,_⟩
  ·obtain ⟨its,rv,⟨o,n,g1,g2,_,g3⟩,_⟩:=I.list h1
   exact seqc "list" a o vs its n (.inl rfl) g1 g2 g3 rv h2 h3
  ·obtain ⟨its,rv,⟨o,g1,g2,n,g3⟩,_⟩:=I.tuple h1
   exact seqc "tuple" a o vs its n (.inr rfl) g1 g2 g3 rv h2 h3
 unfold Ti at eg
 split at eg
 ·cases eg
  unfold Rep at rx
  obtain ⟨a,us',vs,rfl,_,h1,h2,h3,_⟩:=rx
  cases ru
  obtain ⟨⟨o,tes,ep,tb,ho,hex,hd,sb,hf,hv,hw⟩,_⟩:=(show ObjOk X.prog X.w H s.heap a (Q6 X.w a us') from I.hok a _ h1)
  refine Pb (I.ok.hd hc) (fits_of_scanBound sb) ho hex.1 hd hf hw λzs h' tk d' pm hk=>?_
  obtain ⟨ws,p1,r1⟩:=Vals.perm pm hv
  obtain ⟨fs,p2,r2⟩:=RepL.perm (p1.trans h2) h3
  exact fin fs ws zs h' tk d' p2 r2 r1 hk
 ·exact sq eg
end
section
variable {X:Cx} {K:Zc} {th:List Addr} {mu:Sto} {H:Hp}
noncomputable def YU (ds:List D):Option (List D×List D):=match ds with
 | [.tup xs,.tup ys]=>some (xs,ys)
 | _=>none
end
mutual
noncomputable def DF (n:Nat):D->Bool
 | .ref k=>decide (k<n)
 | .tup ds=>Gm n ds
 | .lst ds=>Gm n ds
 | .dct ks ds=>Gm n ks&&Gm n ds
 | .set ds=>Gm n ds
 | _=>true
noncomputable def Gm (n:Nat):List D->Bool
 | []=>true
 | d::ds=>DF n d&&Gm n ds
end
noncomputable def Oc (n:Nat):MO->Bool
 | .lst ds=>Gm n ds
 | .dct ks ds=>Gm n ks&&Gm n ds
noncomputable def Lx (g:D->Option D):List D->Option (List D)
 | []=>some []
 | d::ds=>match g d,Lx g ds with
  | some d',some ds'=>some (d'::ds')
  | _,_=>none
noncomputable def frz (n:Nat)(mu:Sto):Nat->D->Option D
 | 0,d=>if DF n d=true then some d else none
 | f+1,d=>if DF n d=true then some d else match d with
  | .ref k=>match mu[k]? with
   | some (.lst ds)=>(Lx (frz n mu f) ds).map .lst
   | some (.dct ks ds)=>if Gm n ks=true then (Lx (frz n mu f) ds).map (.dct ks) else none
   | none=>none
  | .tup ds=>(Lx (frz n mu f) ds).map .tup
  | .lst ds=>(Lx (frz n mu f) ds).map .lst
  | _=>none
noncomputable def MY (mu m1:Sto)(d:D):Rs D:=match frz mu.length m1 3 d with
 | some d'=>if (m1.take mu.length).all (Oc mu.length)=true then some (d',m1.take mu.length) else none
 | none=>none
noncomputable def fnG (n:Nat)(m:Sx):Fn:=λds mu=>bM (m (ds.map some++List.replicate (n-ds.length) none) mu) λp m1=>match p.1 with
 | .rt d=>MY mu m1 d
 | .nx=>MY mu m1 .non
 | _=>none
section
variable {K:Zc} {th th1 more:List Addr} {H:Hp} {mu:Sto}
mutual
theorem MH (pre:th1=th++more):∀ {d:D} {v:V},DF th.length d=true->Rep K th1 H d v->Rep K th H d v
 | .non,_,_,h=>h
 | .bl _,_,_,h=>h
 | .int _,_,_,h=>h
 | .str _,_,_,h=>h
 | .tup ds,_,l,h=>by
  unfold DF at l
  unfold Rep at h ⊢
  obtain ⟨a,vs,q,h1,h2,z⟩:=h
  exact ⟨a,vs,q,h1,ET pre l h2,z⟩
 | .lst ds,_,l,h=>by
  unfold DF at l
  unfold Rep at h ⊢
  obtain ⟨a,vs,q,h1,h2,z⟩:=h
  exact ⟨a,vs,q,h1.imp (λw=>⟨λz=>w.1 (by rw [pre];exact AZ _ z),w.2⟩) id,ET pre l h2,z⟩
 | .dct ks ds,_,l,h=>by
  unfold DF at l
  rw [Ab] at l
  unfold Rep at h ⊢
  obtain ⟨a,xs,q,n,h1,h2,h3,h4,h5⟩:=h
  exact ⟨a,xs,q,λz=>n (by rw [pre];exact AZ _ z),h1,h2,ET pre l.1 h3,ET pre l.2 h4,h5⟩
 | .set ds,_,l,h=>by
  unfold DF at l
  unfold Rep at h ⊢
  obtain ⟨a,us,vs,q,n,h1,h2,h3,h4⟩:=h
  exact ⟨a,us,vs,q,λz=>n (by rw [pre];exact AZ _ z),h1,h2,ET pre l h3,h4⟩
 | .ref k,_,l,h=>by
  unfold DF at l
  rw [Ae] at l
  unfold Rep at h ⊢
  obtain ⟨a,q,h1⟩:=h
  rw [pre,Av l] at h1
  exact ⟨a,q,h1⟩
theorem ET (pre:th1=th++more):∀ {ds:List D} {vs:List V},Gm th.length ds=true->RepL K th1 H ds vs->RepL K th H ds vs
 | [],_,_,h=>by rw [h.inv0];exact .nil
 | d::ds,_,l,h=>by
  unfold Gm at l
  rw [Ab] at l
  obtain ⟨v,r,rfl,h1,h2⟩:=h.inv
  exact .cons (MH pre l.1 h1) (ET pre l.2 h2)
end
theorem Ih {g:D->Option D}(hg:∀ d d' v,g d=some d'->Rep K th1 H d v->Rep K th H d' v):∀ {ds ds':List D} {vs:List V},Lx g ds=some ds'->RepL K th1 H ds vs->RepL K th H ds' vs∧ds'.length=ds.length
 | [],ds',vs,e,h=>by cases e;rw [h.inv0];exact ⟨.nil,rfl⟩
 | d::ds,ds',vs,e,h=>by
  obtain ⟨v,r,rfl,h1,h2⟩:=h.inv
  unfold Lx at e
  split at e
  ·rename_i d2 ds2 e1 e2
   cases e
   obtain ⟨a,b⟩:=Ih hg e2 h2
   exact ⟨.cons (hg _ _ _ e1 h1) a,by simp [b]⟩
  ·cases e
theorem P8 (so:StoOk K th1 mu H)(pre:th1=th++more):∀ (f:Nat) (d d':D) (v:V),frz th.length mu f d=some d'->Rep K th1 H d v->Rep K th H d' v
 | 0,d,d',v,e,h=>by
  unfold frz at e
  split at e
  ·rename_i c;cases e;exact MH pre c h
  ·cases e
 | f+1,d,d',v,e,h=>by
  have ih:=P8 so pre f
  unfold frz at e
  split at e
  ·rename_i c;cases e;exact MH pre c h
  ·rename_i c
   have kp:∀ {k:Nat} {a:Addr},¬ k<th.length->th1[k]? = some a->a∉th:=λ{k a} hk ha z=>by
    obtain ⟨i,hi,ei⟩:=List.mem_iff_getElem.mp z
    have:th1[i]? = some a:=by rw [pre,Av hi,As hi,ei]
    have:=Wa so.nd this ha
    omega
   split at e
   ·rename_i k
    have hk:¬ k<th.length:=by unfold DF at c;simpa using c
    unfold Rep at h
    obtain ⟨a,rfl,ha⟩:=h
    split at e
    ·rename_i ds em
     cases q:Lx (frz th.length mu f) ds with
     | none=>rw [q] at e;cases e
     | some ds' =>
      rw [q] at e
      cases e
      obtain ⟨vs,h1,h2,h3⟩:=so.at' k a _ ha em
      obtain ⟨r1,r2⟩:=Ih ih q h2
      unfold Rep
      exact ⟨a,vs,rfl,.inl ⟨kp hk ha,.inl h1⟩,r1,by rw [r2];exact h3⟩
    ·rename_i ks ds em
     split at e
     ·rename_i lk
      cases q:Lx (frz th.length mu f) ds with
      | none=>rw [q] at e;cases e
      | some ds' =>
       rw [q] at e
       cases e
       obtain ⟨xs,h1,h2,h3,h4,h5⟩:=so.at' k a _ ha em
       obtain ⟨r1,r2⟩:=Ih ih q h4
       unfold Rep
       exact ⟨a,xs,rfl,kp hk ha,h1,h2,ET pre lk h3,r1,h5⟩
     ·cases e
    ·cases e
   ·rename_i ds
    cases q:Lx (frz th.length mu f) ds with
    | none=>rw [q] at e;cases e
    | some ds' =>
     rw [q] at e
     cases e
     unfold Rep at h ⊢
     obtain ⟨a,vs,rfl,h1,h2,h3⟩:=h
     obtain ⟨r1,r2⟩:=Ih ih q h2
     exact ⟨a,vs,rfl,h1,r1,by rw [r2];exact h3⟩
   ·rename_i ds
    cases q:Lx (frz th.length mu f) ds with
    | none=>rw [q] at e;cases e
    | some ds' =>
     rw [q] at e
     cases e
     unfold Rep at h ⊢
     obtain ⟨a,vs,rfl,h1,h2,h3⟩:=h
     obtain ⟨r1,r2⟩:=Ih ih q h2
     exact ⟨a,vs,rfl,h1.imp (λw=>⟨λz=>w.1 (by rw [pre];exact AZ _ z),w.2⟩) id,r1,by rw [r2];exact h3⟩
   ·cases e
theorem UM (so:StoOk K th1 mu H)(pre:th1=th++more)(hl:(mu.take th.length).all (Oc th.length)=true):StoOk K th (mu.take th.length) H:=by
 have len:th.length≤mu.length:=by rw [← so.len,pre,Aq];omega
 refine ⟨by rw [Bb];omega,?_,λk a o e1 e2=>?_⟩
 ·have:=so.nd
  rw [pre] at this
  exact (Br.mp this).1
 ·have hk:=(Af.mp e1).1
  rw [Bl hk] at e2
  have q:=so.at' k a o (by rw [pre,Av hk];exact e1) e2
  have lo:=Ao.mp hl o (Ap (by rw [Bl hk];exact e2))
  cases o with
  | lst ds=>obtain ⟨vs,q1,q2,z⟩:=q;exact ⟨vs,q1,ET pre lo q2,z⟩
  | dct ks ds =>
   unfold Oc at lo
   rw [Ab] at lo
   obtain ⟨xs,q1,q2,q3,q4,z⟩:=q
   exact ⟨xs,q1,q2,ET pre lo.1 q3,ET pre lo.2 q4,z⟩
end
theorem Po {P:Program}{w:World}{K:PySem.W.Frag}{mg:Str->Option Value}{base:Heap}{x qual:Str}{st:Stmt}{f:Addr}{fd:FuncData}{N ps:List Str}{k:Nat}{m:Sx}(n j:Nat)(F:Fun K x qual st f fd)(S:Cu N ps (B9 st))(hn:N.length=n)(hj:ps.length=j)
  (hbody:∀ (cdv:Value) (A:Around) (outer:List Env) (s:Shared) (H:Hp) (E:XK),Room k (A.deeper (envOfC qual (B9 st) s.heap.objs.size f cdv)) ->
   SVB (L0 CX0 P w K mg base N qual (B9 st) f cdv A outer s H E).nox (EV st) m):DH P w K mg base CX0 (k+1) f fd ps (spF ⟨K,P,w⟩ (fnG n m) j):=by
 subst hn hj
 refine F.ok S (λvs H Q E h=>?_) (λcdv A outer s H vs Q E hr h=>?_)
 ·obtain ⟨th,mu,ds,_,r,hl,_⟩:=h
  rw [r.len]
  exact hl
 ·obtain ⟨th,mu,ds,so,r,hl,t⟩:=h
  refine ⟨_,(hbody cdv A outer s H E hr).r,?_⟩
  obtain ⟨d0,mu0,e0,q0⟩:=id t
  obtain ⟨p,m1,e1,e2⟩:=Hh e0
  refine ⟨th,mu,_,so,Kt r,p,m1,e1,λth1 H1 x1 s1 st' en'=>?_⟩
  obtain ⟨fl,ro'⟩:=p
  obtain ⟨more,pre⟩:=x1.pre
  have done:∀ (d:D) (v:V),MY mu m1 d=some (d0,mu0)->Rep ⟨K,P,w⟩ th1 H1 d v->Q v H1:=λd v ec rv=>by
   unfold MY at ec
   split at ec
   ·rename_i d' ef
    split at ec
    ·rename_i hl
     cases ec
     rw [← so.len] at ef hl q0
     exact q0 th H1 ⟨⟨[],by simp⟩,λ_ _ n _=>n,x1.keep⟩ (UM s1 pre hl) v (P8 s1 pre 3 d d0 v ef rv)
    ·cases ec
   ·cases ec
  cases fl with
  | rt d=>exact λv rv=>done d v e2 rv
  | nx=>exact done .non .non e2 (by unfold Rep;rfl)
  | bk=>cases e2
  | ct=>cases e2
noncomputable def DAt (h:Heap)(d:Addr)(es:Array DictEntry)(ep:Nat):Prop:=∃ o,h.get? d=some o∧o.data=.dict es ep
noncomputable def DIt (T:String)(d I:Addr)(es:Array DictEntry)(ep i:Nat)(h:Heap):Prop:=DAt h d es ep∧∃ o,h.get? I=some o∧o.cls=.type T∧o.data=.fields #[.ref d,.int i 0,.int es.size 0,.int ep 0]
section
variable {prog:Program} {w:World} {A:Around} {E:Value->Shared->Prop} {s:Shared}
theorem DIt.ty {T:String}{d I:Addr}{es:Array DictEntry}{ep i:Nat}(g:DIt T d I es ep i s.heap):s.TypeIs (.ref I) T:=let ⟨_,o,a,b,_⟩:=g;⟨o,a,b⟩
theorem DIt.step {T:String}{d I:Addr}{es:Array DictEntry}{ep i:Nat}{h:Heap}(ne:d≠I)(g:DIt T d I es ep i h):DIt T d I es ep (i+1) (h.update I (Obj.mapFields (·.setIfInBounds 1 (rawInt ((i:Int)+1))))):=by
 obtain ⟨⟨od,d1,d2⟩,o,a,b,c⟩:=g
 exact ⟨⟨od,((Ay ..).2 d ne).trans d1,d2⟩,_,AN _ a (Obj.isFreed_of_fields (Obj.data_mapFields c _)),(Obj.cls_mapFields ..).trans b,by rw [Obj.data_mapFields c];simp [rawInt]⟩
theorem RO {d I:Addr}{es:Array DictEntry}{ep i:Nat}{Q:Option Value->Shared->Prop}(ne:d≠I)(g:DIt "dict_keyiterator" d I es ep i s.heap)(hi:i<es.size)
  (q:∀ h',DIt "dict_keyiterator" d I es ep (i+1) h'->Heap.SameBut I s.heap h'->Q (some es[i].key) { s with heap:=h' }):wpAny (model prog w) A (pyNext (.ref I)) Q E s:=by
 obtain ⟨⟨od,d1,d2⟩,o,a,b,c⟩:=id g
 unfold pyNext
 refine Aa (wpAny_attempt (A5 (name:=Str.ofString "__next__") g.ty Bk (AY Bk g.ty F.entry_dict_keyiterator_next ?_ (F.args_dict_keyiterator_next_1 _))))
 refine Aa (Ac (Aa (Aa ?_)))
 refine Aa (BK g.ty (Ac (Aa (wpAny_fieldsOf a c ?_))))
 simp only [show Builtin.Dict_items.ownsTuple "dict_keyiterator"=false by decide,AH,A4]
 refine (?_:wpAny _ _ (if (Value.ref d==Value.none)=true then _ else _) _ _ s)
 rw [if_neg (show ¬ ((Value.ref d==Value.none)=true) from AB)]
 refine Aa (Ac (Aa (BN d1 d2 ?_)))
 rw [if_neg (by simp)]
 refine Aa (Ac (Aa (BE d1 d2 ?_)))
 rw [if_neg (by simp)]
 refine Ac ?_
 simp only [show ¬ ((i:Int)<0) by omega,A4,Int.toNat_natCast,AD hi]
 refine Aa (Aa (BK g.ty (Ac ?_)))
 refine Aa (wpAny_isOneOf_keyiter g.ty ?_)
 refine (?_:wpAny _ _ (setField (.ref I) 1 (rawInt ((i:Int)+1)) >>= _) _ _ s)
 have g':=g.step ne
 refine Aa (Bu a c (by simp) (Aa (AG ?_)))
 generalize hu:s.heap.update I (Obj.mapFields (·.setIfInBounds 1 (rawInt ((i:Int)+1))))=h2 at g' ⊢
 have sb:Heap.SameBut I s.heap h2:=by rw [← hu];exact Ay ..
 have t2:=DIt.ty (s:={ s with heap:=h2 }) g'
 refine Aa (wpAny_isOneOf_keyiter (s:={ s with heap:=h2 }) t2 ?_)
 refine (?_:wpAny _ _ (pure es[i].key) _ _ _)
 exact Ac (Ac ⟨_,rfl,Ac (q _ g' sb)⟩)
theorem Ts {d I:Addr}{es:Array DictEntry}{ep:Nat}{Q:Option Value->Shared->Prop}(hh:A.handled=none)(g:DIt "dict_keyiterator" d I es ep es.size s.heap)
  (q:∀ h',(∀ c o,c≠I->s.heap.get? c=some o->h'.get? c=some o)->Q none { s with heap:=h' }):wpAny (model prog w) A (pyNext (.ref I)) Q E s:=by
 obtain ⟨⟨od,d1,d2⟩,o,a,b,c⟩:=id g
 unfold pyNext
 refine Aa (wpAny_attempt (A5 (name:=Str.ofString "__next__") g.ty Bk (AY Bk g.ty F.entry_dict_keyiterator_next ?_ (F.args_dict_keyiterator_next_1 _))))
 refine Aa (Ac (Aa (Aa ?_)))
 refine Aa (BK g.ty (Ac (Aa (wpAny_fieldsOf a c ?_))))
 simp only [show Builtin.Dict_items.ownsTuple "dict_keyiterator"=false by decide,AH,A4]
 refine (?_:wpAny _ _ (if (Value.ref d==Value.none)=true then _ else _) _ _ s)
 rw [if_neg (show ¬ ((Value.ref d==Value.none)=true) from AB)]
 refine Aa (Ac (Aa (BN d1 d2 ?_)))
 rw [if_neg (by simp)]
 refine Aa (Ac (Aa (BE d1 d2 ?_)))
 rw [if_neg (by simp)]
 refine Ac ?_
 simp only [show ¬ ((es.size:Int)<0) by omega,A4,Int.toNat_natCast,BD (Ah es.size)]
 refine Aa (Aa (BK g.ty (Ac ?_)))
 refine (?_:wpAny _ _ (setField (.ref I) 0 .none >>= _) _ _ s)
 refine Aa (Bu a c (by simp) ?_)
 refine HH (I:=I) hh λh' e z1 z2=>?_
 obtain ⟨oe,he,hc⟩:=z2
 exact Aa (wpAny_isInstance (T:="StopIteration") (b:=true) ⟨oe,he,hc⟩ isSubtype_stop (Ac (q h' λc o hc z=>z1 c o (((Ay ..).2 c hc).trans z))))
theorem Mq (hh:A.handled=none){d I:Addr}{es:Array DictEntry}{ep:Nat}(ne:d≠I):Walks prog w A I [I,d] [I] es.size (λi v=>∃ e,es[i]? = some e∧e.key=v) (λi h=>DIt "dict_keyiterator" d I es ep i h) where
 sub:=λb hb=>by rw [Al.mp hb];simp
 frame:=λ_ h1 h2 st hk=>let ⟨⟨od,d1,d2⟩,o,a,b⟩:=st;⟨⟨od,hk d (by simp) _ d1,d2⟩,o,hk I (by simp) _ a,b⟩
 item:=λk s R E hi st hQ=>RO ne st hi λh' g' sb=>hQ _ h' s.toks ⟨_,AD hi,rfl⟩ g' λb o hb z=>(sb.2 b (by simpa using hb)).trans z
 done:=λs R E st hQ=>Ts hh st λh' k=>hQ h' s.toks λb o hb z=>k b o (by simpa using hb) z
 self:=λ_ s R E st hQ=>by
  refine wpAny_pyIter_slot st.ty F.slot_dict_keyiterator_iter (AY F.slot_dict_keyiterator_iter st.ty F.entry_dict_keyiterator_iter ?_ (F.args_dict_keyiterator_iter_1 _))
  refine (?_:wpAny _ _ (ret (.ref I)) _ _ s)
  exact Ac ⟨_,rfl,"dict_keyiterator",_,st.ty,Bk.lookup,hQ⟩
theorem O2 {d:Addr}{o:Obj}{es:Array DictEntry}{ep:Nat}{Q:Value->Shared->Prop}(ns:(d==sysModules)=false)(d1:s.heap.get? d=some o)(dc:o.cls=.type "dict")(d2:o.data=.dict es ep)
  (q:∀ h',h'.objs.size=s.heap.objs.size+1->(∀ b o,s.heap.get? b=some o->h'.get? b=some o)->DIt "dict_keyiterator" d s.heap.objs.size es ep 0 h'->Q (.ref s.heap.objs.size) { s with heap:=h' }):wpAny (model prog w) A (pyIter (.ref d)) Q E s:=by
 have hT:s.TypeIs (.ref d) "dict":=⟨o,d1,dc⟩
 refine wpAny_pyIter_slot hT F.slot_dict_iter (AY F.slot_dict_iter hT F.entry_dict_iter ?_ (F.args_dict_iter_1 _))
 unfold Builtin.«dict.__iter__» Builtin.Dict.dictSlotNone
 refine Aa (Aa (wpAny_notOrdered_dict hT ?_))
 refine (?_:wpAny _ _ (pure (Value.ref d)) _ _ s)
 refine Ac (?_:wpAny _ _ (Builtin.Dict.showsAll d >>= _) _ _ s)
 unfold Builtin.Dict.showsAll
 rw [if_neg (by rw [ns];exact AB)]
 refine Aa (Ac (Aa (BN d1 d2 (Aa (BE d1 d2 ?_)))))
 refine Aa (AO (Ac ⟨_,rfl,"dict_keyiterator",_,⟨_,Am _ rfl,rfl⟩,Bk.lookup,?_⟩))
 exact q _ (Bt ..) (λb o e=>Ad _ e) ⟨⟨o,Ad _ d1,d2⟩,_,Am _ rfl,rfl,rfl⟩
theorem OQ {S:Addr}{ob:Obj}{es:Array DictEntry}{ep:Nat}{Q:List Value->Shared->Prop}(hh:A.handled=none)(hz:es.size≤sizeLine)(g1:s.heap.get? S=some ob)(gc:ob.cls=.type "dict")(ns:(S==sysModules)=false)(g2:DAt s.heap S es ep)
  (q:∀ h' tk,(∀ b o,s.heap.get? b=some o->h'.get? b=some o)->Q (es.toList.map (·.key)) { s with heap:=h',toks:=tk }):wpAny (model prog w) A (collect (.ref S)) Q E s:=by
 obtain ⟨od,d1,d2⟩:=g2
 have lS:S<s.heap.objs.size:=Ak g1
 have ld:S<s.heap.objs.size:=Ak d1
 have nS:s.heap.objs.size≠S:=BH lS
 have nd:s.heap.objs.size≠S:=BH ld
 unfold collect
 refine Aa (wpAny_runValue (Bj F.entry_proto_collect ?_))
 rw [Bf F.plain_proto_collect _]
 refine (?_:wpAny _ A.in1 (newList [] >>= λl=>again (.builtin "list.__iadd__" ⟨[l,.ref S],[]⟩)) _ _ s)
 refine Aa (AO (Ac ⟨plainId_quiet F.plain_list_iadd _,Bj F.entry_list_iadd ?_⟩))
 rw [Bf F.plain_list_iadd _]
 refine (?_:wpAny _ A.in1 (Builtin.List.listExtendWith (.ref s.heap.objs.size) (.ref S) (.ref s.heap.objs.size)) _ _ _)
 (unfold Builtin.List.listExtendWith)
 have gS:(s.heap.push { cls:=.type "list",data:=.seq ([]:List Value).toArray }).get? S=some ob:=Ad _ g1
 have gd:(s.heap.push { cls:=.type "list",data:=.seq ([]:List Value).toArray }).get? S=some od:=Ad _ d1
 have gL:(s.heap.push { cls:=.type "list",data:=.seq ([]:List Value).toArray }).get? s.heap.objs.size=some { cls:=.type "list",data:=.seq ([]:List Value).toArray }:=Am _ rfl
 generalize hP:s.heap.push { cls:=.type "list",data:=.seq ([]:List Value).toArray }=h1 at gS gL gd ⊢
 have k1:∀ b o,s.heap.get? b=some o->h1.get? b=some o:=λb o e=>by rw [← hP];exact Ad _ e
 have sz1:h1.objs.size=s.heap.objs.size+1:=by rw [← hP];exact Bt ..
 have ty:Shared.TypeIs { s with heap:=h1 } (.ref S) "dict":=⟨ob,gS,gc⟩
 refine Aa (BB ty ?_)
 have e1:Builtin.List.listSameRef (.ref s.heap.objs.size) (.ref S)=false:=by simp [Builtin.List.listSameRef,nS]
 simp only [e1,show (Value.type "dict"==Value.type "list")=false by decide,show (Value.type "dict"==Value.type "tuple")=false by decide,Bool.or_false,AH,A4]
 have lt1:S<h1.objs.size:=by rw [sz1];exact A0 ld
 refine Aa (O2 (s:={ s with heap:=h1 }) ns gd (by rw [g1] at d1;cases d1;exact gc) d2 λh2 e2 k2 st=>?_)
 have ty2:Shared.TypeIs { s with heap:=h2 } (.ref S) "dict":=⟨ob,k2 _ _ gS,gc⟩
 have nLI:s.heap.objs.size≠h1.objs.size:=by rw [sz1];exact Ar (AQ _)
 have ndI:S≠h1.objs.size:=Ar lt1
 refine Aa (AG ?_)
 (unfold Builtin.List.listLengthHint)
 refine Aa (wpAny_specialOf ty2 F.slot_dict_len.lookup ?_)
 refine (?_:wpAny _ A.in1 (isInstance (Value.ref S) (.type "dict") >>= _) _ _ _)
 refine Aa (wpAny_isInstance (b:=true) ty2 (by rw [isSubtype_type];kernel_rfl) ?_)
 refine (?_:wpAny _ A.in1 (typeOf (Value.ref S) >>= _) _ _ _)
 refine Aa (BB ty2 (Ac ?_))
 have gL2:=k2 _ _ gL
 refine (?_:wpAny _ A.in1 (rule "list.extend.makes-room" >>= λ_=>Builtin.List.listTouch (.ref s.heap.objs.size) >>= λ_=>again (.builtin "list.extend.loop" ⟨[.ref s.heap.objs.size,.ref h1.objs.size,.ref s.heap.objs.size],[]⟩)) _ _ _)
 refine Aa (Bh (Aa ?_))
 refine (?_:wpAny _ A.in1 (updateSeq s.heap.objs.size (·.push .none) >>= λ_=>updateSeq s.heap.objs.size (·.pop)) _ _ _)
 refine Aa (wpAny_updateSeq gL2 rfl ?_)
 have gL3:=AN (Obj.mapSeq (·.push Value.none)) gL2 rfl
 refine wpAny_updateSeq gL3 rfl ?_
 have gL4:=AN (Obj.mapSeq (·.pop)) gL3 rfl
 have nL:s.heap.objs.size∉[h1.objs.size,S]:=by
  simp only [An,AR,BG,not_or]
  exact ⟨nLI,nd⟩
 have oth:∀ b o,b≠s.heap.objs.size->h2.get? b=some o->((h2.update s.heap.objs.size (Obj.mapSeq (·.push Value.none))).update s.heap.objs.size (Obj.mapSeq (·.pop))).get? b=some o:=
  λb o hb e=>(BC _ _ hb.symm).trans ((BC _ _ hb.symm).trans e)
 have W:=(Mq (prog:=prog) (A:=A.in1) (w:=w) (es:=es) (ep:=ep) hh ndI).toS
 refine Ac ⟨plainId_quiet F.plain_extend_loop _,codeAny_extend_loopS (A:=A) W hz _ nL _ es.size 0 _ _ _ rfl (A3 _) ?_ gL4 (ItemsOf.nil _) λs' acc' c' hm hS' hacc=>?_⟩
 ·exact (Mq (prog:=prog) (A:=A.in1) (w:=w) (es:=es) (ep:=ep) hh ndI).frame 0 _ _ st λb hb o e=>oth b o (λz=>nL (z▸hb)) e
 refine (?_:wpAny _ A (load s.heap.objs.size >>= _) _ _ s')
 refine Aa (wpAny_load hS' ?_)
 obtain ⟨zh,zg,zd,zt,zo⟩:=s'
 have e4:zg=s.gens:=hm.gens
 have e5:zd=s.drawn:=hm.drawn
 have e6:zo=s.os:=hm.os
 subst e4 e5 e6
 have ac:acc'.toList=es.toList.map (·.key):=by
  refine A9 λi=>?_
  rw [Au,Az,Az]
  by_cases hi:i<es.size
  ·have hi':i<acc'.size:=by rw [hacc.1];exact hi
   obtain ⟨e,x1,x2⟩:=hacc.2 i _ (AD hi')
   rw [AD hi',x1,← x2]
   rfl
  ·rw [BD (by rw [hacc.1];omega),BD (by omega)]
   rfl
 refine Ac ?_
 refine (?_:Q acc'.toList _)
 rw [ac]
 refine q zh zt λb o e=>?_
 have bl:=Ak e
 refine hm.heap b o ?_ (oth b o (Ar bl) (k2 _ _ (k1 _ _ e)))
 simp only [An,AR,BG,not_or]
 exact ⟨Ar bl,Ar (show b<h1.objs.size by rw [sz1];exact A0 bl)⟩
end
section
variable {X:Cx} {K:Zc} {th:List Addr} {mu:Sto} {H:Hp} {pins:List (Addr×Obj)} {st:L2.St} {s:Shared}
theorem O1 (hu:X.A.units+64<cLine)(I:L2.Inv X pins st H s)(so:StoOk X.z th mu H){es:List D}(ok:Ga es=true){u:Value}{Q:VK}(t:Tr X.z th H (some (D.lst (G2 es),mu)) (KV' X.z Q))
  (col:∀ Q':List Value->Shared->Prop,(∀ vs zs h' tk,RepL X.z th H es vs->Vals vs zs->(∀ b o,s.heap.get? b=some o->h'.get? b=some o)->Q' zs { s with heap:=h',toks:=tk })->wpAny (model X.prog X.w) X.A.in1 (collect u) Q' X.xe s) :
  wpAny (model X.prog X.w) X.A (call (.builtin "sorted") [u]) (EP X pins st Q) X.xe s:=by
 refine Mm (col _ λvs zs h1 tk h2 rv hk=>?_)
 have I1:L2.Inv X pins st H { s with heap:=h1,toks:=tk }:=I.kept (t':=tk) hk
 have l64:es.length<64:=by
  have:=ok
  unfold Ga at this
  rw [Ab,Ab,Ab,Ae] at this
  exact this.1.1.1
 have lz:zs.length=es.length:=by rw [← rv.length,h2.len]
 obtain ⟨ws,out,w1,w2,w3⟩:=sorts hu I1 h2 rv ok
 have z64:64≤sizeLine:=by rw [AL];decide
 have wl:(G2 es).length≤sizeLine:=by rw [(EL es).length_eq];omega
 refine ⟨by omega,out,w3,λh' e a hk' ha he=>?_⟩
 have hp:H a=none:=I1.hok.fresh ha
 refine ⟨.ref a,_,I1.laid (t':=tk) (o:=.lst ws) hk' ha ⟨by rw [w1.len];exact wl,out,e,w2,he⟩,rfl,?_⟩
 exact t.retX (.new hp _) (so.new hp _) _ (Rep.newLst so hp w1 wl)
theorem Vj (I:L2.Inv X pins st H s){a:Addr}{ks ds:List D}(h:Ka X.z th H a ks ds):∃ o es ep,(a==sysModules)=false∧s.heap.get? a=some o∧o.ExactDict∧o.data=.dict es ep∧es.size≤sizeLine∧(∃ vs,RepL X.z th H ks vs∧Vals vs (es.toList.map (·.key)))∧∃ vs,RepL X.z th H ds vs∧Vals vs (es.toList.map (·.val)):=by
 obtain ⟨xs0,h1',h2,h3,h4,h5⟩:=id h
 obtain ⟨xs,o,es,ep,h1,g⟩:=HF I h
 obtain ⟨⟨z',o',es',ep',g1,g2,g3,g4⟩,_⟩:=(show ObjOk X.prog X.w H s.heap a (Hb a xs0) from I.hok a _ h1')
 have e1:=g.at'
 rw [g1] at e1
 cases e1
 have e2:=g.dt
 rw [g3] at e2
 cases e2
 have kv:∀ {ys:List (Int×V×V)} {zs:List DictEntry},Paired (λ(x:Int×V×V) (e:DictEntry)=>e.hash=x.1∧RelV x.2.1 e.key∧RelV x.2.2 e.val) ys zs->Vals (ys.map (·.2.1)) (zs.map (·.key))∧Vals (ys.map (·.2.2)) (zs.map (·.val)):=λ{ys zs} p=>by
  induction p with
  | nil=>exact ⟨.nil,.nil⟩
  | cons a b ih=>exact ⟨.cons a.2.1 ih.1,.cons a.2.2 ih.2⟩
 have sz:es.size≤sizeLine:=by
  have e:=Dn g.en
  have e':es.size=ks.length:=by
   rw [← Array.length_toList]
   exact e.symm
  rw [e']
  exact h5.len
 exact ⟨o,es,ep,z',g1,g2,g3,sz,⟨_,h3,(kv g4).1⟩,⟨_,h4,(kv g4).2⟩⟩
noncomputable def U2:Fn:=λds mu=>match Im ds with
 | some d=>match FA mu d with
  | some p=>if Ga p.1=true then some (.lst (G2 p.1),mu) else none
  | none=>none
 | none=>none
theorem SG {ds:List D}{r:D×Sto}(h:U2 ds mu=some r):∃ d p,ds=[d]∧FA mu d=some p∧Ga p.1=true∧r=(.lst (G2 p.1),mu):=by
 unfold U2 at h
 split at h
 ·rename_i d e
  split at h
  ·rename_i p e2
   split at h
   ·rename_i c;cases h;exact ⟨d,p,Io e,e2,c,rfl⟩
   ·cases h
  ·cases h
 ·cases h
theorem RD (hu:X.A.units+64<cLine)(hc:X.calm=true):CallV X (.builtin "sorted") U2:=by
 intro pins s st H xs us Q I r h
 obtain ⟨th,mu,ds,so,rd,t⟩:=h
 obtain ⟨a0,mu0,e0,_⟩:=id t
 obtain ⟨d,p,rfl,eg,ok,er⟩:=SG e0
 rw [e0] at t
 cases er
 obtain ⟨x,rfl,rx⟩:=DT rd
 obtain ⟨u,rfl,ru⟩:=vals1 r
 obtain ⟨a,rfl,dc⟩:=Fc so eg rx
 cases ru
 obtain ⟨o,es,ep,ns,g1,g2,g3,sz,⟨vs,k1,k2⟩,_⟩:=Vj I dc
 exact O1 hu I so ok t λQ' q=>OQ (I.ok.hd hc) sz g1 g2.1 ns ⟨o,g1,g3⟩ λh' tk hk=>q _ _ h' tk k1 k2 hk
noncomputable def Pf:Fn:=λds mu=>match OB ds mu with|some r=>some r|none=>U2 ds mu
theorem MB (hu:X.A.units+64<cLine)(hc:X.calm=true):CallV X (.builtin "sorted") Pf:=CallV.or (Ra hu hc) (RD hu hc)
end
theorem VO (T:String)(hT:T="list"∨T="tuple")(l:Addr)(items:Array Value)(n:Nat)(b:Addr)(dd:Option Addr)(sl:Array (Option Value))(items2:Array Value)(n2:Nat)(hc0:¬(!items.isEmpty&&Builtin.List.listTooLong (items.size+items2.size))=true)(hc1:items.size≤sizeLine)(hs2:items.size+items2.size≤sizeLine+1) :
  Meets (Builtin.«list.extend» ⟨[.ref l,.ref b],[]⟩) (λ_ R s=>s.heap.get? l=some { cls:=.type "list",data:=.seq items n }∧s.heap.get? b=some { cls:=.type T,dict:=dd,data:=.seq items2 n2,slots:=sl }∧R (.ok (.ret Value.none)) { s with heap:=s.heap.update l (Obj.mapSeq λx=>x++items2) }):=
 .of_wp λprog w A R s h=>by
  obtain ⟨hp,g,d,tk,os⟩:=s
  obtain ⟨hl,hb,h⟩:=h
  have f2:=sub_tuple_tuple
  have f3:=sub_list_list
  have f4:=sub_tuple_list
  have f5:=sub_list_tuple
  have hz':(items++items2).size≤sizeLine+1:=by rw [Array.size_append];exact hs2
  rcases hT with rfl|rfl
  ·wp_walk using (wpAny_updateSeq hl rfl (hz:=hc1) (_hz':=hz')),Bv hl,Bv hb
   exact ⟨_,rfl,h⟩
  ·wp_walk using (wpAny_updateSeq hl rfl (hz:=hc1) (_hz':=hz')),Bv hl,Bv hb
   exact ⟨_,rfl,h⟩
section
variable {X:Cx} {K:Zc} {th:List Addr} {mu:Sto} {H:Hp} {pins:List (Addr×Obj)} {st:L2.St} {s:Shared}
theorem X4:MtR X "list.extend" (λx vs H Q=>∃ l b xs zs,x=.ref l∧vs=[.ref b]∧H l=some (.lst xs)∧(SqL X.K H b zs∨SqT X.K H b zs)∧xs.length+zs.length≤sizeLine∧Q .non (upd H l (.lst (xs++zs)))):=by
 intro pins s σ H x vs v us Q I rx rv h
 obtain ⟨l,b,xs,zs,rfl,rfl,hH,hB,hz,q⟩:=h
 cases rx
 obtain ⟨u,rfl,ru⟩:=rv.one
 cases ru
 obtain ⟨z,its,n,r,hl,e⟩:=I.lstM hH
 have fin:∀ (T:String) (ob:Obj) (its2:List Value) (n2:Nat),(T="list"∨T="tuple")->Vals zs its2->s.heap.get? b=some ob->ob.cls=.type T->ob.data=.seq its2.toArray n2->wpAny (model X.prog X.w) X.A (call (.builtin "list.extend") [.ref l,.ref b]) (EP X pins σ Q) X.xe s:=λT ob its2 n2 hT r2 g1 g2 g3=>by
  have l1:=r.length
  have l2:=r2.length
  have hsz:its.toArray.size+its2.toArray.size≤sizeLine:=by rw [Ai,Ai];omega
  have hlong:¬ (!its.toArray.isEmpty&&Builtin.List.listTooLong (its.toArray.size+its2.toArray.size))=true:=by
   rw [Sl hsz,BL]
   exact AB
  obtain ⟨cls,dd,data,sl⟩:=ob
  simp only at g2 g3
  subst g2 g3
  refine call_meets F.slot_list_extend ⟨_,e,rfl⟩ F.entry_list_extend (F.args_list_extend_2 _ _) (VO T hT l its.toArray n b dd sl its2.toArray n2 hlong (by rw [Ai];omega) (by omega)) ⟨e,g1,?_⟩
  refine ⟨.non,_,I.lset (its':=its++its2) hH e (by simp) (r.append r2) ?_,rfl,q⟩
  rw [Aq]
  omega
 rcases hB with hB|hB
 ·obtain ⟨its2,r2,⟨ob,n2,g1,g2,_,g3⟩,_⟩:=I.list hB
  exact fin "list" ob its2 n2 (.inl rfl) r2 g1 g2 g3
 ·obtain ⟨its2,r2,⟨ob,g1,g2,n2,g3⟩,_⟩:=I.tuple hB
  exact fin "tuple" ob its2 n2 (.inr rfl) r2 g1 g2 g3
noncomputable def TK (o:Ex)(a:Exs):Ex:=λro mu=>bM (o ro mu) λd m1=>match d with
 | .ref k=>if EF m1 (.ref k)=true then bM (a ro m1) λxs m2=>match sq1 xs m2,m2[k]? with
  | some ys,some (.lst ds)=>if ds.length+ys.length≤sizeLine then some (.non,m2.set k (.lst (ds++ys))) else none
  | _,_=>none
  else none
 | _=>none
theorem Rw {o e:Expr}{m:Ex}{n:Exs}{apos cpos:Pos}(ho:SV X o m)(ha:SVA X [e] n)(hbase:attributeBase o "extend" X.env (eval o X.env)=eval o X.env:=by rfl)
  (hfew:((backTo cpos (starEach [e] X.env)).all (λx=>!x.1)&&(backToKw cpos (keywordEach [] X.env)).all (λx=>x.1.isSome)
   && decide ([e].length+([]:List Keyword).length+(if ([]:List Keyword).isEmpty then 0 else 1)<30))=true:=by rfl)
  (hline:(apos.endLine==cpos.line)=true:=by rfl) (hs:starEach [e] X.env=(false,eval e X.env)::starEach [] X.env:=by rfl) (hplain:(backTo cpos (starEach [] X.env)).any (·.1)=false:=by rfl) :
  SV X (.Call (.Attribute o "extend" apos) [e] [] cpos) (TK m n):=
 ⟨PE.weak (V8 PySem.F.plainAttrs_list PySem.F.slot_list_extend PySem.F.type_list_extend X4 ho.r ha.1 hbase hfew hline hs hplain) λst H Q h=>by
  obtain ⟨th,mu,ro,so,en,t⟩:=h
  refine ⟨th,mu,ro,so,en,t.bind.mono λd th1 mu1 H1 e1 s1 t1 v rv=>?_⟩
  cases d with
  | ref k =>
   unfold Rep at rv
   obtain ⟨a,rfl,ha'⟩:=rv
   by_cases cr:EF mu1 (.ref k)=true
   case neg=>dsimp only at t1;rw [if_neg cr] at t1;exact t1.no.elim
   dsimp only at t1
   rw [if_pos cr] at t1
   obtain ⟨ds0,em⟩:=Kj cr
   obtain ⟨vs,h2,_⟩:=s1.at' k a _ ha' em
   refine ⟨.inl ⟨rfl,vs,SqL.of h2⟩,th1,mu1,ro,s1,en.ext e1 so.out,?_⟩
   refine Tr.mono (Tr.bind t1) λxs th2 mu2 H2 e2 s2 t2 ws rws=>?_
   cases q1:sq1 xs mu2 with
   | none=>rw [q1] at t2;exact t2.no.elim
   | some ys =>
    cases q2:mu2[k]? with
    | none=>rw [q1,q2] at t2;exact t2.no.elim
    | some o =>
     cases o with
     | dct _ _=>rw [q1,q2] at t2;exact t2.no.elim
     | lst ds =>
      rw [q1,q2] at t2
      dsimp only at t2
      by_cases c:ds.length+ys.length≤sizeLine
      ·rw [if_pos c] at t2
       have hk:=e2.at ha'
       obtain ⟨us,g1,g2,g3⟩:=s2.at' k a _ hk q2
       unfold sq1 at q1
       cases q3:Im xs with
       | none=>rw [q3] at q1;cases q1
       | some y =>
        rw [q3] at q1
        rw [Io q3] at rws
        obtain ⟨y',rfl,ry⟩:=DT rws
        obtain ⟨b,zs,rfl,z1,z2,_⟩:=Gw s2 q1 ry
        exact ⟨a,b,us,zs,rfl,rfl,g1,z1.imp id (·.1),by rw [g2.len,z2.len];exact c,t2.retX (.mut (Ap hk) _) (s2.put hk (g2.app z2) (by rw [Aq];exact c)) _ rfl⟩
      ·rw [if_neg c] at t2;exact t2.no.elim
  | _=>exact t1.no.elim⟩
noncomputable def Qv (d:D)(xs:List D)(mu:Sto):Rs D:=match FA mu d,xs with
 | some p,[k]=>if Es k=true then some ((FJ k p.1 p.2).getD .non,mu) else none
 | some p,[k,y]=>if Es k=true then some ((FJ k p.1 p.2).getD y,mu) else none
 | _,_=>none
theorem Qz (hu:X.A.units+64<cLine)(I:L2.Inv X pins st H s){a:Addr}{ks ds:List D}(dc:Ka X.z th H a ks ds){k:D}{u:Value}(hk:Hd s.heap k u){as:List Value}{yd:Value}(has:as=[]∧yd=.none∨as=[yd]){Q:Value->Shared->Prop}
  (q1:∀ d,FJ k ks ds=some d->∀ v r,Rep X.z th H d v->RelV v r->∀ tk,Q r { s with toks:=tk }) (q2:FJ k ks ds=none->∀ tk,Q yd { s with toks:=tk }):wpAny (model X.prog X.w) X.A (call (.builtin "dict.get") (.ref a::u::as)) Q X.xe s:=by
 obtain ⟨ty,ns,_⟩:=QA I dc
 have go:wpAny (model X.prog X.w) X.A.in1 (Builtin.«dict.get» ⟨.ref a::u::as,[]⟩) (λfin s'=>∃ v,fin=.done (.ret v)∧Q v s') X.xe s:=by
  rcases has with ⟨rfl,rfl⟩|rfl
  ·refine (?_:wpAny _ _ (dictGet a u >>= _) _ _ s)
   cases e:FJ k ks ds with
   | some d =>
    obtain ⟨v,r,x1,x2,x3⟩:=Nb I dc hk e
    exact Aa (x3 (by rw [Around.in1_units];omega) λtk=>Ac ⟨r,rfl,q1 d e v r x1 x2 tk⟩)
   | none =>
    refine Aa (M9 (A:=X.A.in1) I dc hk e (by rw [Around.in1_units];omega) λtk=>?_)
    exact Aa (wpAny_missed_other ns (Ac ⟨_,rfl,q2 e tk⟩))
  ·refine (?_:wpAny _ _ (dictGet a u >>= _) _ _ s)
   cases e:FJ k ks ds with
   | some d =>
    obtain ⟨v,r,x1,x2,x3⟩:=Nb I dc hk e
    exact Aa (x3 (by rw [Around.in1_units];omega) λtk=>Ac ⟨r,rfl,q1 d e v r x1 x2 tk⟩)
   | none =>
    refine Aa (M9 (A:=X.A.in1) I dc hk e (by rw [Around.in1_units];omega) λtk=>?_)
    exact Aa (wpAny_missed_other ns (Ac ⟨_,rfl,q2 e tk⟩))
 rcases has with ⟨rfl,rfl⟩|rfl
 ·exact AY PySem.F.slot_dict_get ty PySem.F.entry_dict_get go (PySem.F.args_dict_get_2 _ _)
 ·exact AY PySem.F.slot_dict_get ty PySem.F.entry_dict_get go (PySem.F.args_dict_get_3 _ _ _)
theorem Xb (hu:X.A.units+64<cLine):MtR X "dict.get" (λx vs H Q=>∃ th mu d ds,StoOk X.z th mu H∧Rep X.z th H d x∧RepL X.z th H ds vs∧Tr X.z th H (Qv d ds mu) (KV' X.z Q)):=by
 intro pins s st H x xs v us Q I rx rxs h
 obtain ⟨th,mu,d,ds,so,r1,r2,t⟩:=h
 unfold Qv at t
 cases e:FA mu d with
 | none=>rw [e] at t;exact t.no.elim
 | some p =>
  rw [e] at t
  obtain ⟨a,rfl,dc⟩:=Fc so e r1
  cases rx
  match ds,r2,t with
  | [],_,t=>exact t.no.elim
  | [k],r2,t =>
   dsimp only at t
   by_cases c:Es k=true
   ·rw [if_pos c] at t
    obtain ⟨kv,rfl,rk⟩:=DT r2
    obtain ⟨u,rfl,ru⟩:=vals1 rxs
    refine Qz hu I dc (IY I c rk ru) (.inl ⟨rfl,rfl⟩) (λd' e' v' r' z1 z2 tk=>?_) λe' tk=>?_
    ·rw [e'] at t
     exact ⟨v',H,I.tok _,z2,t.ret so _ z1⟩
    ·rw [e'] at t
     exact ⟨.non,H,I.tok _,rfl,t.ret so _ rfl⟩
   ·rw [if_neg c] at t;exact t.no.elim
  | [k,y],r2,t =>
   dsimp only at t
   by_cases c:Es k=true
   ·rw [if_pos c] at t
    obtain ⟨kv,yv,rfl,rk,ry⟩:=Jo r2
    obtain ⟨u,w',rfl,ru,rw'⟩:=vals2 rxs
    refine Qz hu I dc (IY I c rk ru) (.inr rfl) (λd' e' v' r' z1 z2 tk=>?_) λe' tk=>?_
    ·rw [e'] at t
     exact ⟨v',H,I.tok _,z2,t.ret so _ z1⟩
    ·rw [e'] at t
     exact ⟨yv,H,I.tok _,rw',t.ret so _ ry⟩
   ·rw [if_neg c] at t;exact t.no.elim
  | _::_::_::_,_,t=>exact t.no.elim
noncomputable def tBD (r:V->List V->Hp->VK->Prop)(to:TE)(t:TA):TE:=fun σ H Q=>to σ H λx H1=>(∃ a xs,x=.ref a∧H1 a=some (Hb a xs))∧t σ H1 λvs H2=>r x vs H2 Q
theorem ZF {o e:Expr}{es:List Expr}{to:TE}{t:TA}{name:Str}{apos cpos:Pos}{id:String}{r:V->List V->Hp->VK->Prop}(slot:Slot "dict" name id)(hty:typeOf (.builtin id)=pure (.type "method_descriptor"))(hm:MtR X id r)(ho:PE X o to)(ha:PA X (e::es) t)
  (hbase:attributeBase o name X.env (eval o X.env)=eval o X.env)
  (hfew:((backTo cpos (starEach (e::es) X.env)).all (λx=>!x.1)&&(backToKw cpos (keywordEach [] X.env)).all (λx=>x.1.isSome)
   && decide ((e::es).length+([]:List Keyword).length+(if ([]:List Keyword).isEmpty then 0 else 1)<30))=true)
  (hline:(apos.endLine==cpos.line)=true) (hs:starEach (e::es) X.env=(false,eval e X.env)::starEach es X.env) (hplain:(backTo cpos (starEach es X.env)).any (·.1)=false) :
  PE X (.Call (.Attribute o name apos) (e::es) [] cpos) (tBD r to t):=by
 intro pins s st H Q I h
 refine wpAny_Call_method_late hbase hfew hline rfl (thn (ho pins s st H _ I h) λv s1 ⟨x,H1,I1,r1,⟨a,xs,ex,hd⟩,q1⟩=>?_)
 subst ex
 cases r1
 obtain ⟨⟨z,ob,es',ep,g1,g2,g3,g4⟩,_⟩:=(show ObjOk X.prog X.w H1 s1.heap a (Hb a xs) from I1.hok a _ hd)
 refine ⟨"dict",id,PySem.F.plainAttrs_dict,slot,hty,⟨ob,g1,g2.1⟩,λb e=>by cases e;exact ⟨ob,g1,g2.2.1⟩,?_⟩
 have hA:=ha cpos pins s1 st H1 _ I1 q1
 rw [hs] at hA ⊢
 refine Calls.callWith_builtin (by show (false||(backTo cpos (starEach es X.env)).any (·.1))=false;rw [hplain]<;>rfl) (Calls.evalArgs_plain ?_)
 exact thn hA λus s2 ⟨vs,H2,I2,r2,q2⟩=>hm pins s2 st H2 (.ref a) vs (.ref a) us Q I2 rfl r2 q2
noncomputable def JN (o:Ex)(a:Exs):Ex:=λro mu=>bM (o ro mu) λd m1=>if (FA m1 d).isSome=true then bM (a ro m1) λxs m2=>Qv d xs m2 else none
theorem Na (hu:X.A.units+64<cLine){o e:Expr}{es:List Expr}{m:Ex}{n:Exs}{apos cpos:Pos}(ho:SV X o m)(ha:SVA X (e::es) n)(hbase:attributeBase o "get" X.env (eval o X.env)=eval o X.env:=by rfl)
  (hfew:((backTo cpos (starEach (e::es) X.env)).all (λx=>!x.1)&&(backToKw cpos (keywordEach [] X.env)).all (λx=>x.1.isSome)
   && decide ((e::es).length+([]:List Keyword).length+(if ([]:List Keyword).isEmpty then 0 else 1)<30))=true:=by rfl)
  (hline:(apos.endLine==cpos.line)=true:=by rfl) (hs:starEach (e::es) X.env=(false,eval e X.env)::starEach es X.env:=by rfl) (hplain:(backTo cpos (starEach es X.env)).any (·.1)=false:=by rfl) :
  SV X (.Call (.Attribute o "get" apos) (e::es) [] cpos) (JN m n):=
 ⟨PE.weak (ZF PySem.F.slot_dict_get PySem.F.type_dict_get (Xb hu) ho.r ha.1 hbase hfew hline hs hplain) λst H Q h=>by
  obtain ⟨th,mu,ro,so,en,t⟩:=h
  refine ⟨th,mu,ro,so,en,t.bind.mono λd th1 mu1 H1 e1 s1 t1 v rv=>?_⟩
  cases q:FA mu1 d with
  | none=>rw [q] at t1;exact t1.no.elim
  | some pr =>
   rw [q] at t1
   rw [if_pos (show (some pr).isSome=true from rfl)] at t1
   obtain ⟨a,rfl,dc⟩:=Fc s1 q rv
   obtain ⟨xs,hx,_⟩:=id dc
   refine ⟨⟨a,xs,rfl,hx⟩,th1,mu1,ro,s1,en.ext e1 so.out,?_⟩
   exact Tr.mono (Tr.bind t1) λys th2 mu2 H2 e2 s2 t2 ws rws=>⟨th2,mu2,d,ys,s2,rv.ext e2 s1.out,rws,t2⟩⟩
end
end PV
namespace L2
open PySem PySem.Spec PyProof.Rows
inductive IsC:Expr->List Comprehension->Prop
 | l {elt gens sc pos}:IsC (.ListComp elt gens sc pos) gens
 | d {k v gens sc pos}:IsC (.DictComp k v gens sc pos) gens
noncomputable def J4 (g:Comprehension)(it:Value)(env:Env)(step:Sem Unit)(c:Code):Sem Fin:=do
 standAt g.iter.pos
 match←pyNext it with
 | none=>pure (.done .next)
 | some v =>
  letOwnedTupleGo g.target it v
  assign g.target env v
  let mut ok:=true
  for c in g.ifs do
   if ok then ok←isTrue c env (eval c env)
  if ok then step
  again c
noncomputable def Qn (kx vx:Expr)(D:Addr)(env:Env):Sem Unit:=do
 let kv←eval kx env
 let vv←holding [kv] (eval vx env)
 standAt { kx.pos with endLine:=vx.pos.endLine,endCol:=vx.pos.endCol }
 holding [kv,vv] (dictSet D kv vv)
noncomputable def deeper (e iter:Expr)(acc:Value)(env:Env):Sem Unit:=do
 let x←eval iter env
 standAt iter.pos
 let x←foldedSetIterable iter env x
 let _←runOwn (.compStart e 1 (← holding [x] (pyIter x)) acc env) env
theorem VS {k v t i ifs sc pos it D env}:compTurn (.DictComp k v [⟨t,i,ifs,0⟩] sc pos) 0 it (.ref D) env=J4 ⟨t,i,ifs,0⟩ it env (Qn k v D env) (.compLoop (.DictComp k v [⟨t,i,ifs,0⟩] sc pos) 0 it (.ref D) env):=rfl
section
variable {prog:Program} {w:World} {A:Around} {R:Result->Shared->Prop} {s:Shared} {e:Expr} {gens:List Comprehension} {g:Comprehension} {depth:Nat} {it acc:Value} {env:Env} {step:Sem Unit}
theorem Aar (hc:IsC e gens)(heq:compTurn e depth it acc env=J4 g it env step (.compLoop e depth it acc env))(J:Nat->Shared->Prop)
  (turn:∀ (n:Nat) (z:Shared),J n z->Go prog w A (pyNext it) (λr z1=>match r with
   | .none=>R (.ok .next) z1
   | .some v=>Go prog w A (letOwnedTupleGo g.target it v) (λ_ s1=>Go prog w A (assign g.target env v) (λ_ s2=>Go prog w A (tests env g.ifs) (λok s3 =>
     if ok=true then Go prog w A step (λ_ z2=>∃ m,m<n∧J m z2) s3 else ∃ m,m<n∧J m s3) s2) s1) z1) z) (n:Nat) (h:J n s) :
  codeAny (model prog w) A (Code.compLoop e depth it acc env) R s:=by
 have st:∀ (n:Nat) (z:Shared),J n z->Go prog w A (compTurn e depth it acc env)
   (λfin z'=>match fin with
    | .done f=>R (.ok f) z'
    | .again c'=>c'=Code.compLoop e depth it acc env∧∃ m,m<n∧J m z') z:=by
  intro n z hz
  rw [heq]
  unfold J4
  refine Aa (wpAny_standAt (Aa (thn (turn n z hz) λr z1 h1=>?_)))
  cases r with
  | none=>exact Ac h1
  | some v =>
   refine Aa (thn h1 λ_ z2 h2=>Aa (thn h2 λ_ z3 h3=>Aa (thn h3 λok z4 h4=>?_)))
   cases ok with
   | false=>exact Ac (And.intro rfl h4)
   | true=>exact Aa (thn h4 λx z5 h5=>Ac (And.intro rfl h5))
 cases hc with
 | l=>exact codeAny_loop rfl J (λn z hz=>wpAny_noted (BQ (st n z hz) (λ_ _ q=>q) λ_ _ q=>q.elim)) n h
 | d=>exact codeAny_loop rfl J (λn z hz=>wpAny_noted (BQ (st n z hz) (λ_ _ q=>q) λ_ _ q=>q.elim)) n h
theorem Wt (hc:IsC e gens)(hg:gens[depth]? = some g)(ha:g.is_async=0)
  (h0:codeAny (model prog w) A (.compLoop e depth it acc env) R s)
  (h:wpAny (model prog w) A (pyIter it) (λit' s'=>codeAny (model prog w) A (.compLoop e depth it' acc env) R s') (notedBy (model prog w) A env λx s'=>R (.error x) s') s) :
  codeAny (model prog w) A (.compStart e depth it acc env) R s:=by
 have st:wpAny (model prog w) A (compStart e depth it acc env) (λfin s'=>match fin with
    | .done f=>R (.ok f) s'
    | .again c'=>c'.quiet=true∧codeAny (model prog w) A c' R s') (notedBy (model prog w) A env λx s'=>R (.error x) s') s:=by
  have cl:clausesOf e=gens:=by cases hc<;>rfl
  have qt:(Code.compLoop e depth it acc env).quiet=true:=by cases hc<;>rfl
  have qt':∀ it',(Code.compLoop e depth it' acc env).quiet=true:=λit'=>by cases hc<;>rfl
  unfold compStart
  rw [cl,hg]
  simp only [Option.elim,ha,bne_self_eq_false,AH,A4,pure_bind]
  refine Aa (wpAny_askSetting (wpAny_ite ?_))
  split
  ·first
    | exact Aa (Ac (Ac (And.intro qt h0)))
    | exact Ac (And.intro qt h0)
  ·exact Aa (Bh (Aa (wpAny_standAt (Aa (BQ h (λit' s' h'=>Ac (And.intro (qt' _) h')) λ_ _ x=>x)))))
 cases hc with
 | l =>
  refine codeAny_of_tree ?_
  exact wpAny_notedAt (BQ st (λfin _ q=>q) λ_ _ q=>q)
 | d =>
  refine codeAny_of_tree ?_
  exact wpAny_notedAt (BQ st (λfin _ q=>q) λ_ _ q=>q)
end
noncomputable abbrev TM (α:Type):=α->St->Hp->(α->St->Hp->Prop)->Prop
structure Acc (α:Type) where
 ao:α->Obj->Prop
 nc:∀ a o,ao a o->∀ v,o.data≠.cell v
structure DOk (X:Cx) (D:Addr):Prop where
 up:X.s₀.heap.objs.size≤D
 nl:D≠X.env.locals
 nf:D∉X.fs
 cl:∀ x c,X.env.cells.lookup x=some c->c≠D
 pn:∀ p∈X.pn,p.1≠D
noncomputable def PM (X:Cx){α:Type}(K:Acc α)(D:Addr)(m:Sem Unit)(t:TM α):Prop:=
 ∀ (pins:List (Addr×Obj)) (s:Shared) (σ:St) (H:Hp) (Q:α->St->Hp->Prop) (a:α) (o:Obj),K.ao a o->(∀ p∈pins,p.1≠D)->Inv X (pins++[(D,o)]) σ H s->t a σ H Q ->
  wpAny (model X.prog X.w) X.A m (λ_ s'=>∃ a' o' σ' H',K.ao a' o'∧Inv X (pins++[(D,o')]) σ' H' s'∧Q a' σ' H') X.xe s
noncomputable def CGo {α:Type}(J:It)(g:TG)(tt:TT)(tm:TM α)(a:α)(σ:St)(H:Hp)(Q:α->St->Hp->Prop):Prop:=
 ∃ W:Nat->Nat->α->St->Hp->Prop,(∃ m,W 0 m a σ H)∧∀ i m a σ' H',W i m a σ' H' ->
  ((J.stop i H'∧Q a σ' H') ∨
   (J.go i H'∧∀ x H2,J.yld i H' x H2->g x σ' H2 fun σ3 H3=>tt σ3 H3 λb H4 =>
    if b=true then tm a σ3 H4 λa' σ5 H5=>∃ m',m'<m∧W (i+1) m' a' σ5 H5 else ∃ m',m'<m∧W (i+1) m' a σ3 H4))
section
variable {X:Cx} {α:Type} {K:Acc α} {D:Addr} {R:Result->Shared->Prop} {e:Expr} {gens:List Comprehension} {g:Comprehension} {depth:Nat} {step:Sem Unit} {tg:TG} {tt:TT} {tm:TM α}
theorem Inv.pins_sub {pins pins':List (Addr×Obj)}{σ:St}{H:Hp}{s:Shared}(I:Inv X pins σ H s)(h:∀ p∈pins',p∈pins):Inv X pins' σ H s:=I.pins_of λp hp=>I.pin p (Aj _ (h p hp))
theorem cgo (hc:IsC e gens)(hcalm:X.calm=true)(hx:X.xe=λ_ _=>False){it:Addr}(heq:compTurn e depth (.ref it) (.ref D) X.env=J4 g (.ref it) X.env step (.compLoop e depth (.ref it) (.ref D) X.env))
  (hg:PG X g.target tg) (ht:PF X g.ifs tt) (hm:PM X K D step tm) {J:It} {fp:List Addr} {tn:Nat->Heap->Prop} (T:Turn X.prog X.w X.K g.target J fp it tn)
  {pins:List (Addr×Obj)} {s:Shared} {σ:St} {H:Hp} {a:α} {o:Obj} {Q:α->St->Hp->Prop} (ao:K.ao a o) (I:Inv X (pins++[(D,o)]) σ H s) (st:tn 0 s.heap) (f:∀ b∈fp,IV X pins H b) (fD:∀ b∈fp,D≠b) (pD:∀ p∈pins,p.1≠D)
  (w:CGo J tg tt tm a σ H Q) (fin:∀ s' a' o' σ' H',K.ao a' o'->Inv X (pins++[(D,o')]) σ' H' s'->Q a' σ' H'->R (.ok .next) s') :
  codeAny (model X.prog X.w) X.A (.compLoop e depth (.ref it) (.ref D) X.env) R s:=by
 obtain ⟨W,⟨m0,w0⟩,turn⟩:=w
 have stat:∀ {H':Hp} (o':Obj),(∀ b∈fp,H' b=none)->∀ b∈fp,IV X (pins++[(D,o')]) H' b:=λ{H'} o' hn b hb=>by
  obtain ⟨_,f1,f2,f3,f4,f5⟩:=f b hb
  refine ⟨hn b hb,f1,f2,f3,f4,λp hp=>?_⟩
  rcases AI.mp hp with z|z
  ·exact f5 p (AZ _ z)
  ·rcases AI.mp z with z|z
   ·exact f5 p (Aj _ z)
   ·rw [Al.mp z];exact fD b hb
 refine Aar hc heq (λn s'=>∃ i a o σ' H',K.ao a o∧Inv X (pins++[(D,o)]) σ' H' s'∧tn i s'.heap∧(∀ b∈fp,H' b=none)∧W i n a σ' H') ?_ m0 ⟨0,a,o,σ,H,ao,I,st,λb hb=>(f b hb).1,w0⟩
 rintro n s3 ⟨i,a3,o3,σ3,H3,ao3,I3,st3,fr3,w3⟩
 rcases turn i n a3 σ3 H3 w3 with ⟨stop,qn⟩|⟨go,stp⟩
 ·refine thn (T.done X rfl rfl rfl hcalm i _ s3 σ3 H3 (λ_ _=>False) I3 (stat o3 fr3) st3 stop) λr s4 ⟨hr,I4⟩=>?_
  subst hr
  exact fin s4 a3 o3 σ3 H3 ao3 I4 qn
 ·refine thn (T.item X rfl rfl rfl hcalm i _ s3 σ3 H3 (λ_ _=>False) I3 (stat o3 fr3) st3 go) λr s4 ⟨u,hr,h4⟩=>?_
  subst hr
  refine thn h4 λ_ s5 ⟨x,H5,I5,r5,y5,st5,fr5⟩=>?_
  have I5':=I5.pinned (stat o3 fr5) (T.obj _ _ st5)
  have a1:=hg _ s5 σ3 H5 x u _ I5' r5 (stp x H5 y5)
  rw [hx] at a1
  refine thn a1 λ_ s6 ⟨σ6,H6,I6,q6⟩=>?_
  have b1:=ht _ s6 σ6 H6 _ I6 q6
  rw [hx] at b1
  refine thn b1 λok s7 ⟨H7,I7,q7⟩=>?_
  have keep:∀ {s':Shared} {pl:List (Addr×Obj)} {σ':St} {H':Hp},Inv X pl σ' H' s'->(∀ p∈HG fp s5.heap,p∈pl)->tn (i+1) s'.heap∧∀ b∈fp,H' b=none:=λ{s' pl σ' H'} J' hs=>by
   refine ⟨T.keep _ _ _ st5 λb hb o e=>(J'.pin (b,o) (Aj _ (hs _ (EH hb e)))).1,λb hb=>?_⟩
   obtain ⟨o,e,_⟩:=T.obj _ _ st5 b hb
   exact (J'.pin (b,o) (Aj _ (hs _ (EH hb e)))).2.1
  cases ok with
  | false =>
   rw [if_neg AB] at q7 ⊢
   obtain ⟨m',hm',w7⟩:=q7
   obtain ⟨k1,k2⟩:=keep I7 λp hp=>Aj _ hp
   exact ⟨m',hm',i+1,a3,o3,σ6,H7,ao3,I7.unpinned,k1,k2,w7⟩
  | true =>
   rw [if_pos rfl] at q7 ⊢
   have I8:Inv X ((pins++HG fp s5.heap)++[(D,o3)]) σ6 H7 s7:=I7.pins_sub λp hp=>by
    simp only [AI] at hp ⊢
    rcases hp with (z|z)|z
    ·exact .inl (.inl z)
    ·exact .inr z
    ·exact .inl (.inr z)
   have c1:=hm (pins++HG fp s5.heap) s7 σ6 H7 _ a3 o3 ao3 (λp hp=>by
    rcases AI.mp hp with z|z
    ·exact pD p z
    ·exact Ne.symm (fD p.1 (L7 z).1)) I8 q7
   rw [hx] at c1
   refine thn c1 λ_ s9 ⟨a9,o9,σ9,H9,ao9,I9,m',hm',w9⟩=>?_
   obtain ⟨k1,k2⟩:=keep I9 λp hp=>AZ _ (Aj _ hp)
   exact ⟨m',hm',i+1,a9,o9,σ9,H9,ao9,I9.pins_sub λp hp=>by
    simp only [AI] at hp ⊢
    rcases hp with z|z
    ·exact .inl (.inl z)
    ·exact .inr z,k1,k2,w9⟩
end
section
variable {X:Cx} {α:Type} {scope:Scope} {fv:List (Nat×Str)}
theorem Oi {pins:List (Addr×Obj)}{σ:St}{H:Hp}{s:Shared}{fp:List Addr}{cl:List (Str×Addr)}{h₁:Heap}{own:List Str}{o0:Obj}(I:Inv X pins σ H s)(L:KS X scope fv)(hf:∀ b∈fp,IV X pins H b)(hfo:∀ b∈fp,∃ o,s.heap.get? b=some o)
  (hsub:∀ x c,cl.lookup x=some c->X.env.cells.lookup x=some c) (hhas:∀ y∈scope.names,y.2=.free->∃ c,cl.lookup y.1=some c)
  (hns:h₁.Ns (s.heap.objs.size+1) (λx=>([]:List (Str×Value)).reverse.lookup x)) (hold:∀ b o,s.heap.get? b=some o->h₁.get? b=some o) (hD:h₁.get? s.heap.objs.size=some o0) (nc0:∀ v,o0.data≠.cell v) {tk:Nat} :
  Inv (CF X scope (own++fv.map (·.2)) cl (s.heap.objs.size+1) s H fp) [(s.heap.objs.size,o0)] (st0 own.length fv σ) H { s with heap:=h₁,toks:=tk }:=by
 have nst:∀ b,s.heap.objs.size≤b->b∉frs X.stack:=λb hb hm=>by
  rcases An.mp (I.stkSub b hm) with e|e
  ·exact absurd I.lt (by rw [← e];exact Nat.not_lt.mpr hb)
  ·exact I.nofs hb e
 have fpst:∀ b∈fp,b∉frs X.stack:=λb hb hm=>by
  obtain ⟨_,f1,f2,_⟩:=hf b hb
  rcases An.mp (I.stkSub b hm) with e|e
  ·exact f1 e
  ·exact f2 e
 have celllt:∀ x c,cl.lookup x=some c->c<s.heap.objs.size:=λx c e=>by
  obtain ⟨v,z⟩:=I.cell x c (hsub x c e)
  exact z.lt
 refine ⟨⟨I.ok.mod,L.kind,I.ok.glob,I.ok.blt,Bc _,λx y c h1 h2=>I.ok.inj x y c (hsub _ _ h1) (hsub _ _ h2),λx hx=>hhas (x,.free) (GR L.cell hx) rfl,λ_ _ z=>Bool.noConfusion z,I.ok.hd,I.ok.frames,.inl rfl,
   λb hb=>⟨?_,λx c e z=>?_⟩,I.bs,AK I.ok.bsz I.sz,λb o e hb=>?_,fpst,I.stack,I.stkFree⟩,
  rfl,I.bare,Un.kept hold,⟨_,hns,λi x v e1 e2 e3=>?_⟩,λx c e=>?_,I.hok.fresh (Bc _),λx c e=>I.freeC x c (hsub x c e),λp hp=>?_,I.hok.kept hold,?_⟩
 ·obtain ⟨o,e⟩:=hfo b hb
  exact Ar (A0 (Ak e))
 ·exact (hf b hb).2.2.2.2.1 x c (hsub x c e) z
 ·obtain ⟨_,_,_,f3,_⟩:=hf b hb
  rcases f3 with f3|f3
  ·exact I.ok.noex b o e f3
  ·exact absurd (Aw (Ak e) (AK I.ok.bsz f3)) (A6 _)
 ·have e1':(own++fv.map (·.2))[i]? = some x:=e1
  unfold st0 at e2
  by_cases hi:i<own.length
  ·rw [Av (by simpa using hi),Bw] at e2
   split at e2<;>cases e2
  ·rw [AS (by simpa using hi),List.length_replicate,Au] at e2
   rw [AS (by simpa using hi),Au] at e1'
   cases hp:fv[i-own.length]? with
   | none=>rw [hp] at e1';cases e1'
   | some p =>
    rw [hp] at e1' e2
    have ex:p.2=x:=AJ e1'
    have ev:σ.getD p.1 none=some v:=AJ e2
    obtain ⟨q1,q2,q3⟩:=L.fv.get hp
    rw [ex] at q1 q2 q3
    have hσ:σ[p.1]? = some (some v):=by
     rw [AF] at ev
     cases q:σ[p.1]? with
     | none=>rw [q] at ev;cases ev
     | some w=>rw [q] at ev;exact congrArg some ev
    obtain ⟨m,_,hl⟩:=I.loc
    obtain ⟨u,r,l⟩:=hl p.1 x v q1 hσ (by rcases q2 with z|z;exact .inr (.inl z);exact .inr (.inr z))
    refine ⟨u,r,.inr ⟨q3,?_⟩⟩
    rcases l with ⟨k,_⟩|⟨_,c,ec,z⟩
    ·exfalso
     have k':X.env.scope.names.lookup x=some .local:=k
     rcases q2 with z|z<;>rw [k'] at z<;>cases z
    ·obtain ⟨c',ec'⟩:=hhas (x,.free) (GR L.cell q3) rfl
     have:c'=c:=AJ ((hsub x c' ec').symm.trans ec)
     subst this
     obtain ⟨o,ho,hd⟩:=z
     exact ⟨c',ec',o,hold _ _ ho,hd⟩
 ·obtain ⟨v,o,ho,hd⟩:=I.cell x c (hsub x c e)
  exact ⟨v,o,hold _ _ ho,hd⟩
 ·have e:p=(s.heap.objs.size,o0):=by simpa [CF] using hp
  subst e
  exact ⟨hD,I.hok.fresh (Ah _),Ar (AQ _),nst _ (Ah _),nc0⟩
 ·show (st0 own.length fv σ).length=(own++fv.map (·.2)).length
  unfold st0
  simp
structure OY (α:Type) extends Acc α where
 cls:String
 d0:Data
 a0:α
 ao0:ao a0 { cls:=.type cls,dict:=none,data:=d0 }
 fin:α->Prop
 ho:Addr->α->HO
 sz:sizeOk d0
 fr:({ cls:=.type cls,dict:=none,data:=d0 }:Obj).isFreed=false
 lay:∀ (P:Program) (w:World) (H:Hp) (h:Heap) (D:Addr) (a:α) (o:Obj),ao a o->fin a->h.get? D=some o->sysModules<D->ObjOk P w (upd H D (ho D a)) h D (ho D a)
noncomputable def tCo (wi:TI)(nc:Nat)(fv:List (Nat×Str))(B:OY α)(g:TG)(tt:TT)(tm:TM α):TE:=fun σ H Q=>wi σ H λJ H1=>CGo J g tt tm B.a0 (st0 nc fv σ) H1 λa _ H'=>B.fin a∧∀ p,H' p=none->Q (.ref p) (upd H' p (B.ho p a))
theorem S6 {e:Expr}{gens:List Comprehension}{g:Comprehension}{rest:List Comprehension}{own:List Str}{wi:TI}{B:OY α}{tg:TG}{tt:TT}{tm:TM α}{step:Addr->Addr->List (Str×Addr)->Sem Unit}{pos2:Pos}{newAcc:Sem Value}
  {pins:List (Addr×Obj)} {s:Shared} {σ:St} {H:Hp} {Q:VK} {use:Option (Value->Sem Unit)} {Qc:Value->Shared->Prop} (hc:IsC e gens) (hgens:gens=g::rest) (ha:g.is_async=0) (hnew:newAcc=newObj (.type B.cls) B.d0) (L:KS X scope fv) (hi:PI X g.target g.iter wi)
  (heq:∀ it cl C D,compTurn e 0 (.ref it) (.ref D) (compEnvC scope cl C X.env)=J4 g (.ref it) (compEnvC scope cl C X.env) (step D C cl) (.compLoop e 0 (.ref it) (.ref D) (compEnvC scope cl C X.env)))
  (hg:∀ cl C s₁ H₁ fp,PG (CF X scope (own++fv.map (·.2)) cl C s₁ H₁ fp) g.target tg)
  (ht:∀ cl C s₁ H₁ fp,PF (CF X scope (own++fv.map (·.2)) cl C s₁ H₁ fp) g.ifs tt)
  (hm:∀ cl C s₁ H₁ fp D,DOk (CF X scope (own++fv.map (·.2)) cl C s₁ H₁ fp) D->PM (CF X scope (own++fv.map (·.2)) cl C s₁ H₁ fp) B.toAcc D (step D C cl) tm)
  (hs:∀ x,foldedSetIterable g.iter X.env x=pure x) (hb:∀ {s2:Shared} {H2:Hp},Inv X pins σ H2 s2->sysModules<s2.heap.objs.size) (I:Inv X pins σ H s) (h:tCo wi own.length fv B tg tt tm σ H Q)
  (fin:∀ (s6:Shared) (H':Hp) (D C:Addr) (m:Str->Option Value),Inv X pins σ H' s6->IV X pins H' C->s6.heap.Ns C m->Q (.ref D) H'->compPost (model X.prog X.w) X.A X.xe use Qc (.ref D) C (.ok .next) s6) :
  wpAny (model X.prog X.w) X.A (comprehension e scope X.env pos2 newAcc false (eval g.iter X.env) use) Qc X.xe s:=by
 obtain ⟨cl,hclos,hsub,hhas⟩:=Je (scope:=scope) (env:=X.env) λy hy hf=>I.ok.has y.1 (L.free y hy hf)
 have hcl:clausesOf e=g::rest:=by subst hgens;cases hc<;>rfl
 refine wpAny_comprehension_free (use:=use) hcl hs hclos L.kind L.names (thn (hi pins s σ H _ I h) λv s1 h1=>thn h1 λitv s2 h2=>?_)
 obtain ⟨it,fp,tn,J,H2,e2,I2,T,st2,f2,w⟩:=h2
 subst e2
 have hfo:∀ b∈fp,∃ o,s2.heap.get? b=some o:=λb hb=>let ⟨o,e,_⟩:=T.obj _ _ st2 b hb;⟨o,e⟩
 rw [hnew]
 refine AO (hd:=B.sz) (wpAny_newFunctionEnv L.cell (by intro y hy;simp at hy) (λh₁ hns₁ hsb₁=>?_) L.kind)
 dsimp only at hns₁ hsb₁ ⊢
 have hCe:(s2.heap.push { cls:=.type B.cls,dict:=none,data:=B.d0 }).objs.size=s2.heap.objs.size+1:=Bt _ _
 rw [hCe] at hns₁ hsb₁ ⊢
 have old:∀ b o,s2.heap.get? b=some o->h₁.get? b=some o:=λb o e=>hsb₁.extBut b o (Ar (A0 (Ak e))) (Ad _ (Ad _ e))
 have hD₁:h₁.get? s2.heap.objs.size=some { cls:=.type B.cls,dict:=none,data:=B.d0 }:=hsb₁.extBut _ _ (Ar (AQ _)) (Ad _ (Am _ B.fr))
 have I4:=Oi (own:=own) (tk:=s2.toks+([]:List (Str×Value)).length) I2 L f2 hfo hsub hhas hns₁ old hD₁ (B.nc _ _ B.ao0)
 have st4:tn 0 h₁:=T.keep _ _ _ st2 λb _ o e=>old b o e
 have celllt:∀ x c,cl.lookup x=some c->c<s2.heap.objs.size:=λx c e=>by
  obtain ⟨v,z⟩:=I2.cell x c (hsub x c e)
  exact z.lt
 have nst:s2.heap.objs.size∉frs X.stack:=λhm=>by
  rcases An.mp (I2.stkSub _ hm) with e|e
  ·exact absurd I2.lt (by rw [← e];exact A6 _)
  ·exact I2.nofs (Ah _) e
 have dk:DOk (CF X scope (own++fv.map (·.2)) cl (s2.heap.objs.size+1) s2 H2 fp) s2.heap.objs.size:=⟨Ah _,Ar (AQ _),nst,λx c e=>Ar (celllt x c e),λp hp=>nomatch hp⟩
 have fpok:∀ b∈fp,IV (CF X scope (own++fv.map (·.2)) cl (s2.heap.objs.size+1) s2 H2 fp) [] H2 b:=λb hb=>by
  obtain ⟨o,eo⟩:=hfo b hb
  have blt:=Ak eo
  refine ⟨(f2 b hb).1,Ar (A0 blt),λhm=>?_,.inl hb,λx c e=>(f2 b hb).2.2.2.2.1 x c (hsub x c e),λp hp=>?_⟩
  ·obtain ⟨_,f1,f3,_⟩:=f2 b hb
   rcases An.mp (I2.stkSub b hm) with e|e
   ·exact f1 e
   ·exact f3 e
  ·have hp':p∈([]:List (Addr×Obj)):=by simpa [CF] using hp
   cases hp'
 have fD:∀ b∈fp,s2.heap.objs.size≠b:=λb hb=>by
  obtain ⟨o,eo⟩:=hfo b hb
  exact BH (Ak eo)
 have big:sysModules<s2.heap.objs.size:=hb I2
 have loop:=cgo (X:=CF X scope (own++fv.map (·.2)) cl (s2.heap.objs.size+1) s2 H2 fp) (R:=compPost (model X.prog X.w) X.A X.xe use Qc (.ref s2.heap.objs.size) (s2.heap.objs.size+1)) (pins:=[]) hc L.calm rfl (heq it cl (s2.heap.objs.size+1) s2.heap.objs.size) (hg cl (s2.heap.objs.size+1) s2 H2 fp) (ht cl (s2.heap.objs.size+1) s2 H2 fp) (hm cl (s2.heap.objs.size+1) s2 H2 fp _ dk) T B.ao0 I4 st4 fpok fD (λp hp=>nomatch hp) w
  λs6 a6 o6 σ6 H6 ao6 I6 q6=>by
   obtain ⟨qf,qn⟩:=q6
   obtain ⟨m,hn,_⟩:=I6.loc
   obtain ⟨eD,nD,_⟩:=I6.pin (s2.heap.objs.size,o6) (Aj _ (Al.mpr rfl))
   have nC:H6 (s2.heap.objs.size+1)=none:=I6.free
   have U:Un (frs X.stack) fp H2 H6 s2.heap s6.heap:=I6.base
   have ok6:HOk X.prog X.w H6 s6.heap:=I6.hok
   have J6:Inv X pins σ (upd H6 s2.heap.objs.size (B.ho s2.heap.objs.size a6)) s6:=I2.call' (s':=s6) I6.os (U.lay (Ah _) nD) (ok6.lay nD (B.lay _ _ _ _ _ _ _ ao6 qf eD big)) I6.bare λb hb=>by
    obtain ⟨_,f1,_,f3,f4,f5⟩:=f2 b hb
    exact ⟨f3,f1,f4,f5⟩
   exact fin s6 _ _ _ m J6 (I2.fpOk (Bc _) (by rw [Dj (BH (AQ _))];exact nC)) hn (qn _ nD)
 exact Wt hc (by rw [hgens];rfl) ha loop (T.self _ 0 _ _ _ st4 loop)
end
end L2
namespace PV
open PySem L2 PySem.Spec PyProof.Rows
noncomputable abbrev EnV (x:Int×V×V) (e:DictEntry):Prop:=e.hash=x.1∧RelV x.2.1 e.key∧RelV x.2.2 e.val
noncomputable def QV:OY (List (Int×V×V)) where
 ao:=λxs o=>∃ es ep,o={ cls:=.type "dict",data:=.dict es ep }∧Paired EnV xs es.toList
 nc:=λa o h v z=>by obtain ⟨es,ep,rfl,_⟩:=h;cases z
 cls:="dict"
 d0:=.dict #[]
 a0:=[]
 ao0:=⟨#[],0,rfl,.nil⟩
 fin:=λ_=>True
 ho:=λD xs=>Hb D xs
 sz:=by size_fits
 fr:=rfl
 lay:=λP w H h D a o ao hf hD hb=>by
  obtain ⟨es,ep,rfl,r⟩:=ao
  exact LC ⟨by simpa using BH hb,_,es,ep,hD,⟨rfl,rfl,rfl⟩,rfl,r⟩
noncomputable def JQ (k:D)(h:Int)(kv vv:V):List D->List (Int×V×V)->List (Int×V×V)
 | k'::ks,x::xs=>if k'=k then (x.1,x.2.1,vv)::xs else x::JQ k h kv vv ks xs
 | _,xs=>xs++[(h,kv,vv)]
theorem G4 {k:D}{h:Int}{kv vv:V}:∀ {ks:List D} {xs:List (Int×V×V)},k∉ks->ks.length=xs.length->JQ k h kv vv ks xs=xs++[(h,kv,vv)]
 | [],_,_,_=>by unfold JQ;rfl
 | _::_,[],_,e=>by simp at e
 | k'::ks,x::xs,n,e=>by
  rw [An,not_or] at n
  rw [JQ,if_neg (λz=>n.1 z.symm),G4 n.2 (by simpa using e)]
  rfl
theorem IF {k:D}{h:Int}{kv vv:V}:∀ {ks:List D} {xs:List (Int×V×V)} {j:Nat} (hj:j<xs.length),ks.Nodup->ks[j]? = some k->JQ k h kv vv ks xs=xs.set j (xs[j].1,xs[j].2.1,vv)
 | [],_,_,_,_,e=>by simp at e
 | _::_,[],_,hj,_,_=>by simp at hj
 | k'::ks,x::xs,0,hj,n,e=>by simp at e;subst e;simp [JQ]
 | k'::ks,x::xs,j+1,hj,n,e=>by
  rw [Bo] at n
  simp at e
  have:k'≠k:=λz=>n.1 (by rw [z];exact Ap e)
  rw [JQ,if_neg this,IF (by simpa using hj) n.2 e]
  rfl
section
variable {X:Cx} {D:Addr} {th:List Addr} {mu:Sto} {H:Hp}
theorem UQ (hu:X.A.units+64<cLine){kx vx:Expr}{tk tv:TE}(dk:DOk X D)(hk:PE X kx tk)(hv:PE X vx tv):PM X QV.toAcc D (Qn kx vx D X.env) (λa σ H Q=>tk σ H λkv H1=>tv σ H1 λvv H2 =>
  ∃ th ks k,RepL X.z th H2 ks (a.map (·.2.1))∧a.map (·.1)=EN X.w ks∧KeysOk ks∧Es k=true∧Rep X.z th H2 k kv∧ks.length<sizeLine∧Q (JQ k (DJ X.w k) kv vv ks a) σ H2):=by
 intro pins s σ H Q a o ao pD I h
 unfold Qn
 refine Aa (thn (hk _ s σ H _ I h) λu s1 ⟨kv,H1,I1,ru,q1⟩=>Aa (AG (thn (hv _ s1 σ H1 _ I1 q1) λr s2 ⟨vv,H2,I2,rr,q2⟩=>Aa (wpAny_standAt (AG ?_)))))
 obtain ⟨th,ks,k,rk,ehs,kok,hasK',rkv,lt,q⟩:=q2
 obtain ⟨es,ep,rfl,pr⟩:=ao
 obtain ⟨g1,n1,l1,f1,_⟩:=I2.pin (D,_) (Aj _ (Aj _ (Al.mpr rfl)))
 dsimp only at g1 n1 l1 f1
 have hd:=IY I2 hasK' rkv ru
 have xl:a.length=ks.length:=by have:=rk.len;simpa using this
 have en:Paired (EnK X.w s2.heap) ks es.toList:=by
  refine JF (by rw [← Dn pr,xl]) λj k e e1 e2=>?_
  obtain ⟨x,y1,y2,y3,y4⟩:=(DN pr j).2 e e2
  have hh:(a.map (·.1))[j]? = (EN X.w ks)[j]?:=by rw [ehs]
  rw [EE,Au,Au,y1,e1] at hh
  obtain ⟨v,v1,v2⟩:=rk.get e1
  rw [Au,y1] at v1
  have v1':x.2.1=v:=by simpa using v1
  exact ⟨by rw [y2];simpa using hh,IY I2 (kok.ok k (Ap e1)) v2 (by rw [← v1'];exact y3)⟩
 have g3:({ cls:=.type "dict",data:=.dict es ep }:Obj).data=.dict es ep:=rfl
 have fin:∀ {h':Heap} {tk':Nat} {es':Array DictEntry} {ep':Nat},Heap.SameBut D s2.heap h'->h'.get? D=some { cls:=.type "dict",data:=.dict es' ep' }->Paired EnV (JQ k (DJ X.w k) kv vv ks a) es'.toList ->
   ∃ a' o' σ' H',QV.ao a' o'∧L2.Inv X (pins++[(D,o')]) σ' H' { s2 with heap:=h',toks:=tk' }∧Q a' σ' H':=λ{h' tk' es' ep'} sb hD pr'=>by
  have I3:L2.Inv X pins σ H2 { s2 with heap:=h',toks:=tk' }:=(I2.pins_sub λp hp=>AZ _ hp).turned (t':=tk') (it:=D) (λb o hb e=>(sb.2 b hb).trans e) n1 dk.nl (.inr dk.up) dk.cl λp hp=>by
   rcases AI.mp hp with z|z
   ·exact dk.pn p z
   ·exact pD p z
  refine ⟨_,_,σ,H2,⟨es',ep',rfl,pr'⟩,I3.pins_of λp hp=>?_,q⟩
  rcases AI.mp hp with z|z
  ·exact I3.pin p (Aj _ z)
  ·rw [Al.mp z]
   exact ⟨hD,n1,l1,f1,λv z=>by cases z⟩
 unfold dictSet
 have hu8:X.A.units+8<cLine:=by omega
 refine AG (Aa (hd.hash hu8 λtk=>?_))
 unfold dictSetHashed
 refine AG (Aa (Lk (s:={ s2 with toks:=tk }) hu8 hd g1 g3 en kok.nd (λz=>?_) λj ej=>?_))
 ·have hz0:es.size≤sizeLine:=by rw [← Array.length_toList,← Dn en];omega
  refine Aa (Bh (wpAny_updateDictKeys (s:={ s2 with toks:=tk }) g1 g3 (hz:=hz0) ?_))
  have so1:=AN (Obj.mapDictKeys (·.push ⟨DJ X.w k,u,r⟩)) g1 (BU (Obj.data_mapDictKeys g3 _))
  refine fin (es':=es.push ⟨DJ X.w k,u,r⟩) (ep':=ep+1) (Ay ..) so1 ?_
  rw [G4 z xl.symm,BM]
  exact G1 pr (.cons ⟨rfl,ru,rr⟩ .nil)
 ·have hj:j<a.length:=by
   have:=(Af.mp ej).1
   omega
  have hje:j<es.size:=by rw [← Array.length_toList,← Dn pr];exact hj
  obtain ⟨y,y1,y2,y3,y4⟩:=(DN pr j).1 a[j] (As hj)
  rw [Az] at y1
  refine Aa (Bh (Aa (wpAny_updateDict (s:={ s2 with toks:=tk }) g1 g3 (wpAny_point ?_))))
  have so1:=AN (Obj.mapDict (·.modify j λe=>{ e with val:=r })) g1 (BU (Obj.data_mapDict g3 _))
  refine fin (es':=es.modify j λe=>{ e with val:=r }) (ep':=ep) (Ay ..) so1 ?_
  have em:(es.modify j λe=>{ e with val:=r }).toList=es.toList.set j { y with val:=r }:=by
   have yl:es.toList[j]? = some y:=by rw [Az];exact y1
   rw [Array.toList_modify]
   refine A9 λi=>?_
   rw [List.getElem?_modify]
   by_cases c:j=i
   ·subst c
    rw [yl,Bz (by simpa using hje)]
    simp
   ·rw [AE c]
    simp [c]
  rw [em,IF hj kok.nd ej]
  exact HY j pr ⟨y2,y3,rr⟩
end
noncomputable abbrev Mx (β:Type):=β->Ro->Sto->Rs β
noncomputable def cGo {β:Type}(g:Option Nat)(m0:Sto)(tg:Gx)(tt:Tx)(st:Mx β)(ro:Ro):List D->β->Sto->Rs β
 | [],b,mu=>some (b,mu)
 | d::ds,b,mu=>bM (tg d ro mu) λro1 m1=>bM (tt ro1 m1) λc m2 =>
  if c=true then bM (st b ro1 m2) λb' m3=>EY g m0 m3 (cGo g m0 tg tt st ro ds b' m3) else EY g m0 m2 (cGo g m0 tg tt st ro ds b m2)
noncomputable def stD (kx vx:Ex):Mx (List D×List D):=λp ro mu=>bM (kx ro mu) λk m1=>bM (vx ro m1) λv m2=>if Es k=true∧p.1.length<sizeLine then some (ER k v p.1 p.2,m2) else none
noncomputable def eCo {β:Type}(i:Ix)(nc:Nat)(fvs:List Nat)(tg:Gx)(tt:Tx)(st:Mx β)(b0:β)(fin:β->Sto->D×Sto):Ex:=λro mu=>bM (i ro mu) λp m1=>bM (cGo p.2 m1 tg tt st (r0 nc fvs ro) p.1 b0 m1) λb m2=>some (fin b m2)
noncomputable def Ur (b:List D×List D)(mu:Sto):D×Sto:=(.dct b.1 b.2,mu)
noncomputable def GOw (lo hi:Nat)(tg:Gx):Prop:=∀ d ro mu ro' mu',tg d ro mu=some (ro',mu')->ro'.length=ro.length∧∀ i,i<lo∨hi≤i->ro'[i]? = ro[i]?
theorem RQ {lo hi i:Nat}(h1:lo≤i:=by decide)(h:i<hi:=by decide):GOw lo hi (gNm i):=λd ro mu ro' mu' e=>by
 cases e
 exact ⟨by simp,λj hj=>AE (by omega)⟩
noncomputable def rdM (K:Zc){α β:Type}(rp:List Addr->Hp->β->α->Prop)(ok:Ro->Prop)(st:Mx β):TM α:=λa σ H Q=>∃ th mu ro b,StoOk K th mu H∧EnvOk K th H ro σ∧ok ro∧rp th H b a ∧
 Tr K th H (st b ro mu) λb' th' _ H'=>∀ a' σ',EnvOk K th' H' ro σ'->rp th' H' b' a'->Q a' σ' H'
noncomputable def RpX {α β:Type}(rp:List Addr->Hp->β->α->Prop):Prop:=∀ {th:List Addr} {H:Hp} {th':List Addr} {H':Hp} {b:β} {a:α},Ext th H th' H'->Jd th H->rp th H b a->rp th' H' b a
noncomputable def rpD (K:Zc)(th:List Addr)(H:Hp)(p:List D×List D)(xs:List (Int×V×V)):Prop:=xs.map (·.1)=EN K.w p.1∧RepL K th H p.1 (xs.map (·.2.1))∧RepL K th H p.2 (xs.map (·.2.2))∧KeysOk p.1
section
variable {X:Cx} {K:Zc} {th:List Addr} {mu:Sto} {H:Hp} {α β:Type} {rp:List Addr->Hp->β->α->Prop} {ok:Ro->Prop} {st:Mx β} {tg:Gx} {tt:Tx}
theorem YJ:RpX (rpD K):=λe t ⟨h1,h2,h3,h4⟩=>⟨h1,h2.ext e t,h3.ext e t,h4⟩
theorem XM {lo hi:Nat}(ow:GOw lo hi tg)(rx:RpX rp){ro:Ro}(hro:∀ i d,ro[i]? = some (some d)->i<lo∨hi≤i)(hok:∀ d mu ro' mu',tg d ro mu=some (ro',mu')->ok ro'){J:It}{ds:List D}{gd:Option Nat}{a:α}{b:β}{σ:L2.St}{Q:α->L2.St->Hp->Prop}
  (io:QI K J th mu H ds gd) (so:StoOk K th mu H) (en:EnvOk K th H ro σ) (r:rp th H b a) (t:Tr K th H (cGo gd mu tg tt st ro ds b mu) λb' th' _ H'=>∀ a' σ',EnvOk K th' H' ro σ'->rp th' H' b' a'->Q a' σ' H') :
  CGo J (rdG K tg) (rdT K tt) (rdM K rp ok st) a σ H Q:=by
 refine ⟨λk n a' σ' H'=>n=ds.length-k∧k≤ds.length∧∃ th' mu' b',StoOk K th' mu' H'∧EnvOk K th' H' ro σ'∧Ext th H th' H'∧gOk gd mu mu'∧rp th' H' b' a' ∧
  Tr K th' H' (cGo gd mu tg tt st ro (ds.drop k) b' mu') λb' th' _ H'=>∀ a' σ',EnvOk K th' H' ro σ'->rp th' H' b' a'->Q a' σ' H',⟨_,rfl,A3 _,th,mu,b,so,en,.refl _ _,?_,r,t⟩,?_⟩
 ·cases gd with
  | none=>exact True.intro
  | some k=>exact rfl
 rintro k n a2 st2 H2 ⟨rfl,hk,th2,mu2,b2,s2,en2,e2,g2,r2,t2⟩
 by_cases lt:k<ds.length
 ·refine .inr ?_
  have ek:ds[k]? = some ds[k]:=by simp
  obtain ⟨a1,a3⟩:=io.go th2 mu2 H2 e2 s2 g2 k ds[k] ek
  refine ⟨a1,λx H3 y=>?_⟩
  obtain ⟨e3,s3,r3⟩:=a3 x H3 y
  rw [BF lt] at t2
  unfold cGo at t2
  refine ⟨th2,mu2,ro,ds[k],s3,en2.ext e3 s2.out,r3,?_⟩
  refine (t2.ahead e3).bindE.mono λro1 th4 mu4 H4 e4 s4 t4 st4 en4=>?_
  obtain ⟨eq4,t4⟩:=t4
  obtain ⟨ol,ow'⟩:=ow _ _ _ _ _ eq4
  have back:∀ {th' H' σ'},EnvOk K th' H' ro1 σ'->EnvOk K th' H' ro σ':=λ{th' H' σ'} en'=>by
   refine ⟨by rw [← ol];exact en'.1,λi d e=>?_⟩
   exact en'.2 i d (by rw [ow' i (hro i d e)];exact e)
  refine ⟨th4,mu4,ro1,s4,en4,t4.bind.mono λc th5 mu5 H5 e5 s5 t5=>?_⟩
  have e14:Ext th H th5 H5:=((e2.trans e3).trans e4).trans e5
  have r5:rp th5 H5 b2 a2:=rx ((e3.trans e4).trans e5) s2.out r2
  cases c with
  | false =>
   obtain ⟨a,mu',q1,q2⟩:=t5
   obtain ⟨go5,q1⟩:=Gu q1
   exact ⟨ds.length-(k+1),by omega,rfl,lt,th5,mu5,b2,s5,back (en4.ext e5 s4.out),e14,go5,r5,a,mu',q1,q2⟩
  | true =>
   refine ⟨th5,mu5,ro1,b2,s5,en4.ext e5 s4.out,hok _ _ _ _ eq4,r5,Tr.mono (Tr.bind t5) λb6 th6 mu6 H6 e6 s6 t6 a6 σ6 en6 r6=>?_⟩
   obtain ⟨a,mu',q1,q2⟩:=t6
   obtain ⟨go6,q1⟩:=Gu q1
   exact ⟨ds.length-(k+1),by omega,rfl,lt,th6,mu6,b6,s6,back en6,e14.trans e6,go6,r6,a,mu',q1,q2⟩
 ·have e:k=ds.length:=by omega
  subst e
  rw [List.drop_length] at t2
  unfold cGo at t2
  exact .inl ⟨io.stop th2 mu2 H2 e2 s2 g2,t2.ret s2 a2 st2 en2 r2⟩
theorem Xy {kx vx:Ex}{a:List (Int×V×V)}{σ:L2.St}{Q:List (Int×V×V)->L2.St->Hp->Prop}(h:rdM X.z (rpD X.z) ok (stD kx vx) a σ H Q):rdE X.z kx σ H λkv H1=>rdE X.z vx σ H1 λvv H2 =>
  ∃ th ks k,RepL X.z th H2 ks (a.map (·.2.1))∧a.map (·.1)=EN X.w ks∧KeysOk ks∧Es k=true∧Rep X.z th H2 k kv∧ks.length<sizeLine∧Q (JQ k (DJ X.w k) kv vv ks a) σ H2:=by
 obtain ⟨th,mu,ro,⟨ks,vs⟩,so,en,_,⟨r1,r2,r3,r4⟩,t⟩:=h
 dsimp only at r1 r2 r3 r4
 refine ⟨th,mu,ro,so,en,t.bind.mono λk th1 mu1 H1 e1 s1 t1 kv rk=>?_⟩
 refine ⟨th1,mu1,ro,s1,en.ext e1 so.out,t1.bind.mono λv th2 mu2 H2 e2 s2 t2 vv rv=>?_⟩
 by_cases c:Es k=true∧ks.length<sizeLine
 ·rw [if_pos c] at t2
  have e12:=e1.trans e2
  have k2:=r2.ext e12 so.out
  have v2:=r3.ext e12 so.out
  have xl:ks.length=a.length:=by have:=r2.len;simpa using this.symm
  have rk2:=rk.ext e2 s1.out
  refine ⟨th2,ks,k,k2,r1,r4,c.1,rk2,c.2,t2.ret s2 _ _ (en.ext e12 so.out) ?_⟩
  by_cases z:k∈ks
  ·obtain ⟨j,ej⟩:=A7.mp z
   have hj:j<a.length:=by rw [← xl];exact (Af.mp ej).1
   rw [IF hj r4.nd ej]
   unfold ER
   rw [if_pos z,K6 r4.nd ej]
   refine ⟨?_,?_,?_,r4⟩
   ·show List.map _ _=EN X.w ks
    rw [← r1,List.map_set]
    refine A9 λi=>?_
    by_cases ci:j=i
    ·subst ci;simp [hj]
    ·rw [AE ci]
   ·show RepL X.z th2 H2 ks _
    have:(List.map (λx=>x.2.1) (a.set j (a[j].1,a[j].2.1,vv)))=a.map (·.2.1):=by
     rw [List.map_set]
     refine A9 λi=>?_
     by_cases ci:j=i
     ·subst ci;simp [hj]
     ·rw [AE ci]
    rw [this]
    exact k2
   ·rw [List.map_set]
    exact v2.setAt j rv
  ·rw [G4 z xl]
   unfold ER
   rw [if_neg z]
   refine ⟨?_,?_,?_,?_⟩
   ·rw [AW,r1,EE,EE,AW];rfl
   ·rw [AW];exact k2.app (.cons rk2 .nil)
   ·rw [AW];exact v2.app (.cons rv .nil)
   ·refine ⟨by rw [Aq];exact c.2,?_,λk' hk'=>?_⟩
    ·refine Br.mpr ⟨r4.nd,by simp,λx hx y hy=>?_⟩
     rw [Al.mp hy]
     exact λe=>z (e▸hx)
    ·rcases AI.mp hk' with w'|w'
     ·exact r4.ok k' w'
     ·rw [Al.mp w'];exact c.1
 ·rw [if_neg c] at t2
  exact t2.no.elim
noncomputable def Qh (K:Zc)(B:OY α)(rp:List Addr->Hp->β->α->Prop)(fin:β->Sto->D×Sto):Prop:=∀ {th:List Addr} {mu:Sto} {H:Hp} {b:β} {a:α},StoOk K th mu H->rp th H b a->B.fin a∧∀ p,H p=none ->
 ∃ th',Ext th H th' (upd H p (B.ho p a))∧StoOk K th' (fin b mu).2 (upd H p (B.ho p a))∧Rep K th' (upd H p (B.ho p a)) (fin b mu).1 (.ref p)
theorem Aat:Qh K QV (rpD K) Ur:=λ{th mu H b a} so ⟨r1,r2,r3,r4⟩=>⟨True.intro,λp hp=>⟨th,.new hp _,so.new hp _,by
 unfold Ur
 dsimp only
 unfold Rep
 have ex:Ext th H th (upd H p (QV.ho p a)):=.new hp _
 exact ⟨p,a,rfl,so.notin hp,Ec,r1,r2.ext ex so.out,r3.ext ex so.out,r4⟩⟩⟩
theorem Z8 {i:Ix}{nc hi:Nat}{fv:List (Nat×Str)}{B:OY α}{b0:β}{fin:β->Sto->D×Sto}{σ:L2.St}{Q:VK}(hn:hi≤nc)(ow:GOw 0 hi tg)(rx:RpX rp)(f:Qh K B rp fin)(r00:∀ th H,rp th H b0 B.a0)
  (hok:∀ ro d mu ro' mu',(∀ i,i<nc->∀ d,ro[i]?≠some (some d))->tg d ro mu=some (ro',mu')->ok ro')
  (h:rdE K (eCo i nc (fv.map (·.1)) tg tt st b0 fin) σ H Q):tCo (rdI K i) nc fv B (rdG K tg) (rdT K tt) (rdM K rp ok st) σ H Q:=by
 obtain ⟨th,mu,ro,so,en,t⟩:=h
 refine ⟨th,mu,ro,so,en,t.bind.mono λp th1 mu1 H1 e1 s1 t1 J io=>?_⟩
 have hno:∀ i,i<nc->∀ d,(r0 nc (fv.map (·.1)) ro)[i]?≠some (some d):=λi hi d e=>absurd (Le e) (Nat.not_le.mpr hi)
 refine XM (rp:=rp) ow rx (λi d e=>.inr (AK hn (Le e))) (λd mu ro' mu' e=>hok _ d mu ro' mu' hno e) io s1 (N6 (en.ext e1 so.out)) (r00 _ _) (t1.bind.mono λb th2 mu2 H2 e2 s2 t2 a2 σ2 en2 r2=>?_)
 obtain ⟨f1,f2⟩:=f s2 r2
 refine ⟨f1,λq hq=>?_⟩
 obtain ⟨th3,x3,s3,r3⟩:=f2 q hq
 exact t2.retX x3 s3 _ r3
end
section
variable {X:Cx} {α β:Type} {scope:Scope} {e:Expr} {gens rest:List Comprehension} {g:Comprehension} {newAcc:Sem Value} {pos2:Pos} {B:OY α} {rp:List Addr->Hp->β->α->Prop} {ok:Ro->Prop} {st:Mx β} {tg:Gx} {tt:Tx} {b0:β} {fin:β->Sto->D×Sto} {i:Ix} {step:Addr->Addr->List (Str×Addr)->Sem Unit}
theorem PM.weak {K:Acc α}{D:Addr}{m:Sem Unit}{t t':TM α}(h:PM X K D m t)(f:∀ a σ H Q,t' a σ H Q->t a σ H Q):PM X K D m t':=λpins s σ H Q a o ao pD I q=>h pins s σ H Q a o ao pD I (f a σ H Q q)
structure Z6 (X:Cx) (scope:Scope) (own:List Str) (fv:List (Nat×Str)) (e:Expr) (gens:List Comprehension) (g:Comprehension) (rest:List Comprehension) (newAcc:Sem Value) (B:OY α) (rp:List Addr->Hp->β->α->Prop) (ok:Ro->Prop) (st:Mx β) (tg:Gx) (tt:Tx) (b0:β) (fin:β->Sto->D×Sto) (i:Ix)
  (step:Addr->Addr->List (Str×Addr)->Sem Unit):Prop where
 hc:IsC e gens
 hgens:gens=g::rest
 ha:g.is_async=0
 hnew:newAcc=newObj (.type B.cls) B.d0
 L:KS X scope fv
 hi:SVI X g.target g.iter i
 ow:GOw 0 own.length tg
 rx:RpX rp
 f:Qh X.z B rp fin
 r00:∀ th H,rp th H b0 B.a0
 hok:∀ ro d mu ro' mu',(∀ i,i<own.length->∀ d,ro[i]?≠some (some d))->tg d ro mu=some (ro',mu')->ok ro'
 heq:∀ it cl C D,compTurn e 0 (.ref it) (.ref D) (compEnvC scope cl C X.env)=J4 g (.ref it) (compEnvC scope cl C X.env) (step D C cl) (.compLoop e 0 (.ref it) (.ref D) (compEnvC scope cl C X.env))
 hg:∀ cl C s₁ H₁ fp,SVG (CF X scope (own++fv.map (·.2)) cl C s₁ H₁ fp) g.target tg
 ht:∀ cl C s₁ H₁ fp,SVF (CF X scope (own++fv.map (·.2)) cl C s₁ H₁ fp) g.ifs tt
 hm:∀ cl C s₁ H₁ fp D,DOk (CF X scope (own++fv.map (·.2)) cl C s₁ H₁ fp) D->PM (CF X scope (own++fv.map (·.2)) cl C s₁ H₁ fp) B.toAcc D (step D C cl) (rdM X.z rp ok st)
 hs:∀ x,foldedSetIterable g.iter X.env x=pure x
theorem AaO (own:List Str)(fv:List (Nat×Str))(c:Z6 X scope own fv e gens g rest newAcc B rp ok st tg tt b0 fin i step)(hev:eval e X.env=comprehension e scope X.env pos2 newAcc false (eval g.iter X.env)):SV X e (eCo i own.length (fv.map (·.1)) tg tt st b0 fin):=⟨λpins s σ H Q I h=>by
 rw [hev]
 refine S6 (own:=own) (fv:=fv) (B:=B) (tg:=rdG X.z tg) (tt:=rdT X.z tt) (tm:=rdM X.z rp ok st) (step:=step) (wi:=rdI X.z i) (Q:=Q) c.hc c.hgens c.ha c.hnew c.L c.hi.r c.heq (λcl C s₁ H₁ fp=>(c.hg cl C s₁ H₁ fp).r) (λcl C s₁ H₁ fp=>(c.ht cl C s₁ H₁ fp).r) c.hm c.hs (λI=>LH I) I
  (Z8 (rp:=rp) (Ah _) c.ow c.rx c.f c.r00 c.hok h) λs6 H' D C m J6 fC nsC q=>?_
 exact ⟨m,nsC,λh' sb=>⟨.ref D,H',J6.turnedL (ch:=[C]) (t':=s6.toks) (Ml sb) (λb hb=>by rw [Al.mp hb];exact fC),rfl,q⟩⟩⟩
end
section
variable {X:Cx} {scope:Scope} {t1 i1 t2 i2 kx vx elt:Expr} {f1 f2:List Expr} {pos:Pos} {i j:Ix} {g g2:Gx} {tt tt2:Tx} {el kk vv:Ex} {fin:List D×List D->Sto->D×Sto}
theorem ZY (hu:X.A.units+64<cLine)(hf:Qh X.z QV (rpD X.z) fin)(own:List Str)(fv:List (Nat×Str))(L:KS X scope fv)(hi:SVI X t1 i1 i)(ow:GOw 0 own.length g)
  (hg:∀ cl C s₁ H₁ fp,SVG (CF X scope (own++fv.map (·.2)) cl C s₁ H₁ fp) t1 g)
  (ht:∀ cl C s₁ H₁ fp,SVF (CF X scope (own++fv.map (·.2)) cl C s₁ H₁ fp) f1 tt)
  (hk:∀ cl C s₁ H₁ fp,SV (CF X scope (own++fv.map (·.2)) cl C s₁ H₁ fp) kx kk)
  (hv:∀ cl C s₁ H₁ fp,SV (CF X scope (own++fv.map (·.2)) cl C s₁ H₁ fp) vx vv)
  (hs:∀ x,foldedSetIterable i1 X.env x=pure x:=by intro _;rfl) :
  Z6 X scope own fv (.DictComp kx vx [⟨t1,i1,f1,0⟩] scope pos) [⟨t1,i1,f1,0⟩] ⟨t1,i1,f1,0⟩ [] newDict QV (rpD X.z) (λ_=>True) (stD kk vv) g tt ([],[]) fin i (λD C cl=>Qn kx vx D (compEnvC scope cl C X.env)) where
 hc:=.d
 hgens:=rfl
 ha:=rfl
 hnew:=rfl
 L:=L
 hi:=hi
 ow:=ow
 rx:=YJ
 f:=hf
 r00:=λ_ _=>⟨rfl,.nil,.nil,.nil⟩
 hok:=λ_ _ _ _ _ _ _=>True.intro
 heq:=λ_ _ _ _=>VS
 hg:=hg
 ht:=ht
 hm:=λcl C s₁ H₁ fp D dk=>PM.weak (UQ (X:=CF X scope (own++fv.map (·.2)) cl C s₁ H₁ fp) hu dk (hk cl C s₁ H₁ fp).r (hv cl C s₁ H₁ fp).r) λa σ H Q h=>Xy (X:=CF X scope (own++fv.map (·.2)) cl C s₁ H₁ fp) h
 hs:=hs
end
theorem MD:entryFor table "dict.update.loop"=some Builtin.«dict.update.loop»:=entryFor_of_tree (by kernel_rfl)
theorem IU:plainId "dict.update.loop"=true:=by decide +kernel
theorem Mv {α β:Type}{F G:α->β->Prop}:∀ {xs:List α} {ys:List β},Paired F xs ys->(∀ x y,F x y->G x y)->Paired G xs ys
 | _,_,.nil,_=>.nil
 | _,_,.cons r t,f=>.cons (f _ _ r) (Mv t f)
theorem Hd.keep {h h':Heap}{d:D}{u:Value}(x:Hd h d u)(k:∀ b o,h.get? b=some o->h'.get? b=some o):Hd h' d u:=by
 obtain ⟨a,b,as,c⟩:=x
 exact ⟨a,b,as,Reads.keeps k c⟩
noncomputable def WM (w:World)(k:D)(u r:Value)(ks:List D)(es es':List DictEntry):Prop:=(k∉ks∧es'=es++[⟨DJ w k,u,r⟩])∨∃ (j:Nat) (e:DictEntry),ks[j]? = some k∧es[j]? = some e∧es'=es.set j { e with val:=r }
theorem VI {w:World}{h:Heap}{k:D}{u r:Value}{ks:List D}{es es':List DictEntry}(x:Hd h k u)(en:Paired (EnK w h) ks es)(p:WM w k u r ks es es')(v:D)(ds:List D):Paired (EnK w h) (ER k v ks ds).1 es':=by
 unfold ER
 rcases p with ⟨n,rfl⟩|⟨j,e,ej,ee,rfl⟩
 ·rw [if_neg n];exact G1 en (.cons ⟨rfl,x⟩ .nil)
 ·rw [if_pos (Ap ej)]
  obtain ⟨e2,e3,e4⟩:=(DN en j).1 k ej
  rw [ee] at e3
  cases e3
  have:=HY j en (x:=k) (y:={ e with val:=r }) ⟨e4.1,e4.2⟩
  have hs:ks.set j k=ks:=by
   refine A9 λi=>?_
   by_cases c:j=i
   ·subst c;rw [Bz (Af.mp ej).1,ej]
   ·rw [AE c]
  rw [hs] at this
  exact this
theorem Vc {w:World}{k:D}{u r:Value}{kv vv:V}{ks:List D}{xs:List (Int×V×V)}{es es':List DictEntry}(nd:ks.Nodup)(l:ks.length=xs.length)(pr:Paired EnV xs es)(ru:RelV kv u)(rr:RelV vv r)(p:WM w k u r ks es es'):Paired EnV (JQ k (DJ w k) kv vv ks xs) es':=by
 rcases p with ⟨n,rfl⟩|⟨j,e,ej,ee,rfl⟩
 ·rw [G4 n l];exact G1 pr (.cons ⟨rfl,ru,rr⟩ .nil)
 ·have hj:j<xs.length:=by rw [← l];exact (Af.mp ej).1
  rw [IF hj nd ej]
  obtain ⟨y,y1,y2,y3,y4⟩:=(DN pr j).1 xs[j] (As hj)
  rw [ee] at y1
  cases y1
  exact HY j pr ⟨y2,y3,rr⟩
noncomputable abbrev dOb (es:Array DictEntry) (ep:Nat):Obj:={ cls:=.type "dict",data:=.dict es ep }
section
variable {prog:Program} {w:World} {A:Around} {E:Value->Shared->Prop} {s:Shared}
theorem Abd {D':Addr}{es:Array DictEntry}{ep:Nat}{ks:List D}{k:D}{u r:Value}{Q:Unit->Shared->Prop}(hu:A.units+8<cLine)(hd:Hd s.heap k u)(g1:s.heap.get? D'=some (dOb es ep))(en:Paired (EnK w s.heap) ks es.toList)(nd:ks.Nodup)(lt:ks.length<sizeLine)
  (q:∀ h' tk es' ep',Heap.SameBut D' s.heap h'->h'.get? D'=some (dOb es' ep')->WM w k u r ks es.toList es'.toList->Q () { s with heap:=h',toks:=tk }):wpAny (model prog w) A (dictSet D' u r) Q E s:=by
 have g3:(dOb es ep).data=.dict es ep:=rfl
 unfold dictSet
 refine AG (Aa (hd.hash hu λtk=>?_))
 unfold dictSetHashed
 refine AG (Aa (Lk (s:={ s with toks:=tk }) hu hd g1 g3 en nd (λz=>?_) λj ej=>?_))
 ·have hz0:es.size≤sizeLine:=by rw [← Array.length_toList,← Dn en];omega
  refine Aa (Bh (wpAny_updateDictKeys (s:={ s with toks:=tk }) g1 g3 (hz:=hz0) ?_))
  have so1:=AN (Obj.mapDictKeys (·.push ⟨DJ w k,u,r⟩)) g1 (BU (Obj.data_mapDictKeys g3 _))
  refine q _ _ (es.push ⟨DJ w k,u,r⟩) (ep+1) (Ay ..) so1 (.inl ⟨z,by rw [BM]⟩)
 ·have hje:j<es.size:=by rw [← Array.length_toList,← Dn en];exact (Af.mp ej).1
  refine Aa (Bh (Aa (wpAny_updateDict (s:={ s with toks:=tk }) g1 g3 (wpAny_point ?_))))
  have so1:=AN (Obj.mapDict (·.modify j λe=>{ e with val:=r })) g1 (BU (Obj.data_mapDict g3 _))
  refine q _ _ (es.modify j λe=>{ e with val:=r }) ep (Ay ..) so1 (.inr ⟨j,es[j],ej,by rw [Az,AD hje],?_⟩)
  rw [Array.toList_modify]
  refine A9 λi=>?_
  rw [List.getElem?_modify]
  by_cases c:j=i
  ·subst c
   rw [Bz (by simpa using hje)]
   simp [hje]
  ·rw [AE c]
   simp [c]
noncomputable def PrV (h:Heap)(x:D×V×V)(u:Value):Prop:=∃ p ku vu,u=.ref p∧h.IsTuple p #[ku,vu]∧Hd h x.1 ku∧RelV x.2.1 ku∧RelV x.2.2 vu
noncomputable def Jj (w:World)(a:List D×List (Int×V×V))(x:D×V×V):List D×List (Int×V×V):=((ER x.1 .non a.1 []).1,JQ x.1 (DJ w x.1) x.2.1 x.2.2 a.1 a.2)
theorem MV {k v:D}{ks ds:List D}(n:ks.Nodup):(ER k v ks ds).1.Nodup∧(ER k v ks ds).1.length≤ks.length+1:=by
 unfold ER
 split
 ·exact ⟨n,Bc _⟩
 ·rename_i z
  refine ⟨Br.mpr ⟨n,by simp,λx hx y hy=>?_⟩,by rw [Aq];exact Ah _⟩
  rw [Al.mp hy]
  exact λe=>z (e▸hx)
theorem Sh {a:List D×List (Int×V×V)}{x:D×V×V}(l:a.1.length=a.2.length)(n:a.1.Nodup):(Jj w a x).1.length=(Jj w a x).2.length:=by
 unfold Jj ER
 dsimp only
 by_cases z:x.1∈a.1
 ·obtain ⟨j,ej⟩:=A7.mp z
  have hj:j<a.2.length:=by rw [← l];exact (Af.mp ej).1
  rw [if_pos z,IF hj n ej,List.length_set]
  exact l
 ·rw [if_neg z,G4 z l,Aq,Aq,l]
  rfl
noncomputable def UX (w:World)(h0 h:Heap)(d:Addr)(a:List D×List (Int×V×V)):Prop:=∃ es ep,h.get? d=some (dOb es ep)∧Paired (EnK w h0) a.1 es.toList∧Paired EnV a.2 es.toList∧a.1.Nodup∧a.1.length=a.2.length
theorem Abe {R:Result->Shared->Prop}(hu:A.in1.units+8<cLine){I d:Addr}{fp:List Addr}{P:Nat->Value->Prop}{St:Nat->Heap->Prop}{xs:List (D×V×V)}(W:Walks prog w A.in1 I fp [I] xs.length P St)(hdf:d∉fp){h0:Heap}(hI:h0.get? I=none)(hd:h0.get? d=none)(hval:∀ i v,P i v->∃ x,xs[i]? = some x∧PrV h0 x v){res:Value}(k:Nat) :
  ∀ (i:Nat) (s:Shared) (a:List D×List (Int×V×V)),i+k=xs.length->a.1.length≤i->xs.length≤sizeLine->St i s.heap->(∀ b o,h0.get? b=some o->s.heap.get? b=some o)->UX w h0 s.heap d a ->
   (∀ h' tk,(∀ b o,b≠d->b≠I->s.heap.get? b=some o->h'.get? b=some o)->UX w h0 h' d ((xs.drop i).foldl (Jj w) a)->R (.ok (.ret res)) { s with heap:=h',toks:=tk }) ->
   codeAny (model prog w) A (Code.builtin "dict.update.loop" ⟨[.ref d,.ref I,rawInt i,res],[]⟩) R s:=by
 have nI:I∈fp:=W.sub _ (by simp)
 have ndI:d≠I:=λz=>hdf (z▸nI)
 induction k with
 | zero =>
  intro i s a e la hz st hk hD hR
  obtain rfl:i=xs.length:=by omega
  refine Bj MD ?_
  rw [Bf IU _]
  refine (?_:wpAny _ A.in1 (pyNext (.ref I) >>= _) _ _ s)
  refine Aa (W.done s _ _ st λh1 tk1 k1=>?_)
  refine (?_:wpAny _ A.in1 (Builtin.Dict.addKeywords d [] >>= _) _ _ _)
  refine Aa (Ac (Ac (hR h1 tk1 (λb o _ n e=>k1 b o (by simpa using n) e) ?_)))
  rw [List.drop_eq_nil_of_le (Ah _)]
  obtain ⟨es,ep,g,r⟩:=hD
  exact ⟨es,ep,k1 _ _ (by simpa using ndI) g,r⟩
 | succ k ih =>
  intro i s a e la hz st hk hD hR
  have lt:i<xs.length:=by omega
  refine Bj MD ?_
  rw [Bf IU _]
  refine (?_:wpAny _ A.in1 (pyNext (.ref I) >>= _) _ _ s)
  refine Aa (W.item i s _ _ lt st λv h1 tk1 hP st1 k1=>?_)
  obtain ⟨x,ex,p,ku,vu,ev,⟨op,p1,p2,np,p3⟩,hk1,rk,rv⟩:=hval i v hP
  subst ev
  have hk':∀ b o,h0.get? b=some o->h1.get? b=some o:=λb o g=>k1 b o (by simpa using λz=>by rw [z,hI] at g;cases g) (hk b o g)
  refine (?_:wpAny _ A.in1 (holding [Value.ref p] _ >>= _) _ _ _)
  have ty:(Shared.TypeIs { s with heap:=h1,toks:=tk1 } (.ref p) "tuple"):=⟨op,hk' _ _ p1,p2⟩
  refine Aa (AG (Aa (wpAny_tryCatch ?_)))
  unfold Builtin.Dict.pairItems
  refine Aa (BB ty ?_)
  rw [if_pos (by decide)]
  refine Aa (wpAny_seqItems (hk' _ _ p1) p3 (Ac ?_))
  refine (?_:wpAny _ A.in1 (holding [ku,vu] (dictSet d ku vu)) _ _ _)
  obtain ⟨es,ep,g,en,pr,nd,l⟩:=hD
  have g':=k1 _ _ (by simpa using ndI) g
  refine AG (Abd (s:={ s with heap:=h1,toks:=tk1 }) (ks:=a.1) hu (hk1.keep hk') g' (Mv en λk e q=>⟨q.1,q.2.keep hk'⟩) nd (by omega) λh2 tk2 es2 ep2 sb hD2 pe=>?_)
  have dr:xs.drop i=x::xs.drop (i+1):=by
   rw [BF lt]
   rw [As lt] at ex
   rw [AJ ex]
  have hk2:∀ b o,h0.get? b=some o->h2.get? b=some o:=λb o z=>(sb.2 b λq:b=d=>by rw [q,hd] at z;cases z).trans (hk' b o z)
  have cast:rawInt ((i:Int)+1)=rawInt ((i+1:Nat):Int):=rfl
  rw [cast]
  refine Ac (And.intro (plainId_quiet IU _) (ih (i+1) _ (Jj w a x) (by omega) ?_ hz (W.frame _ h1 _ st1 λb hb o z=>(sb.2 b λq:b=d=>hdf (q▸hb)).trans z) hk2 ⟨es2,ep2,hD2,VI hk1 en pe .non [],Vc nd l pr rk rv pe,(MV nd).1,Sh l nd⟩ λh3 tk3 k3 hS3=>hR h3 tk3 (λb o b1 b2 z=>?_) ?_))
  ·have:=(MV (k:=x.1) (v:=.non) (ds:=[]) nd).2
   unfold Jj
   dsimp only
   omega
  ·exact k3 b o b1 b2 ((sb.2 b b1).trans (k1 b o (by simpa using b2) z))
  ·rw [dr];exact hS3
end
theorem U4:typeLookup (.type "tuple") "keys"=pure none:=by rw [typeLookup_type,builtinLookup_eq_fast];kernel_rfl
theorem Uy:typeLookup (.type "list") "keys"=pure none:=by rw [typeLookup_type,builtinLookup_eq_fast];kernel_rfl
theorem gAL {prog:Program}{w:World}{A:Around}{E:Value->Shared->Prop}{s:Shared}{a:Addr}{o:Obj}{xs:Array Value}{k:Nat}{Q:Option Value->Shared->Prop}
  (g:s.heap.get? a=some o) (hc:o.cls=.type "list") (ht:o.data=.seq xs k) (hd:o.dict=none) (hA:A.handled=none)
  (q:∀ h' tk,(∀ b ob,s.heap.get? b=some ob->h'.get? b=some ob)->Q none { s with heap:=h',toks:=tk }):wpAny (model prog w) A (getAttr? (.ref a) "keys") Q E s:=by
 obtain ⟨c,dct,dat,sl⟩:=o
 simp only at hc ht hd
 subst hc ht hd
 obtain ⟨hp,gn,dr,tk,os⟩:=s
 have hT:∀ tk',(⟨hp,gn,dr,tk',os⟩:Shared).TypeIs (.ref a) "list":=λ_=>⟨_,g,rfl⟩
 have f1:=sub_AttributeError
 have f3:=F.slot_list_getattribute.lookup
 have f4:=F.slot_list_getattribute.bind (.ref a)
 have f5:=am_list_getattr_none
 (unfold getAttr? getAttrBy? getAttrBy)
 repeat (any_goals (first|assumption|exact hT _|((with_reducible show wpAny _ _ (call (Value.builtin "list.__getattribute__") _ _) _ _ _);refine call_meets F.slot_list_getattribute (hT _) am_entry_list_getattribute (F.args_list_getattribute_2 _ _) (meets_getattribute_miss_list a xs k sl "keys" _ Uy (by decide +kernel)) ⟨g,hA,λh' tk' e hx'=>?_⟩)|wp_step))
 obtain ⟨t',u',he⟩:=hx'.there
 (show wpAny _ _ (getattributeRaised _ _ _ _ _ _ _) _ _ _)
 unfold getattributeRaised
 repeat (any_goals (first|assumption|wp_step))
 exact q _ _ hx'.keeps
theorem gAT {prog:Program}{w:World}{A:Around}{E:Value->Shared->Prop}{s:Shared}{a:Addr}{o:Obj}{xs:Array Value}{k:Nat}{Q:Option Value->Shared->Prop}
  (g:s.heap.get? a=some o) (hc:o.cls=.type "tuple") (ht:o.data=.seq xs k) (hd:o.dict=none) (hA:A.handled=none)
  (q:∀ h' tk,(∀ b ob,s.heap.get? b=some ob->h'.get? b=some ob)->Q none { s with heap:=h',toks:=tk }):wpAny (model prog w) A (getAttr? (.ref a) "keys") Q E s:=by
 obtain ⟨c,dct,dat,sl⟩:=o
 simp only at hc ht hd
 subst hc ht hd
 obtain ⟨hp,gn,dr,tk,os⟩:=s
 have hT:∀ tk',(⟨hp,gn,dr,tk',os⟩:Shared).TypeIs (.ref a) "tuple":=λ_=>⟨_,g,rfl⟩
 have f1:=sub_AttributeError
 have f3:=F.slot_tuple_getattribute.lookup
 have f4:=F.slot_tuple_getattribute.bind (.ref a)
 have f5:=am_tuple_getattr_none
 (unfold getAttr? getAttrBy? getAttrBy)
 repeat (any_goals (first|assumption|exact hT _|((with_reducible show wpAny _ _ (call (Value.builtin "tuple.__getattribute__") _ _) _ _ _);refine call_meets F.slot_tuple_getattribute (hT _) am_entry_tuple_getattribute (F.args_tuple_getattribute_2 _ _) (meets_getattribute_miss_tuple a xs k sl "keys" _ U4 (by decide +kernel)) ⟨g,hA,λh' tk' e hx'=>?_⟩)|wp_step))
 obtain ⟨t',u',he⟩:=hx'.there
 (show wpAny _ _ (getattributeRaised _ _ _ _ _ _ _) _ _ _)
 unfold getattributeRaised
 repeat (any_goals (first|assumption|wp_step))
 exact q _ _ hx'.keeps
theorem set_same {α:Type}{xs:List α}{j:Nat}(hj:j<xs.length):xs.set j xs[j]=xs:=by
 refine A9 λi=>?_
 by_cases c:j=i
 ·subst c;simp [hj]
 ·rw [AE c]
theorem UW {K:Zc}{th:List Addr}{H:Hp}{ks vs:List D}{xs:List (Int×V×V)}{k v:D}{kv vv:V}(h:rpD K th H (ks,vs) xs)(hk:Es k=true)(rk:Rep K th H k kv)(rv:Rep K th H v vv)(lt:ks.length<sizeLine):rpD K th H (ER k v ks vs) (JQ k (DJ K.w k) kv vv ks xs):=by
 obtain ⟨r1,r2,r3,r4⟩:=h
 dsimp only at r1 r2 r3 r4
 have xl:ks.length=xs.length:=by have:=r2.len;simpa using this.symm
 by_cases z:k∈ks
 ·obtain ⟨j,ej⟩:=A7.mp z
  have hj:j<xs.length:=by rw [← xl];exact (Af.mp ej).1
  rw [IF hj r4.nd ej]
  unfold ER
  rw [if_pos z,K6 r4.nd ej]
  have m1:(xs.set j (xs[j].1,xs[j].2.1,vv)).map (·.1)=xs.map (·.1):=by
   rw [List.map_set]
   have:=set_same (xs:=xs.map (·.1)) (j:=j) (by simpa using hj)
   simpa using this
  have m2:(xs.set j (xs[j].1,xs[j].2.1,vv)).map (·.2.1)=xs.map (·.2.1):=by
   rw [List.map_set]
   have:=set_same (xs:=xs.map (·.2.1)) (j:=j) (by simpa using hj)
   simpa using this
  refine ⟨m1.trans r1,by rw [m2];exact r2,by rw [List.map_set];exact r3.setAt j rv,r4⟩
 ·rw [G4 z xl]
  unfold ER
  rw [if_neg z]
  refine ⟨?_,?_,?_,?_⟩
  ·rw [AW,r1,EE,EE,AW];rfl
  ·rw [AW];exact r2.app (.cons rk .nil)
  ·rw [AW];exact r3.app (.cons rv .nil)
  ·refine ⟨by rw [Aq];exact lt,?_,λk' hk'=>?_⟩
   ·refine Br.mpr ⟨r4.nd,by simp,λx hx y hy=>?_⟩
    rw [Al.mp hy]
    exact λe=>z (e▸hx)
   ·rcases AI.mp hk' with w'|w'
    ·exact r4.ok k' w'
    ·rw [Al.mp w'];exact hk
noncomputable def pairsOf:List D->Option (List (D×D))
 | []=>some []
 | .tup [k,v]::ds=>if Es k=true then (pairsOf ds).map ((k,v)::·) else none
 | _=>none
theorem Jy {d:D}{ds:List D}{ps:List (D×D)}(h:pairsOf (d::ds)=some ps):∃ k v r,d=.tup [k,v]∧Es k=true∧pairsOf ds=some r∧ps=(k,v)::r:=by
 unfold pairsOf at h
 split at h
 ·cases ‹_::_=[]›
 ·rename_i k v ds' e
  cases e
  by_cases c:Es k=true
  ·rw [if_pos c] at h
   cases e2:pairsOf ds with
   | none=>rw [e2] at h;cases h
   | some r=>rw [e2] at h;cases h;exact ⟨k,v,r,rfl,c,rfl,rfl⟩
  ·rw [if_neg c] at h;cases h
 ·cases h
theorem KI:∀ {ds:List D} {ps:List (D×D)},pairsOf ds=some ps->ps.length=ds.length
 | [],_,h=>by cases h;rfl
 | d::ds,ps,h=>by
  obtain ⟨k,v,r,rfl,_,h',rfl⟩:=Jy h
  rw [List.length_cons,List.length_cons,KI h']
noncomputable def putAll (p:List D×List D)(ps:List (D×D)):List D×List D:=ps.foldl (λp x=>ER x.1 x.2 p.1 p.2) p
noncomputable def dctP:Fn:=λds mu=>match sq1 ds mu with
 | some es=>match pairsOf es with
  | some ps=>some (.dct (putAll ([],[]) ps).1 (putAll ([],[]) ps).2,mu)
  | none=>none
 | none=>none
section
variable {X:Cx} {K:Zc} {th:List Addr} {mu:Sto} {H:Hp} {pins:List (Addr×Obj)} {st:L2.St} {s:Shared}
theorem SY {ds:List D}{r:D×Sto}(h:dctP ds mu=some r):∃ d es ps,ds=[d]∧G6 mu d=some es∧pairsOf es=some ps∧r=(.dct (putAll ([],[]) ps).1 (putAll ([],[]) ps).2,mu):=by
 unfold dctP at h
 split at h
 ·rename_i es e
  split at h
  ·rename_i ps e2
   cases h
   obtain ⟨d,rfl,e3⟩:=K4 e
   exact ⟨d,es,ps,rfl,e3,e2,rfl⟩
  ·cases h
 ·cases h
noncomputable def PrR (K:Zc)(th:List Addr)(H:Hp)(p:D×D)(x:D×V×V):Prop:=p.1=x.1∧Es p.1=true∧Rep K th H p.1 x.2.1∧Rep K th H p.2 x.2.2
theorem Kf (I:L2.Inv X pins st H s):∀ {es:List D} {ps:List (D×D)} {vs:List V} {us:List Value},pairsOf es=some ps->RepL X.z th H es vs->Vals vs us->∃ xs:List (D×V×V),Paired (PrR X.z th H) ps xs∧Paired (PrV s.heap) xs us
 | [],ps,vs,us,h,r,q=>by
  cases h
  rw [r.inv0] at q
  cases q
  exact ⟨[],.nil,.nil⟩
 | d::ds,ps,vs,us,h,r,q=>by
  obtain ⟨k,v,ps',rfl,hk,h',rfl⟩:=Jy h
  obtain ⟨x,rs,rfl,rx,rr⟩:=r.inv
  cases q with
  | cons q1 q2 =>
   obtain ⟨xs,a,b⟩:=Kf I h' rr q2
   unfold Rep at rx
   obtain ⟨p,pv,rfl,hsq,hl,hz⟩:=rx
   obtain ⟨kv,vv,rfl,rk,rv⟩:=Jo hl
   cases q1
   obtain ⟨its,rvs,pl,hz'⟩:=I.tuple hsq
   obtain ⟨ku,vu,rfl,rku,rvu⟩:=vals2 rvs
   exact ⟨(k,kv,vv)::xs,.cons ⟨rfl,hk,rk,rv⟩ a,.cons ⟨p,ku,vu,rfl,let ⟨o,ho,hcl,n,hdt⟩:=pl;⟨o,ho,hcl,n,hdt⟩,IY I hk rk rku,rku,rvu⟩ b⟩
theorem PR {ps:List (D×D)}{xs:List (D×V×V)}(hx:Paired (PrR K th H) ps xs):∀ {p:List D×List D} {a:List D×List (Int×V×V)},p.1=a.1->rpD K th H p a.2->p.1.length+ps.length≤sizeLine ->
  (putAll p ps).1=(xs.foldl (Jj K.w) a).1∧rpD K th H (putAll p ps) (xs.foldl (Jj K.w) a).2:=by
 induction hx with
 | nil=>exact λe r _=>⟨e,r⟩
 | cons hx t ih =>
  rename_i q x ps xs
  intro p a e r l
  obtain ⟨e1,e2,e3,e4⟩:=hx
  obtain ⟨ks,vs⟩:=p
  obtain ⟨as,ax⟩:=a
  dsimp only at e r
  subst e
  have l':ks.length+(ps.length+1)≤sizeLine:=l
  have r':=UW r e2 e3 e4 (by omega)
  unfold putAll
  rw [List.foldl_cons,List.foldl_cons]
  refine ih (p:=ER q.1 q.2 ks vs) (a:=Jj K.w (ks,ax) x) ?_ ?_ ?_
  ·unfold Jj ER;dsimp only;rw [e1];split<;>rfl
  ·unfold Jj;dsimp only;rw [← e1];exact r'
  ·have:=(MV (k:=q.1) (v:=q.2) (ds:=vs) r.2.2.2.nd).2
   have this':(ER q.1 q.2 ks vs).1.length≤ks.length+1:=this
   omega
end
section
variable {prog:Program} {w:World} {A:Around} {E:Value->Shared->Prop} {s:Shared}
theorem Wj {l:Addr}{ol:Obj}{T:String}{us:List Value}{xs:List (D×V×V)}{Q:Value->Shared->Prop}(hu:A.units+16<cLine)(hbig:sysModules<s.heap.objs.size)(hz:xs.length≤sizeLine)(hol:s.heap.get? l=some ol)(hcl:ol.cls=.type T)(hT:(Value.type T != Value.type "dict")=true)
  (hga:∀ (A':Around) (s1:Shared) (Q:Option Value->Shared->Prop) (E:Value->Shared->Prop),A'.handled=A.handled->s1.heap.get? l=some ol->(∀ h' tk,(∀ b ob,s1.heap.get? b=some ob->h'.get? b=some ob)->Q none { s1 with heap:=h',toks:=tk })->wpAny (model prog w) A' (getAttr? (.ref l) "keys") Q E s1)
  (hit:∀ E,YieldsV prog w A E s.heap l us) (pr:Paired (PrV s.heap) xs us)
  (q:∀ h' tk d',(∀ b o,s.heap.get? b=some o->h'.get? b=some o)->UX w s.heap h' s.heap.objs.size (xs.foldl (Jj w) ([],[]))->Q (.ref s.heap.objs.size) { s with heap:=h',toks:=tk,drawn:=d' }) :
  wpAny (model prog w) A (call (.type "dict") [.ref l]) Q E s:=by
 refine callType_codes (Q₁:=λobj s₁=>obj=.ref s.heap.objs.size∧s₁={ s with heap:=s.heap.push { cls:=.type "dict",data:=.dict #[] } }) F.kt_called_dict (F.kt_typeCall_dict_1 _) F.entry_dict_init (kt_code_dict_new _ ⟨rfl,rfl⟩) ?_
 rintro obj s₁ ⟨rfl,rfl⟩
 have gl:(s.heap.push { cls:=.type "dict",data:=.dict #[] }).get? l=some ol:=Ad _ hol
 have gd:(s.heap.push { cls:=.type "dict",data:=.dict #[] }).get? s.heap.objs.size=some (dOb #[] 0):=Am _ rfl
 have tyd:Shared.TypeIs { s with heap:=s.heap.push { cls:=.type "dict",data:=.dict #[] } } (.ref s.heap.objs.size) "dict":=⟨_,gd,rfl⟩
 have ty:Shared.TypeIs { s with heap:=s.heap.push { cls:=.type "dict",data:=.dict #[] } } (.ref l) T:=⟨ol,gl,hcl⟩
 refine ⟨tyd,F.args_dict_init_2 _ _,?_⟩
 (unfold Builtin.«dict.__init__»)
 refine Aa ?_
 (unfold Builtin.Dict.selfAndRest)
 refine Aa (wpAny_notOrdered_dict tyd (?_:wpAny _ _ (pure (s.heap.objs.size,[Value.ref l])) _ _ _))
 refine Ac (?_:wpAny _ _ (Builtin.Dict.updateFrom "dict.__init__" s.heap.objs.size (.ref l) [] .none) _ _ _)
 (unfold Builtin.Dict.updateFrom)
 refine Aa (BB ty ?_)
 rw [if_pos hT]
 refine Aa (hga _ { s with heap:=s.heap.push { cls:=.type "dict",data:=.dict #[] } } _ _ rfl gl λh1 tk1 k1=>?_)
 rw [if_pos (by rfl)]
 refine Aa (Bh ?_)
 have k0:∀ b ob,s.heap.get? b=some ob->h1.get? b=some ob:=λb ob e=>k1 _ _ (Ad _ e)
 have hnd:h1.get? s.heap.objs.size=some (dOb #[] 0):=k1 _ _ gd
 have lt1:s.heap.objs.size<h1.objs.size:=Ak hnd
 refine Aa (hit _ { s with heap:=h1,toks:=tk1 } _ _ rfl k0 λI fp h2 d2 P St hI fpl fpn W st0 k2 hval=>?_)
 have hI':h1.objs.size≤I:=hI
 have nf:s.heap.objs.size∉fp:=λz=>by
  rcases fpn _ z with q|⟨o,q⟩
  ·exact absurd (Aw lt1 q) (A6 _)
  ·exact absurd (Ak q) (A6 _)
 have xl:xs.length=us.length:=Dn pr
 have W':Walks prog w A.in1.in1 I fp [I] xs.length P St:=by rw [xl];exact W _ rfl
 refine Ac ⟨plainId_quiet IU _,?_⟩
 refine Abe (A:=A.in1) (by show A.units+1+1+8<cLine;omega) W' nf (h0:=s.heap) (Heap.get?_none_of_le (AK (Nat.le_of_lt lt1) hI')) (Heap.get?_none_of_le (Ah _)) (λi v hP=>?_) xs.length 0 { s with heap:=h2,toks:=tk1,drawn:=d2 } ([],[]) (Nat.zero_add _) (A3 _) hz st0 (λb o e=>k2 _ _ (k0 b o e)) ⟨#[],0,k2 _ _ hnd,.nil,.nil,List.nodup_nil,rfl⟩ λh' tk k3 hD=>⟨rfl,q h' tk d2 (λb o e=>?_) hD⟩
 ·obtain ⟨x,x1,x2⟩:=(DN pr i).2 v (hval i v hP)
  exact ⟨x,x1,x2⟩
 ·have bl:=Ak e
  exact k3 b o (Ar bl) (Ar (Aw (Nat.lt_trans bl lt1) hI')) (k2 _ _ (k0 b o e))
end
theorem YieldsV.any {prog:Program}{w:World}{A:Around}{h:Heap}{l:Addr}{us:List Value}(y:YieldsV prog w A (λ_ _=>False) h l us)(E:Value->Shared->Prop):YieldsV prog w A E h l us:=λs1 A' R hA hk hR=>BQ (y s1 A' R hA hk hR) (λ_ _ z=>z) λ_ _ z=>z.elim
section
variable {X:Cx} {K:Zc} {th:List Addr} {mu:Sto} {H:Hp} {pins:List (Addr×Obj)} {st:L2.St} {s:Shared}
theorem Km (hu:X.A.units+64<cLine)(hc:X.calm=true):CallV X (.type "dict") dctP:=by
 intro pins s st H xs us Q I r h
 obtain ⟨th,mu,ds,so,rd,t⟩:=h
 obtain ⟨a0,mu0,e0,_⟩:=id t
 obtain ⟨d,es,ps,rfl,e2,e3,er⟩:=SY e0
 rw [e0] at t
 cases er
 obtain ⟨x,rfl,rx⟩:=DT rd
 obtain ⟨a,vs,rfl,h1,h2,h3⟩:=Gw so e2 rx
 obtain ⟨u,rfl,ru⟩:=vals1 r
 cases ru
 have pl:ps.length=es.length:=KI e3
 have fin:∀ (xs:List (D×V×V)),Paired (PrR X.z th H) ps xs->∀ h' tk d',(∀ b o,s.heap.get? b=some o->h'.get? b=some o)->UX X.w s.heap h' s.heap.objs.size (xs.foldl (Jj X.w) ([],[]))->EP X pins st Q (.ref s.heap.objs.size) { s with heap:=h',toks:=tk,drawn:=d' }:=λxs pr h' tk d' hk hD=>by
  have hp:H s.heap.objs.size=none:=I.hok.fresh (Ah _)
  obtain ⟨es',ep,g,en,pv,nd,l⟩:=hD
  obtain ⟨_,r1,r2,r3,r4⟩:=PR (K:=X.z) (p:=([],[])) (a:=([],[])) pr rfl ⟨rfl,.nil,.nil,.nil⟩ (by rw [pl];simpa using h3)
  have I0:L2.Inv X pins st H { s with drawn:=d' }:=⟨I.ok,I.os,I.bare,I.base,I.loc,I.cell,I.free,I.freeC,I.pin,I.hok,I.len⟩
  refine ⟨.ref s.heap.objs.size,_,I0.laid (h':=h') (t':=tk) (o:=Hb s.heap.objs.size (xs.foldl (Jj X.w) ([],[])).2) hk (Ah _) (LC ⟨by simpa using BH (LH I),_,es',ep,g,⟨rfl,rfl,rfl⟩,rfl,pv⟩),rfl,?_⟩
  refine t.retX (.new hp _) (so.new hp _) _ ?_
  unfold Rep
  have ex:Ext th H th (upd H s.heap.objs.size (Hb s.heap.objs.size (xs.foldl (Jj X.w) ([],[])).2)):=.new hp _
  exact ⟨_,_,rfl,so.notin hp,Ec,r1,r2.ext ex so.out,r3.ext ex so.out,r4⟩
 have zl:∀ {xs:List (D×V×V)},Paired (PrR X.z th H) ps xs->xs.length≤sizeLine:=λq=>by rw [← Dn q,pl];exact h3
 have hh:=I.ok.hd hc
 rcases h1 with h1|⟨h1,_⟩
 ·obtain ⟨its,rv,pl',hz⟩:=I.list h1
  obtain ⟨o,n,ho,hcl,hdd,hdt⟩:=id pl'
  obtain ⟨us,q,y,_⟩:=Kw (E:=λ_ _=>False) I hc h1
  obtain ⟨xs,p1,p2⟩:=Kf I e3 h2 q
  refine Wj (us:=us) (xs:=xs) (by omega) (LH I) (zl p1) ho hcl (by decide) (λA' s1 Q' E' hA hg hq=>gAL hg hcl hdt hdd (hA.trans hh) hq) y.any p2 (fin xs p1)
 ·obtain ⟨its,rv,pl',hz⟩:=I.tuple h1
  obtain ⟨o,ho,hcl,n,hdt⟩:=id pl'
  obtain ⟨o2,ho2,hdd,_⟩:=I.tupleD h1
  rw [ho] at ho2
  cases ho2
  obtain ⟨us,q,y,_⟩:=JA (E:=λ_ _=>False) I hc h1
  obtain ⟨xs,p1,p2⟩:=Kf I e3 h2 q
  refine Wj (us:=us) (xs:=xs) (by omega) (LH I) (zl p1) ho hcl (by decide) (λA' s1 Q' E' hA hg hq=>gAT hg hcl hdt hdd (hA.trans hh) hq) y.any p2 (fin xs p1)
end
end PV
namespace L2
open PySem PySem.Spec PyProof.Rows
theorem Ji {sc:Scope}{env:Env}{x:Str}(h:sc.names.lookup x=some .free):(relabel sc env).names.lookup x=some .cell∨(relabel sc env).names.lookup x=some .free:=by
 have gen:∀ l:List (Str×NameKind),l.lookup x=some .free->(l.map λ(n,k)=>if (k==NameKind.free&&env.scope.kind==.function&&env.kindOf n==some .cell)=true then (n,NameKind.cell) else (n,k)).lookup x=some .cell∨(l.map λ(n,k)=>if (k==NameKind.free&&env.scope.kind==.function&&env.kindOf n==some .cell)=true then (n,NameKind.cell) else (n,k)).lookup x=some .free:=by
  intro l
  induction l with
  | nil=>intro h;cases h
  | cons y r ih =>
   intro h
   obtain ⟨n,k⟩:=y
   rw [AM]
   by_cases e:x=n
   ·subst e
    have hb:(x==x)=true:=beq_iff_eq.mpr rfl
    simp only [List.lookup,hb] at h
    cases h
    dsimp only
    split
    ·left;simp only [List.lookup,hb]
    ·right;simp only [List.lookup,hb]
   ·have hb:(x==n)=false:=BR.mpr e
    simp only [List.lookup,hb] at h
    dsimp only
    have:=ih h
    split<;>(simp only [List.lookup,hb];exact this)
 exact gen sc.names h
theorem Te {X:Cx}{sc1 scope:Scope}{N:List Str}{cl:List (Str×Addr)}{C:Addr}{s₁:Shared}{H₁:Hp}{fp:List Addr}{fv:List (Nat×Str)}(hc:X.calm=true)(k:scope.kind=.function)(h1:∀ y∈scope.names,y.2≠.cell)
  (h2:∀ y∈scope.names,y.2=.local->scope.names.lookup y.1=some .local) (h3:∀ y∈scope.names,y.2=.free->sc1.names.lookup y.1=some .free) (hf:∀ p∈fv,N[p.1]? = some p.2∧sc1.names.lookup p.2=some .free∧scope.names.lookup p.2=some .free) :
  KS (CF X sc1 N cl C s₁ H₁ fp) scope fv:=by
 refine ⟨hc,k,h1,h2,λy hy hk=>Ji (h3 y hy hk),?_⟩
 induction fv with
 | nil=>exact True.intro
 | cons p r ih =>
  obtain ⟨a,b,c⟩:=hf p List.mem_cons_self
  exact ⟨⟨a,Ji b,Ji c⟩,ih λq hq=>hf q (Bn _ hq)⟩
end L2
namespace PV
open PySem L2 PySem.Spec PyProof.Rows
noncomputable def ZP (K:PySem.W.Frag)(mg:Str->Option Value)(x:Str)(ss:List Str):Prop:=∃ a o its n,mg x=some (.ref a)∧K.lookup a=some o∧o.cls=.type "tuple"∧o.dict=none∧o.data=.seq its n∧its.size≤sizeLine∧Vals (ss.map V.str) its.toList
theorem Uz {X:Cx}{x:Str}{ss:List Str}{pos:Pos}(hm:ZP X.K X.mg x ss)(h:(ss.all λs=>decide (s.length≤sizeLine)&&PyData.strOk s)=true:=by decide +kernel)(hl:ss.length≤sizeLine:=by decide +kernel)(hg:Gl X x:=by rfl)(hd:(x==("__debug__":Str))=false:=by decide):SV X (.Name x pos) (eC (.tup (ss.map D.str))):=by
 obtain ⟨a,o,its,n,m1,m2,m3,m4,m5,m6,m7⟩:=hm
 refine ⟨PE.weak (Nx (v:=.ref a) hg m1 rfl hd) λst H Q q=>?_⟩
 obtain ⟨th,mu,ro,so,en,t⟩:=q
 refine t.ret so _ ?_
 unfold Rep
 refine ⟨a,ss.map V.str,rfl,.inr ⟨o,its,n,m2,m3,m4,m5,m6,m7⟩,JT λs hs=>?_,by rw [Ag];exact hl⟩
 have:=Ao.mp h s hs
 rw [Ab,Ae] at this
 exact this
theorem Rq:fillsNumberSlot (.type "tuple") "mul"=pure false:=
 PySem.fillsNumberSlot_seq (id:="tuple.__mul__") (r:=some (.builtin "tuple.__rmul__")) F.slot_tuple_mul.lookup (by decide +kernel) F.slot_tuple_rmul.lookup (by decide +kernel)
theorem T9:seqRepeat? (.type "tuple")=pure (some (.builtin "tuple.__mul__")):=by
 unfold seqRepeat?
 rw [PySem.seqSlot_of (T:="tuple") (name:="__mul__") (id:="tuple.__mul__") F.slot_tuple_mul.lookup (by decide +kernel),PySem.seqSlot_of (T:="tuple") (name:="__rmul__") (id:="tuple.__rmul__") F.slot_tuple_rmul.lookup (by decide +kernel)]
 rfl
theorem VQ (a:Int)(t:Tok)(l:Addr)(items:Array Value)(n:Nat)(dc:Option Addr)(sl:Array (Option Value)) :
  Meets (Builtin.«int.__rmul__» ⟨[.int a t,.ref l],[]⟩) (λ_ R s=>s.heap.get? l=some { cls:=.type "tuple",dict:=dc,data:=.seq items n,slots:=sl }∧R (.ok (.ret Value.notImplemented)) s):=
 .of_wp λprog w A R s h=>by obtain ⟨hp,g,d,tk,os⟩:=s;obtain ⟨hl,h⟩:=h;wp_walk;exact ⟨_,rfl,h⟩
theorem YE (l:Addr)(items:Array Value)(n:Nat)(dc:Option Addr)(sl:Array (Option Value))(x:Int)(u:Tok)(h1:2≤x)(h2:x<2 ^ 62)(hne:items.isEmpty=false)(hz:items.size*x.toNat≤1000) :
  Meets (Builtin.«tuple.__mul__» ⟨[.ref l,.int x u],[]⟩) (λ_ R s=>s.heap.get? l=some { cls:=.type "tuple",dict:=dc,data:=.seq items n,slots:=sl }∧R (.ok (.ret (Value.ref s.heap.objs.size))) { s with heap:=s.heap.push { cls:=Value.type "tuple",data:=Data.seq (List.foldl (λx1 x2=>x1++x2) #[] (List.replicate x.toNat items)) },toks:=s.toks }):=
 .of_wp λprog w A R s h=>by
  obtain ⟨hp,g,d,tk,os⟩:=s;obtain ⟨hl,h⟩:=h
  have c1:(decide (x < -(2 ^ 63))||decide (x ≥ 2 ^ 63))=false:=by simp;omega
  have c2:(items.isEmpty||x==1)=false:=by rw [hne];simp;omega
  have c3:(decide (x≤0)||items.isEmpty)=false:=by rw [hne];simp;omega
  wp_walk
  rw [if_neg (by rw [c1];exact AB)]
  wp_walk
  rw [if_neg (by rw [c2];exact AB)]
  wp_walk
  rw [if_neg (by rw [c3];exact AB)]
  have ex:(x.toNat:Int)=x:=Int.toNat_of_nonneg (by omega)
  have ez:((items.size:Int)*x)=((items.size*x.toNat:Nat):Int):=by rw [Int.natCast_mul,ex]
  have c4:¬ ((items.size:Int)*x > (2 ^ 63-1) / 8):=by rw [ez];omega
  have c5:¬ (Builtin.Tuple.tupleTooMany ((items.size:Int)*x)=true):=by
   unfold Builtin.Tuple.tupleTooMany
   rw [ez,Ae]
   have:(1000:Int)≤(sizeLine:Int):=by decide
   omega
  refine Iy (λz=>absurd z c4) λ_=>?_
  refine Iy (λz=>absurd z c5) λ_=>?_
  (unfold Builtin.Tuple.tupleExact)
  have hzz:(List.foldl (λx1 x2=>x1++x2) #[] (List.replicate x.toNat items)).size≤sizeLine:=by
   have gen:∀ (k:Nat) (b:Array Value),(List.foldl (λx1 x2=>x1++x2) b (List.replicate k items)).size=b.size+k*items.size:=by
    intro k
    induction k with
    | zero=>intro b;simp
    | succ k ih=>intro b;rw [List.replicate_succ,List.foldl_cons,ih,Array.size_append,Nat.succ_mul];omega
   rw [gen,Nat.mul_comm]
   have:1000≤sizeLine:=by decide
   simp only [Array.size_empty]
   omega
  exact Aa (AO (hd:=hzz) (Ac ⟨_,rfl,h⟩))
theorem Aau (l:Addr)(items:Array Value)(n:Nat)(dc:Option Addr)(sl:Array (Option Value))(u:Tok) :
  Meets (Builtin.«tuple.__mul__» ⟨[.ref l,.int 1 u],[]⟩) (λ_ R s=>s.heap.get? l=some { cls:=.type "tuple",dict:=dc,data:=.seq items n,slots:=sl }∧R (.ok (.ret (Value.ref l))) s):=
 .of_wp λprog w A R s h=>by
  obtain ⟨hp,g,d,tk,os⟩:=s;obtain ⟨hl,h⟩:=h
  wp_walk
  exact ⟨_,rfl,h⟩
section
variable {X:Cx} {K:Zc} {th:List Addr} {mu:Sto} {H:Hp}
noncomputable def US (d e:D)(mu:Sto):Rs D:=match d,e with
 | .tup (x::xs),.int n=>if 1≤n∧n<1000∧(x::xs).length*n.toNat≤1000 then some (.tup (List.replicate n.toNat (x::xs)).flatten,mu) else none
 | _,_=>none
theorem OJ {ds:List D}{vs:List V}(r:RepL K th H ds vs):∀ k:Nat,RepL K th H (List.replicate k ds).flatten (List.replicate k vs).flatten
 | 0=>.nil
 | k+1=>by
  rw [List.replicate_succ,List.replicate_succ,List.flatten_cons,List.flatten_cons]
  exact r.app (OJ r k)
theorem Vo:OpV X (binaryOp .Mult) US:=by
 intro pins s st H x y v u Q I rx ry h
 obtain ⟨th,mu,d,e,so,r1,r2,t⟩:=h
 unfold US at t
 split at t
 ·rename_i x0 xs n
  by_cases c:1≤n∧n<1000∧(x0::xs).length*n.toNat≤1000
  ·rw [if_pos c] at t
   unfold Rep at r1 r2
   obtain ⟨a,vs,rfl,h1,h2,h3⟩:=r1
   subst r2
   cases rx
   obtain ⟨tk,rfl⟩:=ry
   obtain ⟨its,rv,p1,_⟩:=I.tuple h1
   obtain ⟨⟨cls,dd,data,sl⟩,ho,hc,m,hd⟩:=id p1
   simp only at hc hd
   subst hc hd
   refine wpAny_binaryOp_repeat_ref (T:="tuple") (U:="int") (by decide) ⟨_,ho,rfl⟩ (λs'=>typeIs_int s' n tk) Rq F.fills_int_mul F.slot_int_rmul T9 F.slot_int_index.lookup
    (call_meets F.slot_int_rmul (typeIs_int s n tk) F.entry_int_rmul (F.args_int_rmul_2 _ _) (VQ n tk a its.toArray m dd sl) ⟨ho,rfl,⟨_,ho,rfl⟩,?_⟩)
   have il:its.length=(x0::xs).length:=by rw [← rv.length,h2.len]
   by_cases c1:n=1
   ·subst c1
    refine call_meets F.slot_tuple_mul ⟨_,ho,rfl⟩ F.entry_tuple_mul (F.args_tuple_mul_2 _ _) (Aau a its.toArray m dd sl tk) ⟨ho,?_⟩
    refine ⟨.ref a,H,I,rfl,t.ret so _ ?_⟩
    show Rep X.z th H (.tup (List.replicate 1 (x0::xs)).flatten) (.ref a)
    rw [show (List.replicate 1 (x0::xs)).flatten=x0::xs by simp]
    unfold Rep
    exact ⟨a,vs,rfl,h1,h2,h3⟩
   ·refine call_meets F.slot_tuple_mul ⟨_,ho,rfl⟩ F.entry_tuple_mul (F.args_tuple_mul_2 _ _) (YE a its.toArray m dd sl n tk (by omega) (by omega) (by cases its with|nil=>simp at il|cons _ _=>rfl) (by rw [Ai,il];exact c.2.2)) ⟨ho,?_⟩
    have hp:H s.heap.objs.size=none:=I.hok.fresh (Ah _)
    have hz:(List.replicate n.toNat vs).flatten.length≤sizeLine:=by
     rw [len_rep,h2.len,Nat.mul_comm]
     exact AK c.2.2 (by decide)
    have ea:List.foldl (λx1 x2=>x1++x2) #[] (List.replicate n.toNat its.toArray)=(List.replicate n.toNat its).flatten.toArray:=by
     have:=foldl_rep its n.toNat []
     rw [List.nil_append] at this
     exact this
    rw [ea]
    refine ⟨.ref s.heap.objs.size,_,I.laid (t':=s.toks) (o:=.tup (List.replicate n.toNat vs).flatten) (λb ob q=>Ad _ q) (Ah _) ?_,rfl,t.retX (.new hp _) (so.new hp _) _ (Rep.newTup so hp (OJ h2 _) ?_)⟩
    ·exact ⟨⟨hz,⟨_,Am _ rfl,rfl⟩⟩,_,rv.rep n.toNat,IsTup.new _ _⟩
    ·rw [len_rep,Nat.mul_comm]
     exact AK c.2.2 (by decide)
  ·rw [if_neg c] at t;exact t.no.elim
 ·exact t.no.elim
noncomputable def S4 (d e:D)(mu:Sto):Rs D:=match F6 d e mu with
 | some r=>some r
 | none=>US d e mu
theorem U6:OpV X (binaryOp .Mult) S4:=OpV.or EK Vo
noncomputable def Nc (d e:D)(mu:Sto):Rs D:=match Du mu d,Du mu e with
 | some xs,some ys=>if xs.length+ys.length≤sizeLine then some (.ref mu.length,mu++[.lst (xs++ys)]) else none
 | _,_=>none
theorem JG:OpV X (binaryOp .Add) Nc:=by
 intro pins s st H x y v u Q I rx ry h
 obtain ⟨th,mu,d,e,so,r1,r2,t⟩:=h
 unfold Nc at t
 cases e1:Du mu d with
 | none=>rw [e1] at t;exact t.no.elim
 | some xs =>
  cases e2:Du mu e with
  | none=>rw [e1,e2] at t;exact t.no.elim
  | some ys =>
   rw [e1,e2] at t
   dsimp only at t
   by_cases c:xs.length+ys.length≤sizeLine
   ·rw [if_pos c] at t
    obtain ⟨a,vs,rfl,h1,h2,h3⟩:=Er so e1 r1
    obtain ⟨b,us,rfl,k1,k2,k3⟩:=Er so e2 r2
    cases rx
    cases ry
    refine Qt I h1 k1 (by rw [h2.len,k2.len];exact c) λp hp=>t.retX (.newM hp _) (so.newM hp (h2.app k2) (by rw [Aq];exact c)) _ ?_
    unfold Rep
    exact ⟨p,rfl,by rw [← so.len];simp⟩
   ·rw [if_neg c] at t;exact t.no.elim
end
theorem O5 (b:Str)(u:Tok)(l:Addr)(es:Array DictEntry)(n:Nat)(dd:Option Addr)(sl:Array (Option Value)) :
  Meets (Builtin.«str.__eq__» ⟨[.str b u,.ref l],[]⟩) (λ_ R s=>s.heap.get? l=some { cls:=.type "dict",dict:=dd,data:=.dict es n,slots:=sl }∧R (.ok (.ret .notImplemented)) s):=
 .of_wp λprog w A R s h=>by obtain ⟨hp,g,d,tk,os⟩:=s;obtain ⟨hl,h⟩:=h;wp_walk using Bv hl,wpAny_load hl;exact ⟨_,rfl,h⟩
theorem OT (l:Addr)(es:Array DictEntry)(n:Nat)(dd:Option Addr)(sl:Array (Option Value))(b:Str)(u:Tok) :
  Meets (Builtin.«dict.__eq__» ⟨[.ref l,.str b u],[]⟩) (λ_ R s=>s.heap.get? l=some { cls:=.type "dict",dict:=dd,data:=.dict es n,slots:=sl }∧R (.ok (.ret .notImplemented)) s):=
 .of_wp λprog w A R s h=>by
  obtain ⟨hp,g,d,tk,os⟩:=s;obtain ⟨hl,h⟩:=h
  have f1:=PySem.F.sub_str_dict
  have hT:(⟨hp,g,d,tk,os⟩:Shared).TypeIs (.ref l) "dict":=⟨_,hl,rfl⟩
  unfold Builtin.«dict.__eq__»
  wp_walk using Bv hl,wpAny_load hl
  exact ⟨_,rfl,h⟩
theorem ZU {A:Around}{s:Shared}{l:Addr}{es:Array DictEntry}{n:Nat}{dd:Option Addr}{sl:Array (Option Value)}(b:Str)(u:Tok)(ho:s.heap.get? l=some { cls:=.type "dict",dict:=dd,data:=.dict es n,slots:=sl })(hu:A.units<cLine):SeqAt.RcAt A s (.str b u) (.ref l) false:=λprog w E Q h=>by
 exact SeqAt.rc_eq_decline_or (k:=false) (typeIs_str s b u) ⟨_,ho,rfl⟩ (by decide) PySem.F.sub_dict_str PySem.F.slot_str_eq PySem.F.slot_dict_eq_refl
  (λ_ hq=>call_meets PySem.F.slot_str_eq (typeIs_str s b u) PySem.F.entry_str_eq (PySem.F.args_str_eq_2 _ _) (O5 b u l es n dd sl) ⟨ho,hq⟩)
  (λ_ hq=>call_meets PySem.F.slot_dict_eq_refl ⟨_,ho,rfl⟩ PySem.F.entry_dict_eq (PySem.F.args_dict_eq_2 _ _) (OT l es n dd sl b u) ⟨ho,hq⟩)
  (λ_ hq=>wpAny_of_eq (rfl:isSame (.str b u) (.ref l)=pure false) hq) (.inr hu) h
section
variable {X:Cx} {K:Zc} {th:List Addr} {mu:Sto} {H:Hp}
noncomputable def eqX (d e:D)(mu:Sto):Rs D:=match d,e with
 | .str _,.tup _=>some (.bl false,mu)
 | .str _,.lst _=>some (.bl false,mu)
 | .str _,.dct _ _=>some (.bl false,mu)
 | .tup xs,.tup []=>some (.bl (xs.length==0),mu)
 | _,_=>none
theorem Xd (hu:X.A.units+64<cLine):OpV X (compareOp .Eq) eqX:=by
 intro pins s st H x y v u Q I rx ry h
 obtain ⟨th,mu,d,e,so,r1,r2,t⟩:=h
 have hu':X.A.units<cLine:=by omega
 unfold eqX at t
 split at t
 ·rename_i x0 ds
  unfold Rep at r1 r2
  obtain ⟨rfl,_⟩:=r1
  obtain ⟨a,vs,rfl,h1,_⟩:=r2
  obtain ⟨tk,rfl⟩:=rx
  cases ry
  obtain ⟨its,rv,pl,_⟩:=I.tuple h1
  exact SeqAt.RcAt.str_tuple x0 tk pl hu' _ _ _ _ ⟨.bl false,H,I,rfl,t.ret so _ rfl⟩
 ·rename_i x0 ds
  unfold Rep at r1 r2
  obtain ⟨rfl,_⟩:=r1
  obtain ⟨a,vs,rfl,h1,_⟩:=r2
  obtain ⟨tk,rfl⟩:=rx
  cases ry
  obtain ⟨its,rv,pl,_⟩:=I.list h1.sq
  exact SeqAt.RcAt.str_list x0 tk pl.isList hu' _ _ _ _ ⟨.bl false,H,I,rfl,t.ret so _ rfl⟩
 ·rename_i x0 ks ds
  obtain ⟨a,e2,dc⟩:=Fc so (d:=.dct ks ds) rfl r2
  subst e2
  unfold Rep at r1
  obtain ⟨rfl,_⟩:=r1
  obtain ⟨tk,rfl⟩:=rx
  cases ry
  obtain ⟨xs,o,es,ep,_,g⟩:=HF I dc
  obtain ⟨⟨cls,dd,data,sl⟩,ho,hex,hdt⟩:∃ o:Obj,s.heap.get? a=some o∧o.cls=.type "dict"∧o.data=.dict es ep:=⟨o,g.at',g.ex.1,g.dt⟩
  simp only at hex hdt
  subst hex hdt
  exact ZU x0 tk ho hu' _ _ _ _ ⟨.bl false,H,I,rfl,t.ret so _ rfl⟩
 ·rename_i xs
  unfold Rep at r1 r2
  obtain ⟨a,vs,rfl,h1,h2,_⟩:=r1
  obtain ⟨b,us,rfl,k1,k2,_⟩:=r2
  cases rx
  cases ry
  obtain ⟨its,rv,pl,_⟩:=I.tuple h1
  obtain ⟨its2,rv2,pl2,_⟩:=I.tuple k1
  have e2:us=[]:=k2.inv0
  subst e2
  have e3:its2=[]:=by cases rv2;rfl
  subst e3
  have il:its.length=xs.length:=by rw [← rv.length,h2.len]
  have:=SeqAt.RcAt.tuples (e:=λ_=>true) pl pl2 hu' (λj h1 h2=>absurd h2 (by simp)) X.prog X.w X.xe (EP X pins st Q) (s:=s) ⟨.bl (xs.length==0),H,I,?_,t.ret so _ rfl⟩
  ·exact this
  ·show Value.bool _=Value.bool _
   congr 1
   simp [il]
 ·exact t.no.elim
noncomputable def eqG (d e:D)(mu:Sto):Rs D:=match eqD d e mu with
 | some r=>some r
 | none=>eqX d e mu
theorem F5 (hu:X.A.units+64<cLine):OpV X (compareOp .Eq) eqG:=OpV.or (CZ hu) (Xd hu)
end
end PV
namespace PG
open PySem L2 PV PyProof.Rows
noncomputable def IC:Sx:=
  Cn (sIf (tO (tNt (tV (GH "str" (B0 0)))) (tNt (tV (F9 leD leD (eC (.int 1)) (B7 DZ (BY (B0 0) B5)) (eC (.int 8)))))) (sRt (eC (.bl false))) (sNx)) (sRt (B7 GX (BY (eLC (D0 (B0 0)) 1 [] (gNm 0) (tY) (B8 inG (B0 0) (eC (.str "abcdefghijklmnopqrstuvwxyz0123456789")))) B5)))
noncomputable def Dq:Fn:=fnB 1 IC
noncomputable def Jh:Sx:=
  sRt (eAn (GH "tuple" (B0 0)) (F9 leD leD (B0 1) (B7 DZ (BY (B0 0) B5)) (B0 2)))
noncomputable def De:Fn:=fnB 3 Jh
noncomputable def D1:Sx:=
  sRt (eAn (GH "tuple" (B0 0)) (B7 GX (BY (eLC (D0 (B0 0)) 1 [] (gNm 0) (tY) (B7 Dq (BY (B0 0) B5))) B5)))
noncomputable def Dl:Fn:=fnB 1 D1
noncomputable def Gn:Sx:=
  sRt (B8 eqD (B7 DZ (BY (B7 J8 (BY (B0 0) B5)) B5)) (B7 DZ (BY (B0 0) B5)))
noncomputable def Dc:Fn:=fnB 1 Gn
noncomputable def GS:Sx:=
  sRt (eAn (B7 De (BY (B0 0) (BY (B0 1) (BY (B0 2) B5)))) (eAn (B7 Dl (BY (B0 0) B5)) (B7 Dc (BY (B0 0) B5))))
noncomputable def EC:Fn:=fnB 3 GS
noncomputable def HK:Sx:=
  sRt (B7 GX (BY (eLC (D0 (B0 1)) 1 [0] (gNm 0) (tY) (B8 inG (B0 0) (B0 1))) B5))
noncomputable def Di:Fn:=fnB 2 HK
noncomputable def JY:Sx:=
  sRt (eAn (B7 De (BY (B0 0) (BY (eC (.int 2)) (BY (eC (.int 2)) B5)))) (eAn (B7 Dq (BY (B8 ixG (B0 0) (eC (.int 0))) B5)) (B7 Dq (BY (B8 ixG (B0 0) (eC (.int 1))) B5))))
noncomputable def Gp:Fn:=fnB 1 JY
noncomputable def Ib:Sx:=
  Cn (sIf (tO (tNt (tV (B7 De (BY (B0 1) (BY (eC (.int 1)) (BY (B7 DZ (BY (B0 0) B5)) B5)))))) (tNt (tV (B7 GX (BY (eLC (D0 (B0 1)) 1 [] (gNm 0) (tY) (B7 Gp (BY (B0 0) B5))) B5))))) (sRt (eC (.bl false))) (sNx)) (Cn (CM (eLC (D0 (B0 1)) 1 [] (gNm 0) (tY) (B8 ixG (B0 0) (eC (.int 0)))) (gNm 2)) (sRt (eAn (B7 Dc (BY (B0 2) B5)) (B7 Di (BY (B0 0) (BY (B0 2) B5))))))
noncomputable def FR:Fn:=fnB 3 Ib
noncomputable def FI:Sx:=
  Cn (CM (B7 dctP (BY (B0 1) B5)) (gNm 2)) (sRt (B7 Fx (BY (eLC (D0 (B0 0)) 1 [2] (gNm 0) (tY) (JN (B0 1) (BY (B0 0) (BY (B0 0) B5)))) B5)))
noncomputable def D7:Fn:=fnB 3 FI
noncomputable def J5:Sx:=
  Cn (sIf (tO (tNt (tV (B7 De (BY (B0 1) (BY (eC (.int 3)) (BY (eC (.int 3)) B5)))))) (tNt (tV (B7 GX (BY (eLC (D0 (B0 1)) 1 [] (gNm 0) (tY) (B7 Dq (BY (B0 0) B5))) B5))))) (sRt (eC (.bl false))) (sNx)) (Cn (CM (B0 1) (gTp 3 (Cy (gNm 2) (Cy (gNm 3) (Cy (gNm 4) EB))))) (Cn (sIf (tV (B8 inG (B0 2) (CL (BY (eC (.str "is")) (BY (eC (.str "not")) B5))))) (sRt (B8 inG (B0 3) (B0 0))) (sNx)) (sRt (eAn (B8 inG (B0 2) (CL (BY (eC (.str "like")) (BY (eC (.str "unlike")) B5)))) (B7 Di (BY (B0 0) (BY (CL (BY (B0 3) (BY (B0 4) B5))) B5)))))))
noncomputable def Gq:Fn:=fnB 5 J5
noncomputable def Ie:Sx:=
  sRt (eAn (B7 De (BY (B0 1) (BY (eC (.int 1)) (BY (eC (.int 4)) B5)))) (B7 GX (BY (eLC (D0 (B0 1)) 1 [0] (gNm 0) (tY) (B7 Gq (BY (B0 1) (BY (B0 0) B5)))) B5)))
noncomputable def FX:Fn:=fnB 2 Ie
noncomputable def EO:Sx:=
  Cn (sIf (tV (B8 eqD (B0 1) (eC (.str "rows")))) (sRt (eIf (tV (B7 FX (BY (B0 0) (BY (B0 2) B5)))) (B0 0) (eC .non))) (sNx)) (Cn (sIf (tV (B8 eqD (B0 1) (eC (.str "columns")))) (sRt (eIf (tAn (tV (B7 EC (BY (B0 2) (BY (eC (.int 1)) (BY (B7 DZ (BY (B0 0) B5)) B5))))) (tV (B7 Di (BY (B0 0) (BY (B0 2) B5))))) (B0 2) (eC .non))) (sNx)) (Cn (sIf (tAn (tV (B8 eqD (B0 1) (eC (.str "called")))) (tV (B7 FR (BY (B0 0) (BY (B0 2) B5))))) (Cn (CM (B7 D7 (BY (B0 0) (BY (B0 2) B5))) (gNm 3)) (sRt (eIf (tV (B7 Dc (BY (B0 3) B5))) (B0 3) (eC .non)))) (sNx)) (sRt (eC .non))))
noncomputable def DE:Fn:=fnB 4 EO
noncomputable def FK:Sx:=
  sRt (B8 CO (B0 0) (B7 Fx (BY (eLC (D0 (B0 1)) 1 [0] (gNm 0) (tV (B8 Ht (B0 0) (B0 1))) (B0 0)) B5)))
noncomputable def Ea:Fn:=fnB 2 FK
noncomputable def EM:Sx:=
  Cn (sIf (tV (B8 eqD (B0 1) (eC (.str "join")))) (sRt (B7 Ea (BY (B0 0) (BY (B0 2) B5)))) (sNx)) (sRt (eIf (tV (B8 eqD (B0 0) (B0 2))) (B0 0) (eC .non)))
noncomputable def DC:Fn:=fnB 3 EM
noncomputable def HD:Sx:=
  sRt (eAn (B8 eqD (B7 DZ (BY (B0 1) B5)) (eC (.int 2))) (eAn (B7 Dq (BY (B8 ixG (B0 1) (eC (.int 1))) B5)) (B8 inG (B8 ixG (B0 1) (eC (.int 1))) (B0 0))))
noncomputable def E1:Fn:=fnB 2 HD
noncomputable def Eg (f:Fn):Sx:=
  Cn (sIf (tO (tV (B8 eqD (B0 2) (eC (.int 0)))) (tO (tNt (tV (B7 De (BY (B0 1) (BY (eC (.int 2)) (BY (eC (.int 3)) B5)))))) (tNt (tV (GH "str" (B8 ixG (B0 1) (eC (.int 0)))))))) (sRt (eC .non)) (sNx)) (Cn (sIf (tV (B8 eqD (B8 ixG (B0 1) (eC (.int 0))) (eC (.str "of")))) (sRt (eIf (tV (B7 E1 (BY (B0 0) (BY (B0 1) B5)))) (B8 ixG (B0 0) (B8 ixG (B0 1) (eC (.int 1)))) (eC .non))) (sNx)) (Cn (CM (eIf (tV (B8 eqD (B7 DZ (BY (B0 1) B5)) (eC (.int 3)))) (B7 f (BY (B0 0) (BY (B8 ixG (B0 1) (eC (.int 1))) (BY (B8 Lv (B0 2) (eC (.int 1))) B5)))) (eC .non)) (gNm 3)) (Cn (sIf (tV (B8 isD (B0 3) (eC .non))) (sRt (eC .non)) (sNx)) (Cn (sIf (tV (B8 Ht (B8 ixG (B0 1) (eC (.int 0))) (eC (.tup ((["join","union","gap"]:List Str).map D.str))))) (sRt (B7 DE (BY (B0 3) (BY (B8 ixG (B0 1) (eC (.int 0))) (BY (B8 ixG (B0 1) (eC (.int 2))) B5))))) (sNx)) (Cn (CM (B7 f (BY (B0 0) (BY (B8 ixG (B0 1) (eC (.int 2))) (BY (B8 Lv (B0 2) (eC (.int 1))) B5)))) (gNm 4)) (sRt (eIf (tV (B8 isD (B0 4) (eC .non))) (eC .non) (B7 DC (BY (B0 3) (BY (B8 ixG (B0 1) (eC (.int 0))) (BY (B0 4) B5)))))))))))
noncomputable def CI:Nat->Fn
 | 0=>λ_ _=>none
 | n+1=>fnB 5 (Eg (CI n))
noncomputable def Fq:Sx:=
  sRt (eCo (D0 (B0 0)) 1 [] (gNm 0) (tY) (stD (B8 ixG (B0 0) (eC (.int 0))) (B7 Fx (BY (eLC (D0 (B8 ixG (B0 0) (eC (.int 1)))) 1 [] (gNm 0) (tY) (B8 ixG (B0 0) (eC (.int 0)))) B5))) ([],[]) Ur)
noncomputable def DQ:Fn:=fnB 1 Fq
noncomputable def J1:Sx:=
  sRt (B8 M0 (B7 (CI 10) (BY (B7 DQ (BY (B0 0) B5)) (BY (B0 1) (BY (eC (.int 8)) B5)))) (eC .non))
noncomputable def D4:Fn:=fnB 2 J1
noncomputable def HJ:Sx:=
  Cn (CM (eC (.int 0)) (gNm 2)) (Cn (sIf (tV (B8 ltG (B0 1) (B7 DZ (BY (B0 0) B5)))) (CM (B8 ixG (B0 0) (B0 1)) (gNm 2)) (sNx)) (sRt (HM (BY (B8 F6 (B0 2) (B7 Tn (BY (B8 geD (B0 2) (B8 TQ (eC (.int 10)) (eC (.int 18)))) B5))) (BY (B8 CO (B8 CO (B8 GZ (B0 2) (eC (.int 2305843009213693951))) (B8 F6 (eC (.int 7919)) (B0 1))) (eC (.int 3))) (BY (eC (.int 0)) B5))))))
noncomputable def EZ:Fn:=fnB 3 HJ
noncomputable def Hf:Sx:=
  Cn (sIf (tV (B8 gtD (B8 ixG (B0 0) (eC (.int 0))) (eC (.int 0)))) (Cn (CM (B8 GZ (B8 ixG (B0 0) (eC (.int 0))) (B0 1)) (gNm 2)) (Cn (CM (B8 Lh (B8 ixG (B0 0) (eC (.int 0))) (B0 1)) (gIx (B0 0) (eC (.int 0)))) (sRt (B0 2)))) (sNx)) (Cn (CM (B8 CO (B8 ixG (B0 0) (eC (.int 2))) (eC (.int 1))) (gIx (B0 0) (eC (.int 2)))) (Cn (CM (B8 ixG (B0 0) (eC (.int 2))) (gNm 3)) (Cn (CM (B8 GZ (B8 F6 (B8 ixG (B0 0) (eC (.int 1))) (B8 CO (B8 CO (eC (.int 48271)) (B8 F6 (B8 F6 (eC (.int 2)) (B0 3)) (B0 3))) (B8 F6 (eC (.int 65537)) (B0 3)))) (eC (.int 2305843009213693921))) (gNm 4)) (Cn (CM (B8 CO (B8 CO (B8 GZ (B0 4) (eC (.int 1000003))) (B8 F6 (B0 3) (eC (.int 99991)))) (eC (.int 11))) (gNm 5)) (Cn (CM (B8 GZ (B8 F6 (B0 4) (B0 5)) (eC (.int 2305843009213693907))) (gNm 4)) (sRt (B8 GZ (B8 CO (B8 Lh (B0 4) (eC (.int 97))) (B8 Lh (B0 4) (eC (.int 1000033)))) (B0 1))))))))
noncomputable def Cg:Fn:=fnB 6 Hf
noncomputable def GF:Sx:=
  sRt (B8 ixG (B0 1) (B7 Cg (BY (B0 0) (BY (B7 DZ (BY (B0 1) B5)) B5))))
noncomputable def CA:Fn:=fnB 2 GF
noncomputable def Ij:Sx:=
  Cn (CM (eC (.str "abcdefghijklmnopqrstuvwxyz0123456789")) (gNm 3)) (Cn (CM (CL (BY (B7 Cg (BY (B0 0) (BY (eC (.int 36)) B5))) (BY (B7 CA (BY (B0 0) (BY (GW (BY (eC (.int 1)) (BY (eC (.int 5)) (BY (eC (.int 7)) (BY (eC (.int 11)) (BY (eC (.int 13)) (BY (eC (.int 17)) B5))))))) B5))) B5))) (gTp 2 (Cy (gNm 4) (Cy (gNm 5) EB)))) (Cn (CM (B8 F6 (B8 ixG (B0 3) (B7 Cg (BY (B0 0) (BY (eC (.int 36)) B5)))) (B7 NX (BY (B8 Lv (B0 2) (eC (.int 1))) (BY (B7 CA (BY (B0 0) (BY (GW (BY (eC (.int 0)) (BY (eC (.int 1)) (BY (eC (.int 0)) (BY (eC (.int 2)) (BY (eC (.int 7)) B5)))))) B5))) B5)))) (gNm 6)) (Cn (CM (B7 Cg (BY (B0 0) (BY (B8 CO (B7 DZ (BY (B0 6) B5)) (eC (.int 1))) B5))) (gNm 7)) (sRt (eLC (iRg (BY (B0 1) B5)) 1 [6,7,3,4,5] (gNm 0) (tY) (B8 CO (B8 CO (eSl (B0 1) (pNo) (F1 (B0 2))) (B8 ixG (B0 3) (B8 GZ (B8 CO (B0 4) (B8 F6 (B0 5) (B0 0))) (eC (.int 36))))) (eSl (B0 1) (F1 (B0 2)) (pNo))))))))
noncomputable def Ez:Fn:=fnB 8 Ij
noncomputable def HI:Sx:=
  Cn (CM (B7 Pf (BY (B7 Ez (BY (B0 0) (BY (B8 CO (eC (.int 1)) (B7 Cg (BY (B0 0) (BY (B0 1) B5)))) (BY (eC (.int 8)) B5)))) B5)) (gNm 4)) (Cn (CM (CL (BY (B7 Ez (BY (B0 0) (BY (B8 CO (B0 2) (eC (.int 2))) (BY (eC (.int 8)) B5)))) (BY (B7 Ez (BY (B0 0) (BY (B8 CO (B0 3) (eC (.int 1))) (BY (eC (.int 8)) B5)))) B5))) (gTp 2 (Cy (gNm 5) (Cy (gNm 6) EB)))) (Cn (CM (HM B5) (gNm 7)) (Cn (Lc (D0 (B0 4)) (gNm 8) (Cn (Qj 9 10 11 (BY (B8 CO (eC (.int 1)) (B7 Cg (BY (B0 0) (BY (B0 2) B5)))) (BY (B7 Cg (BY (B0 0) (BY (eC (.int 3)) B5))) (BY (HM B5) B5)))) (Cn (Lc (iRg (BY (B0 9) B5)) (gNm 12) (Cn (CM (CL (BY (B8 CO (eC (.int 1)) (B7 Cg (BY (B0 0) (BY (B0 3) B5)))) (BY (B7 Cg (BY (B0 0) (BY (eC (.int 2)) B5))) B5))) (gTp 2 (Cy (gNm 13) (Cy (gNm 14) EB)))) (Cn (CM (B7 Fx (BY (eLC (iRg (BY (B0 13) B5)) 1 [6,14] (gNm 0) (tY) (B8 ixG (B0 1) (B8 GZ (B8 CO (B0 0) (B0 2)) (B7 DZ (BY (B0 1) B5))))) B5)) (gNm 15)) (sEx (NR (B0 11) (BY (CL (BY (B8 ixG (B0 5) (B8 GZ (B8 CO (B0 12) (B0 10)) (B7 DZ (BY (B0 5) B5)))) (BY (B0 15) B5))) B5)))))) (sEx (NR (B0 7) (BY (CL (BY (B0 8) (BY (B7 Fx (BY (B0 11) B5)) (BY (B8 CO (eC (.int 1)) (B7 Cg (BY (B0 0) (BY (B0 9) B5)))) B5)))) B5)))))) (sRt (B7 Fx (BY (B0 7) B5))))))
noncomputable def Ed:Fn:=fnG 16 HI
noncomputable def Fy (f:Fn):Sx:=
  Cn (sIf (tV (B8 eqD (B8 ixG (B0 1) (eC (.int 0))) (eC (.str "of")))) (sRt (B8 ixG (eLC (D0 (B0 0)) 1 [1] (gNm 0) (tV (B8 eqD (B8 ixG (B0 0) (eC (.int 0))) (B8 ixG (B0 1) (eC (.int 1))))) (B7 Fx (BY (eLC (D0 (B8 ixG (B0 0) (eC (.int 1)))) 2 [] (gTp 2 (Cy (gNm 0) (Cy (gNm 1) EB))) (tY) (B0 0)) B5))) (eC (.int 0)))) (sNx)) (Cn (CM (B7 f (BY (B0 0) (BY (B8 ixG (B0 1) (eC (.int 1))) B5))) (gNm 2)) (Cn (sIf (tV (B8 eqD (B8 ixG (B0 1) (eC (.int 0))) (eC (.str "columns")))) (sRt (B8 ixG (B0 1) (eC (.int 2)))) (sNx)) (Cn (sIf (tV (B8 eqD (B8 ixG (B0 1) (eC (.int 0))) (eC (.str "called")))) (Cn (CM (B7 dctP (BY (B7 Ls (BY (B8 ixG (B0 1) (eC (.int 2))) B5)) B5)) (gNm 3)) (sRt (B7 Fx (BY (eLC (D0 (B0 2)) 1 [3] (gNm 0) (tY) (JN (B0 1) (BY (B0 0) (BY (B0 0) B5)))) B5)))) (sNx)) (Cn (sIf (tV (B8 eqD (B8 ixG (B0 1) (eC (.int 0))) (eC (.str "join")))) (sRt (B8 CO (B0 2) (B7 Fx (BY (eLC (D0 (B7 f (BY (B0 0) (BY (B8 ixG (B0 1) (eC (.int 2))) B5)))) 1 [2] (gNm 0) (tV (B8 Ht (B0 0) (B0 1))) (B0 0)) B5)))) (sNx)) (sRt (B0 2))))))
noncomputable def Ds:Nat->Fn
 | 0=>λ_ _=>none
 | n+1=>fnB 4 (Fy (Ds n))
noncomputable def H0:Sx:=
  Cn (CM (HM B5) (gNm 1)) (Cn (Lc (D0 (B0 0)) (gTp 3 (Cy (gNm 2) (Cy (gNm 3) (Cy (gNm 4) EB)))) (Lc (D0 (B0 3)) (gTp 2 (Cy (gNm 5) (Cy (gNm 6) EB))) (sEx (TK (B0 1) (BY (B7 Ls (BY (B0 6) B5)) B5))))) (sRt (B7 Pf (BY (B7 J8 (BY (B0 1) B5)) B5))))
noncomputable def FU:Fn:=fnG 7 H0
noncomputable def HC:Sx:=
  Cn (CM (B7 CA (BY (B0 0) (BY (GW (BY (eC (.str "is")) (BY (eC (.str "not")) (BY (eC (.str "like")) (BY (eC (.str "unlike")) (BY (eC (.str "is")) B5)))))) B5))) (gNm 3)) (sRt (CL (BY (B0 3) (BY (B7 CA (BY (B0 0) (BY (B0 1) B5))) (BY (B7 CA (BY (B0 0) (BY (eIf (tV (B8 inG (B0 3) (CL (BY (eC (.str "is")) (BY (eC (.str "not")) B5))))) (B0 2) (B0 1)) B5))) B5)))))
noncomputable def Ei:Fn:=fnB 4 HC
noncomputable def E5 (f:Fn):Sx:=
  Cn (sIf (tV (B8 eqD (B8 ixG (B0 0) (eC (.int 0))) (eC (.str "of")))) (sRt (eC (.int 6))) (sNx)) (Cn (sIf (tV (B8 eqD (B8 ixG (B0 0) (eC (.int 0))) (eC (.str "join")))) (sRt (B8 F6 (B7 f (BY (B8 ixG (B0 0) (eC (.int 1))) B5)) (B7 f (BY (B8 ixG (B0 0) (eC (.int 2))) B5)))) (sNx)) (sRt (B8 CO (B7 f (BY (B8 ixG (B0 0) (eC (.int 1))) B5)) (eIf (tV (B8 eqD (B8 ixG (B0 0) (eC (.int 0))) (eC (.str "union")))) (B7 f (BY (B8 ixG (B0 0) (eC (.int 2))) B5)) (eC (.int 0))))))
noncomputable def DL:Nat->Fn
 | 0=>λ_ _=>none
 | n+1=>fnB 1 (E5 (DL n))
noncomputable def CU (f:Fn):Sx:=
  Cn (CM (B7 Cg (BY (B0 0) (BY (eC (.int 8)) B5))) (gNm 3)) (Cn (sIf (tO (tV (B8 ltG (B0 2) (eC (.int 2)))) (tV (B8 eqD (B0 3) (eC (.int 0))))) (sRt (CL (BY (eC (.str "of")) (BY (B8 ixG (B7 CA (BY (B0 0) (BY (B0 1) B5))) (eC (.int 0))) B5)))) (sNx)) (Cn (CM (B7 f (BY (B0 0) (BY (B0 1) (BY (B8 Lv (B0 2) (eC (.int 1))) B5)))) (gNm 4)) (Cn (CM (CL (BY (B7 (Ds 10) (BY (B0 1) (BY (B0 4) B5))) (BY (B7 FU (BY (B0 1) B5)) B5))) (gTp 2 (Cy (gNm 5) (Cy (gNm 6) EB)))) (Cn (sIf (tV (B8 ltG (B0 3) (eC (.int 3)))) (sRt (CL (BY (eC (.str "rows")) (BY (B0 4) (BY (B7 Fx (BY (eLC (iRg (BY (B8 CO (eC (.int 1)) (B7 Cg (BY (B0 0) (BY (eC (.int 2)) B5)))) B5)) 1 [0,5,6] (gNm 0) (tY) (B7 Ei (BY (B0 1) (BY (B0 2) (BY (B0 3) B5))))) B5)) B5))))) (sNx)) (Cn (sIf (tV (B8 eqD (B0 3) (eC (.int 3)))) (Cn (CM (B7 Cg (BY (B0 0) (BY (B7 DZ (BY (B0 5) B5)) B5))) (gNm 7)) (sRt (CL (BY (eC (.str "columns")) (BY (B0 4) (BY (eSl (B8 CO (eSl (B0 5) (F1 (B0 7)) (pNo)) (eSl (B0 5) (pNo) (F1 (B0 7)))) (pNo) (F1 (B8 CO (eC (.int 1)) (B7 Cg (BY (B0 0) (BY (B7 DZ (BY (B0 5) B5)) B5)))))) B5)))))) (sNx)) (Cn (sIf (tV (B8 eqD (B0 3) (eC (.int 4)))) (Cn (CM (eLC (D0 (GW (BY (eC (.str "z9")) (BY (eC (.str "y8")) (BY (eC (.str "x7")) (BY (eC (.str "w6")) B5)))))) 1 [5] (gNm 0) (tV (B8 Ht (B0 0) (B0 1))) (B0 0)) (gNm 8)) (Cn (CM (eLC (D0 (eSl (B0 8) (pNo) (F1 (eC (.int 1))))) 1 [0,5] (gNm 0) (tY) (CL (BY (B7 CA (BY (B0 1) (BY (B0 2) B5))) (BY (B0 0) B5)))) (gNm 9)) (sRt (eIf (tV (B8 neD (B0 9) (GW B5))) (CL (BY (eC (.str "called")) (BY (B0 4) (BY (B7 Fx (BY (B0 9) B5)) B5)))) (B0 4))))) (sNx)) (Cn (CM (B7 f (BY (B0 0) (BY (B0 1) (BY (B8 Lv (B0 2) (eC (.int 1))) B5)))) (gNm 10)) (Cn (sIf (tV (B8 eqD (B0 3) (eC (.int 5)))) (sRt (eIf (tV (B8 ltG (B8 F6 (B7 (DL 10) (BY (B0 4) B5)) (B7 (DL 10) (BY (B0 10) B5))) (eC (.int 300)))) (CL (BY (eC (.str "join")) (BY (B0 4) (BY (B0 10) B5)))) (B0 4))) (sNx)) (Cn (sIf (tV (B8 neD (B7 (Ds 10) (BY (B0 1) (BY (B0 10) B5))) (B0 5))) (CM (eIf (tV (B8 gtD (B0 2) (eC (.int 2)))) (CL (BY (eC (.str "rows")) (BY (B0 4) (BY (CL (BY (B7 Ei (BY (B0 0) (BY (B0 5) (BY (B0 6) B5)))) B5)) B5)))) (B0 4)) (gNm 10)) (sNx)) (sRt (CL (BY (B8 ixG (GW (BY (eC (.str "union")) (BY (eC (.str "gap")) B5))) (B8 Lv (B0 3) (eC (.int 6)))) (BY (B0 4) (BY (B0 10) B5))))))))))))))
noncomputable def Ef:Nat->Fn
 | 0=>λ_ _=>none
 | n+1=>fnB 11 (CU (Ef n))
noncomputable def FN:Sx:=
  Cn (sIf (tO (tNt (tV (GH "str" (B0 0)))) (tNt (tV (F9 leD leD (eC (.int 1)) (B7 DZ (BY (B0 0) B5)) (eC (.int 8)))))) (sRt (eC (.bl false))) (sNx)) (sRt (B7 GX (BY (eLC (D0 (B0 0)) 1 [] (gNm 0) (tY) (eO (F9 leD leD (eC (.str "a")) (B0 0) (eC (.str "z"))) (F9 leD leD (eC (.str "0")) (B0 0) (eC (.str "9"))))) B5)))
noncomputable def Dt:Fn:=fnB 1 FN
noncomputable def EX:Sx:=
  Cn (sIf (tO (tNt (tV (GH "tuple" (B0 1)))) (tO (tV (B8 neD (B7 DZ (BY (B0 1) B5)) (eC (.int 3)))) (tNt (tV (B7 GX (BY (eLC (D0 (B0 1)) 1 [] (gNm 0) (tY) (GH "str" (B0 0))) B5)))))) (sRt (eC (.bl false))) (sNx)) (Cn (sIf (tV (B8 Ht (B8 ixG (B0 1) (eC (.int 1))) (B0 0))) (sRt (eC (.bl false))) (sNx)) (Cn (sIf (tV (B8 inG (B8 ixG (B0 1) (eC (.int 0))) (CL (BY (eC (.str "is")) (BY (eC (.str "not")) B5))))) (sRt (B7 Dt (BY (B8 ixG (B0 1) (eC (.int 2))) B5))) (sNx)) (sRt (eAn (B8 inG (B8 ixG (B0 1) (eC (.int 0))) (CL (BY (eC (.str "like")) (BY (eC (.str "unlike")) B5)))) (B8 inG (B8 ixG (B0 1) (eC (.int 2))) (B0 0))))))
noncomputable def Dy:Fn:=fnB 2 EX
noncomputable def Fw:Sx:=
  Cn (sIf (tO (tNt (tV (GH "tuple" (B0 1)))) (tV (B8 eqG (B0 1) (CL B5)))) (sRt (eC (.bl false))) (sNx)) (Cn (sIf (tNt (tV (B7 GX (BY (eLC (D0 (B0 1)) 1 [0] (gNm 0) (tY) (eAn (GH "str" (B0 0)) (B8 inG (B0 0) (B0 1)))) B5)))) (sRt (eC (.bl false))) (sNx)) (sRt (B8 eqG (B7 DZ (BY (B7 J8 (BY (B0 1) B5)) B5)) (B7 DZ (BY (B0 1) B5)))))
noncomputable def Dw:Fn:=fnB 2 Fw
noncomputable def EW:Sx:=
  Cn (sIf (tO (tNt (tV (GH "tuple" (B0 1)))) (tNt (tV (B7 GX (BY (eLC (D0 (B0 1)) 1 [] (gNm 0) (tY) (eAn (GH "tuple" (B0 0)) (B8 eqD (B7 DZ (BY (B0 0) B5)) (eC (.int 2))))) B5))))) (sRt (eC .non)) (sNx)) (Cn (sIf (tNt (tV (B7 Dw (BY (B0 0) (BY (B7 Fx (BY (eLC (D0 (B0 1)) 1 [] (gNm 0) (tY) (B8 ixG (B0 0) (eC (.int 0)))) B5)) B5))))) (sRt (eC .non)) (sNx)) (Cn (sIf (tNt (tV (B7 GX (BY (eLC (D0 (B0 1)) 1 [] (gNm 0) (tY) (B7 Dt (BY (B8 ixG (B0 0) (eC (.int 1))) B5))) B5)))) (sRt (eC .non)) (sNx)) (Cn (CM (B7 dctP (BY (B7 Ls (BY (B0 1) B5)) B5)) (gNm 2)) (Cn (CM (B7 Fx (BY (eLC (D0 (B0 0)) 1 [2] (gNm 0) (tY) (JN (B0 1) (BY (B0 0) (BY (B0 0) B5)))) B5)) (gNm 3)) (sRt (eIf (tV (B8 eqD (B7 DZ (BY (B7 J8 (BY (B0 3) B5)) B5)) (B7 DZ (BY (B0 3) B5)))) (B0 3) (eC .non)))))))
noncomputable def DP:Fn:=fnB 4 EW
noncomputable def FZ (f:Fn):Sx:=
  Cn (sIf (tO (tV (B8 eqG (B0 2) (eC (.int 0)))) (tO (tNt (tV (GH "tuple" (B0 1)))) (tO (tV (B8 Ht (B7 DZ (BY (B0 1) B5)) (CL (BY (eC (.int 2)) (BY (eC (.int 3)) B5))))) (tNt (tV (GH "str" (B8 ixG (B0 1) (eC (.int 0))))))))) (sRt (eC .non)) (sNx)) (Cn (sIf (tV (B8 neD (B8 eqG (B8 ixG (B0 1) (eC (.int 0))) (eC (.str "of"))) (B8 eqG (B7 DZ (BY (B0 1) B5)) (eC (.int 2))))) (sRt (eC .non)) (sNx)) (Cn (sIf (tV (B8 eqG (B8 ixG (B0 1) (eC (.int 0))) (eC (.str "of")))) (Cn (CM (eLC (D0 (B0 0)) 1 [1] (gNm 0) (tV (B8 eqG (B8 ixG (B0 0) (eC (.int 0))) (B8 ixG (B0 1) (eC (.int 1))))) (B7 Fx (BY (eLC (D0 (B8 ixG (B0 0) (eC (.int 1)))) 2 [] (gTp 2 (Cy (gNm 0) (Cy (gNm 1) EB))) (tY) (B0 0)) B5))) (gNm 3)) (sRt (eIf (tV (B8 neD (B0 3) (GW B5))) (B8 ixG (B0 3) (eC (.int 0))) (eC .non)))) (sNx)) (Cn (CM (B7 f (BY (B0 0) (BY (B8 ixG (B0 1) (eC (.int 1))) (BY (B8 Lv (B0 2) (eC (.int 1))) B5)))) (gNm 4)) (Cn (sIf (tV (B8 isD (B0 4) (eC .non))) (sRt (eC .non)) (sNx)) (Cn (sIf (tV (B8 eqG (B8 ixG (B0 1) (eC (.int 0))) (eC (.str "columns")))) (sRt (eIf (tV (B7 Dw (BY (B0 4) (BY (B8 ixG (B0 1) (eC (.int 2))) B5)))) (B8 ixG (B0 1) (eC (.int 2))) (eC .non))) (sNx)) (Cn (sIf (tV (B8 eqG (B8 ixG (B0 1) (eC (.int 0))) (eC (.str "called")))) (sRt (B7 DP (BY (B0 4) (BY (B8 ixG (B0 1) (eC (.int 2))) B5)))) (sNx)) (Cn (sIf (tV (B8 eqG (B8 ixG (B0 1) (eC (.int 0))) (eC (.str "rows")))) (Cn (sIf (tO (tNt (tV (GH "tuple" (B8 ixG (B0 1) (eC (.int 2)))))) (tNt (tV (F9 leD leD (eC (.int 1)) (B7 DZ (BY (B8 ixG (B0 1) (eC (.int 2))) B5)) (eC (.int 4)))))) (sRt (eC .non)) (sNx)) (Cn (CM (B7 GX (BY (eLC (D0 (B8 ixG (B0 1) (eC (.int 2)))) 1 [4] (gNm 0) (tY) (B7 Dy (BY (B0 1) (BY (B0 0) B5)))) B5)) (gNm 5)) (sRt (eIf (tV (B0 5)) (B0 4) (eC .non))))) (sNx)) (Cn (CM (B7 f (BY (B0 0) (BY (B8 ixG (B0 1) (eC (.int 2))) (BY (B8 Lv (B0 2) (eC (.int 1))) B5)))) (gNm 6)) (Cn (sIf (tO (tV (B8 isD (B0 6) (eC .non))) (tV (B8 Ht (B8 ixG (B0 1) (eC (.int 0))) (CL (BY (eC (.str "join")) (BY (eC (.str "union")) (BY (eC (.str "gap")) B5))))))) (sRt (eC .non)) (sNx)) (Cn (sIf (tV (B8 eqG (B8 ixG (B0 1) (eC (.int 0))) (eC (.str "join")))) (sRt (B8 CO (B0 4) (B7 Fx (BY (eLC (D0 (B0 6)) 1 [4] (gNm 0) (tV (B8 Ht (B0 0) (B0 1))) (B0 0)) B5)))) (sNx)) (sRt (eIf (tV (B8 eqG (B0 4) (B0 6))) (B0 4) (eC .non)))))))))))))
noncomputable def DA:Nat->Fn
 | 0=>λ_ _=>none
 | n+1=>fnB 7 (FZ (DA n))
noncomputable def Ki:Sx:=
  Cn (CM (B8 ixG (B8 ixG (B0 1) (eC (.int 0))) (eC (.int 0))) (gNm 2)) (Cn (CM (B8 ixG (B8 ixG (B8 ixG (B8 ixG (B0 1) (eC (.int 0))) (eC (.int 1))) (eC (.int 0))) (eC (.int 0))) (gNm 3)) (Cn (CM (HM (BY (eC .non) (BY (eC (.bl true)) (BY (eC (.int 0)) (BY (eC (.str "")) (BY (eC (.str "of")) (BY (B0 2) (BY (B0 3) (BY (CL B5) (BY (GW B5) (BY Oa (BY (CL (BY (eC (.str "of")) (BY (B0 2) B5))) (BY (CL (BY (eC (.str "of")) (BY (eC (.str "nobody")) B5))) B5))))))))))))) (gNm 4)) (Cn (CM (B8 Nc (B0 4) (GW (BY (CL (BY (eC (.str "of")) B5)) (BY (GW (BY (eC (.str "of")) (BY (B0 2) B5))) B5)))) (gNm 4)) (Cn (CM (B8 Nc (B0 4) (GW (BY (CL (BY (B0 3) B5)) (BY (CL (BY (CL (BY (eC (.str "is")) (BY (B0 3) (BY (eC (.str "V")) B5)))) B5)) (BY (CL (BY (CL (BY (eC (.str "so")) (BY (B0 3) (BY (B0 3) B5)))) B5)) B5))))) (gNm 4)) (Cn (CM (B8 Nc (B0 4) (GW (BY (CL (BY (B0 3) (BY (B0 3) B5))) (BY (CL (BY (CL (BY (eC (.str "is")) (BY (B0 3) (BY (eC (.str "v")) B5)))) B5)) (BY (B8 S4 (CL (BY (CL (BY (eC (.str "is")) (BY (B0 3) (BY (eC (.str "v")) B5)))) B5)) (eC (.int 5))) B5))))) (gNm 4)) (Cn (sEx (NR (B0 4) (BY (CL (BY (CL (BY (eC (.str "like")) (BY (B0 3) (BY (eC (.str "no")) B5)))) B5)) B5))) (Cn (CM (B8 Nc (B0 4) (GW (BY (CL (BY (CL (BY (B0 3) (BY (eC (.str "w")) B5))) B5)) (BY (eC (.str "join")) (BY (eC (.str "union")) (BY (eC (.str "gap")) B5)))))) (gNm 4)) (Cn (CM (B8 Nc (B0 4) (GW (BY (eC (.str "rows")) (BY (eC (.str "columns")) (BY (eC (.str "called")) B5))))) (gNm 4)) (sRt (B7 CA (BY (B0 0) (BY (B0 4) B5))))))))))))
noncomputable def Gs:Fn:=fnG 5 Ki
noncomputable def Dh (f:Fn):Sx:=
  Cn (sIf (tO (tNt (tV (GH "tuple" (B0 2)))) (tO (tV (B8 eqD (B7 DZ (BY (B0 2) B5)) (eC (.int 0)))) (tO (tV (B8 eqD (B0 3) (eC (.int 0)))) (tV (B8 eqD (B7 Cg (BY (B0 0) (BY (eC (.int 7)) B5))) (eC (.int 0))))))) (sRt (B7 Gs (BY (B0 0) (BY (B0 1) B5)))) (sNx)) (Cn (CM (B7 Cg (BY (B0 0) (BY (B7 DZ (BY (B0 2) B5)) B5))) (gNm 4)) (Cn (CM (B7 Cg (BY (B0 0) (BY (eC (.int 9)) B5))) (gNm 5)) (Cn (sIf (tV (B8 eqD (B0 5) (eC (.int 0)))) (sRt (B8 CO (eSl (B0 2) (pNo) (F1 (B0 4))) (eSl (B0 2) (F1 (B8 CO (B0 4) (eC (.int 1)))) (pNo)))) (sNx)) (Cn (sIf (tV (B8 eqD (B0 5) (eC (.int 1)))) (sRt (B8 CO (eSl (B0 2) (pNo) (F1 (B8 CO (B0 4) (eC (.int 1))))) (eSl (B0 2) (F1 (B0 4)) (pNo)))) (sNx)) (Cn (sIf (tV (B8 eqD (B0 5) (eC (.int 2)))) (sRt (B8 ixG (GW (BY (B7 Ls (BY (B0 2) B5)) (BY (e1 VL (B0 2)) (BY (B8 CO (B0 2) (CL (BY (B7 Gs (BY (B0 0) (BY (B0 1) B5))) B5))) B5)))) (B7 Cg (BY (B0 0) (BY (eC (.int 3)) B5))))) (sNx)) (Cn (CM (B7 f (BY (B0 0) (BY (B0 1) (BY (B8 ixG (B0 2) (B0 4)) (BY (B8 Lv (B0 3) (eC (.int 1))) B5))))) (gNm 6)) (sRt (B8 CO (B8 CO (eSl (B0 2) (pNo) (F1 (B0 4))) (CL (BY (B0 6) B5))) (eSl (B0 2) (F1 (B8 CO (B0 4) (eC (.int 1)))) (pNo))))))))))
noncomputable def CC:Nat->Fn
 | 0=>λ_ _=>none
 | n+1=>fnB 7 (Dh (CC n))
noncomputable def R4:Sx:=
  Cn (Lc (iRg (BY (B7 SD (BY (eC (.int 2)) (BY (B7 NX (BY (eC (.int 5)) (BY (B7 DZ (BY (B0 0) B5)) B5))) B5))) B5)) (gNm 1) (Cn (CM (B7 EZ (BY (B0 0) (BY (B0 1) B5))) (gNm 2)) (Cn (CM (B7 Ed (BY (B0 2) (BY (eC (.int 4)) (BY (eC (.int 4)) (BY (eC (.int 4)) B5))))) (gNm 3)) (Cn (Lc (iRg (BY (eC (.int 8)) B5)) (gNm 4) (Cn (CM (B7 (Ef 10) (BY (B0 2) (BY (B0 3) (BY (B8 CO (eC (.int 1)) (B7 Cg (BY (B0 2) (BY (eC (.int 5)) B5)))) B5)))) (gNm 5)) (Cn (CM (B7 (CC 14) (BY (B0 2) (BY (B0 3) (BY (B0 5) (BY (eC (.int 12)) B5))))) (gNm 6)) (Cn (sIf (tV (B8 eqD (B7 Cg (BY (B0 2) (BY (eC (.int 4)) B5))) (eC (.int 0)))) (Cn (CM (B8 ixG (B8 ixG (B8 ixG (B8 ixG (B0 3) (eC (.int 0))) (eC (.int 1))) (eC (.int 0))) (eC (.int 0))) (gNm 7)) (Cn (CM (CL (BY (eC (.str "rows")) (BY (B0 6) (BY (CL (BY (CL (BY (eC (.str "is")) (BY (B0 7) (BY (eC (.str "v")) B5)))) B5)) B5)))) (gNm 6)) (CM (CL (BY (eC (.str "rows")) (BY (B0 6) (BY (CL (BY (CL (BY (eC (.str "like")) (BY (eC (.str "x")) (BY (eC (.str "x")) B5)))) B5)) B5)))) (gNm 6)))) (sNx)) (Cn (VH 8 9 (BY (B7 D4 (BY (B0 3) (BY (B0 6) B5))) (BY (B7 (DA 10) (BY (B0 3) (BY (B0 6) (BY (eC (.int 8)) B5)))) B5))) (Cn (sIf (tO (tNt (tV (GH "bool" (B0 8)))) (tV (B8 neD (B0 8) (B8 M0 (B0 9) (eC .non))))) (sRt (eC (.bl false))) (sNx)) (sIf (tV (B8 M0 (B7 D4 (BY (B0 3) (BY (B0 5) B5))) (eC (.bl true)))) (sRt (eC (.bl false))) (sNx)))))))) (Cn (CM (GW (BY (eC .non) (BY (eC (.bl true)) (BY (eC (.int 0)) (BY (eC (.str "")) (BY (eC (.str "of")) (BY (CL B5) (BY (GW B5) (BY Oa (BY (CL (BY (CL B5) B5)) (BY (CL (BY (eC .non) (BY (eC .non) B5))) B5))))))))))) (gNm 10)) (sIf (tNt (tV (B7 GX (BY (eLC (D0 (B0 10)) 1 [3] (gNm 0) (tY) (B8 isD (B7 D4 (BY (B0 1) (BY (B0 0) B5))) (eC (.bl false)))) B5)))) (sRt (eC (.bl false))) (sNx))))))) (sRt (eC (.bl true)))
noncomputable def Ms:Fn:=fnB 11 R4
noncomputable def top (i:Nat):Stmt:=PySem.Challenge.pw_lookback_k06_looks_spoilt.main.body.getD i (.Pass ⟨0,0,0,0⟩)
noncomputable abbrev G0:Stmt:=top 3
noncomputable abbrev Hx:Stmt:=top 4
noncomputable abbrev DD:Stmt:=top 5
noncomputable abbrev Gh:Stmt:=top 7
noncomputable abbrev GN:Stmt:=top 6
noncomputable abbrev Fs:Stmt:=top 18
noncomputable abbrev IP:Stmt:=top 22
noncomputable abbrev Fe:Stmt:=top 21
noncomputable abbrev D6:Stmt:=top 23
noncomputable abbrev G9:Stmt:=top 20
noncomputable abbrev FV:Stmt:=top 19
noncomputable abbrev D3:Stmt:=top 16
noncomputable abbrev Eb:Stmt:=top 24
noncomputable abbrev D2:Stmt:=top 17
noncomputable abbrev Hw:Stmt:=top 15
noncomputable abbrev Eu:Stmt:=top 14
noncomputable abbrev DR:Stmt:=top 13
noncomputable abbrev IK:Stmt:=top 12
noncomputable abbrev Hj:Stmt:=top 26
noncomputable abbrev Hv:Stmt:=top 27
noncomputable abbrev Hr:Stmt:=top 28
noncomputable abbrev FY:Stmt:=top 29
noncomputable abbrev Fm:Stmt:=top 30
noncomputable abbrev DX:Stmt:=top 31
noncomputable abbrev GO:Stmt:=top 32
noncomputable abbrev Hi:Stmt:=top 33
noncomputable abbrev II:Stmt:=top 34
noncomputable abbrev E6:Stmt:=top 35
noncomputable abbrev EU:Stmt:=top 36
noncomputable abbrev Eo:Stmt:=top 37
noncomputable abbrev EA:Stmt:=top 38
noncomputable abbrev Dm:Stmt:=top 39
noncomputable abbrev E3:Stmt:=top 40
noncomputable abbrev IJ:Stmt:=top 41
noncomputable abbrev Gf:Stmt:=top 42
noncomputable abbrev Kz:Stmt:=top 43
structure Tx (K:PySem.W.Frag) (mg:Str->Option Value):Prop where
 b_all:mg "all"=none
 b_bool:mg "bool"=none
 b_dict:mg "dict"=none
 b_int:mg "int"=none
 b_isinstance:mg "isinstance"=none
 b_len:mg "len"=none
 b_list:mg "list"=none
 b_max:mg "max"=none
 b_min:mg "min"=none
 b_range:mg "range"=none
 b_set:mg "set"=none
 b_sorted:mg "sorted"=none
 b_str:mg "str"=none
 b_tuple:mg "tuple"=none
 g_DEEPEST:∃ t,mg "DEEPEST"=some (.int 8 t)
 g_LONGEST:∃ t,mg "LONGEST"=some (.int 8 t)
 g_MOST_TESTS:∃ t,mg "MOST_TESTS"=some (.int 4 t)
 g_PAIRED:ZP K mg "PAIRED" ["join","union","gap"]
 g_SIGNS:∃ t,mg "SIGNS"=some (.str "abcdefghijklmnopqrstuvwxyz0123456789" t)
noncomputable def BO (P:Program)(w:World)(K:PySem.W.Frag)(mg:Str->Option Value)(base:Heap)(r:Nat)(x:Str)(st:Stmt)(f:Addr)(N:List Str)(m:Sx):Prop:=∀ (cdv:Value) (A:Around) (outer:List Env) (s:Shared) (H:Hp) (E:XK),Room r (A.deeper (envOfC x (B9 st) s.heap.objs.size f cdv))->SVB (L0 CX0 P w K mg base N x (B9 st) f cdv A outer s H E).nox (EV st) m
section
variable {P:Program} {w:World} {K:PySem.W.Frag} {mg:Str->Option Value} {base:Heap}
theorem Pg:Cu ["thing"] ["thing"] (B9 G0):=⟨rfl,rfl,rfl,by decide +kernel,rfl,by decide +kernel,by decide +kernel⟩
theorem Pl {f:Addr}{fd:FuncData}(F:Fun K "is_word" "is_word" G0 f fd)(T:Tx K mg) :DH P w K mg base CX0 1 f fd ["thing"] (spF ⟨K,P,w⟩ Dq 1):=by
 have b:BO P w K mg base 0 "is_word" G0 f ["thing"] IC:=λcdv A outer s H E hr=>by
  exact B6 (Ct (SVW.t (D9 (C0 (CK (ES "str" (BZ 0) T.b_isinstance T.b_str boot_str))) (Ew (C0 (J9 F8 F8 B4 (Ck Cv T.b_len Bd (BX (BZ 0) B3)) (ND T.g_LONGEST)))))) (Cb (Cc Gd)) Co) (Cb (Cc (Ck (DM rfl) T.b_all boot_all (BX (D8 ["sign"] [] (by exact Fi (B9 G0) rfl rfl ⟨rfl,by decide +kernel,by decide +kernel,by decide +kernel⟩ True.intro) (CJ (BZ 0)) Cq (λ_ _ _ _ _=>Ce 0 (show (["sign"]:List Str).Nodup by decide +kernel)) (λ_ _ _ _ _=>CV) (λ_ _ _ _ _=>Et (GD hr.units) (BZ 0) (V2 T.g_SIGNS))) B3))))
 have c:=CS 1 1 F Pg rfl rfl b
 exact c
theorem Oe:Cu ["thing","least","most"] ["thing","least","most"] (B9 Hx):=⟨rfl,rfl,rfl,by decide +kernel,rfl,by decide +kernel,by decide +kernel⟩
theorem Oy {f:Addr}{fd:FuncData}(F:Fun K "is_tuple" "is_tuple" Hx f fd)(T:Tx K mg) :DH P w K mg base CX0 1 f fd ["thing","least","most"] (spF ⟨K,P,w⟩ De 3):=by
 have b:BO P w K mg base 0 "is_tuple" Hx f ["thing","least","most"] Jh:=λcdv A outer s H E hr=>by
  exact Cb (Cc (Fo (ES "tuple" (BZ 0) T.b_isinstance T.b_tuple Ba) (F7 (Lg F8 F8 (BZ 1) (Ck Cv T.b_len Bd (BX (BZ 0) B3)) (BZ 2)))))
 have c:=CS 3 3 F Oe rfl rfl b
 exact c
theorem Ic:Cu ["thing"] ["thing"] (B9 DD):=⟨rfl,rfl,rfl,by decide +kernel,rfl,by decide +kernel,by decide +kernel⟩
theorem Iu {f:Addr}{fd:FuncData}(F:Fun K "is_tuple_of_words" "is_tuple_of_words" DD f fd)(T:Tx K mg)(Ff:Cal P w K mg base 1 "is_word" Dq 1):DH P w K mg base CX0 2 f fd ["thing"] (spF ⟨K,P,w⟩ Dl 1):=by
 have b:BO P w K mg base 1 "is_tuple_of_words" DD f ["thing"] D1:=λcdv A outer s H E hr=>by
  have hr_is_word:Room 1 _:=hr.mono (by decide)
  exact Cb (Cc (Fo (ES "tuple" (BZ 0) T.b_isinstance T.b_tuple Ba) (F7 (Ck (DM rfl) T.b_all boot_all (BX (D8 ["word"] [] (by exact Fi (B9 DD) rfl rfl ⟨rfl,by decide +kernel,by decide +kernel,by decide +kernel⟩ True.intro) (CJ (BZ 0)) Cq (λ_ _ _ _ _=>Ce 0 (show (["word"]:List Str).Nodup by decide +kernel)) (λ_ _ _ _ _=>CV) (λ_ _ _ _ _=>Ca Ff hr_is_word (BX (BZ 0) B3))) B3)))))
 have c:=CS 1 1 F Ic rfl rfl b
 exact c
theorem LR:Cu ["things"] ["things"] (B9 Gh):=⟨rfl,rfl,rfl,by decide +kernel,rfl,by decide +kernel,by decide +kernel⟩
theorem LZ {f:Addr}{fd:FuncData}(F:Fun K "are_unlike" "are_unlike" Gh f fd)(T:Tx K mg) :DH P w K mg base CX0 1 f fd ["things"] (spF ⟨K,P,w⟩ Dc 1):=by
 have b:BO P w K mg base 0 "are_unlike" Gh f ["things"] Gn:=λcdv A outer s H E hr=>by
  exact Cb (Cc (Et (CZ hr.units) (Ck Cv T.b_len Bd (BX (Cw (IH rfl) T.b_set boot_set (BX (BZ 0) B3)) B3)) (Ck Cv T.b_len Bd (BX (BZ 0) B3))))
 have c:=CS 1 1 F LR rfl rfl b
 exact c
theorem Ni:Cu ["thing","least","most"] ["thing","least","most"] (B9 GN):=⟨rfl,rfl,rfl,by decide +kernel,rfl,by decide +kernel,by decide +kernel⟩
theorem MM {f:Addr}{fd:FuncData}(F:Fun K "are_words" "are_words" GN f fd)(T:Tx K mg)(Dx:Cal P w K mg base 1 "is_tuple" De 3)(IX:Cal P w K mg base 2 "is_tuple_of_words" Dl 1)(Fu:Cal P w K mg base 1 "are_unlike" Dc 1):DH P w K mg base CX0 3 f fd ["thing","least","most"] (spF ⟨K,P,w⟩ EC 3):=by
 have b:BO P w K mg base 2 "are_words" GN f ["thing","least","most"] GS:=λcdv A outer s H E hr=>by
  have hr_is_tuple:Room 1 _:=hr.mono (by decide)
  have hr_is_tuple_of_words:Room 2 _:=hr.mono (by decide)
  have hr_are_unlike:Room 1 _:=hr.mono (by decide)
  exact Cb (Cc (Fo (Ca Dx hr_is_tuple (BX (BZ 0) (BX (BZ 1) (BX (BZ 2) B3)))) (Fo (Ca IX hr_is_tuple_of_words (BX (BZ 0) B3)) (F7 (Ca Fu hr_are_unlike (BX (BZ 0) B3))))))
 have c:=CS 3 3 F Ni rfl rfl b
 exact c
theorem LS:Cu ["columns","words"] ["columns","words"] (B9 Fs):=⟨rfl,rfl,rfl,by decide +kernel,rfl,by decide +kernel,by decide +kernel⟩
theorem LW {f:Addr}{fd:FuncData}(F:Fun K "are_within" "are_within" Fs f fd)(T:Tx K mg) :DH P w K mg base CX0 1 f fd ["columns","words"] (spF ⟨K,P,w⟩ Di 2):=by
 have b:BO P w K mg base 0 "are_within" Fs f ["columns","words"] HK:=λcdv A outer s H E hr=>by
  exact Cb (Cc (Ck (DM rfl) T.b_all boot_all (BX (D8 ["word"] [(0,"columns")] (by exact Fi (B9 Fs) rfl rfl ⟨rfl,by decide +kernel,by decide +kernel,by decide +kernel⟩ ⟨⟨rfl,.inl rfl,.inl rfl⟩,True.intro⟩) (CJ (BZ 1)) Cq (λ_ _ _ _ _=>Ce 0 (show (["word","columns"]:List Str).Nodup by decide +kernel)) (λ_ _ _ _ _=>CV) (λ_ _ _ _ _=>Et (GD hr.units) (BZ 0) (BZ 1))) B3)))
 have c:=CS 2 2 F LS rfl rfl b
 exact c
theorem Pa:Cu ["thing"] ["thing"] (B9 IP):=⟨rfl,rfl,rfl,by decide +kernel,rfl,by decide +kernel,by decide +kernel⟩
theorem PX {f:Addr}{fd:FuncData}(F:Fun K "is_pair" "is_pair" IP f fd)(T:Tx K mg)(Dx:Cal P w K mg base 1 "is_tuple" De 3)(Ff:Cal P w K mg base 1 "is_word" Dq 1):DH P w K mg base CX0 2 f fd ["thing"] (spF ⟨K,P,w⟩ Gp 1):=by
 have b:BO P w K mg base 1 "is_pair" IP f ["thing"] JY:=λcdv A outer s H E hr=>by
  have hr_is_tuple:Room 1 _:=hr.mono (by decide)
  have hr_is_word:Room 1 _:=hr.mono (by decide)
  exact Cb (Cc (Fo (Ca Dx hr_is_tuple (BX (BZ 0) (BX B4 (BX B4 B3)))) (Fo (Ca Ff hr_is_word (BX (Cm (CB hr.units) (BZ 0) B4) B3)) (F7 (Ca Ff hr_is_word (BX (Cm (CB hr.units) (BZ 0) B4) B3))))))
 have c:=CS 1 1 F Pa rfl rfl b
 exact c
theorem Jq:Cu ["columns","thing","named"] ["columns","thing"] (B9 Fe):=⟨rfl,rfl,rfl,by decide +kernel,rfl,by decide +kernel,by decide +kernel⟩
theorem Ng {f:Addr}{fd:FuncData}(F:Fun K "are_pairs" "are_pairs" Fe f fd)(T:Tx K mg)(Dx:Cal P w K mg base 1 "is_tuple" De 3)(QS:Cal P w K mg base 2 "is_pair" Gp 1)(Fu:Cal P w K mg base 1 "are_unlike" Dc 1)(Fj:Cal P w K mg base 1 "are_within" Di 2):DH P w K mg base CX0 3 f fd ["columns","thing"] (spF ⟨K,P,w⟩ FR 2):=by
 have b:BO P w K mg base 2 "are_pairs" Fe f ["columns","thing","named"] Ib:=λcdv A outer s H E hr=>by
  have hr_is_tuple:Room 1 _:=hr.mono (by decide)
  have hr_is_pair:Room 2 _:=hr.mono (by decide)
  have hr_are_unlike:Room 1 _:=hr.mono (by decide)
  have hr_are_within:Room 1 _:=hr.mono (by decide)
  exact B6 (Ct (SVW.t (D9 (C0 (CK (Ca Dx hr_is_tuple (BX (BZ 1) (BX B4 (BX (Ck Cv T.b_len Bd (BX (BZ 0) B3)) B3)))))) (Ew (C0 (CK (Ck (DM rfl) T.b_all boot_all (BX (D8 ["pair"] [] (by exact Fi (B9 Fe) rfl rfl ⟨rfl,by decide +kernel,by decide +kernel,by decide +kernel⟩ True.intro) (CJ (BZ 1)) Cq (λ_ _ _ _ _=>Ce 0 (show (["pair"]:List Str).Nodup by decide +kernel)) (λ_ _ _ _ _=>CV) (λ_ _ _ _ _=>Ca QS hr_is_pair (BX (BZ 0) B3))) B3))))))) (Cb (Cc Gd)) Co) (B6 (IT 2 ["pair"] [] (by exact Fi (B9 Fe) rfl rfl ⟨rfl,by decide +kernel,by decide +kernel,by decide +kernel⟩ True.intro) (CJ (BZ 1)) Cq (λ_ _ _ _ _=>Ce 0 (show (["pair"]:List Str).Nodup by decide +kernel)) (λ_ _ _ _ _=>CV) (λ_ _ _ _ _=>Cm (CB hr.units) (BZ 0) B4) Jq.nd) (Cb (Cc (Fo (Ca Fu hr_are_unlike (BX (BZ 2) B3)) (F7 (Ca Fj hr_are_within (BX (BZ 0) (BX (BZ 2) B3))))))))
 have c:=CS 3 2 F Jq rfl rfl b
 exact c
theorem GL:Cu ["columns","pairs","names"] ["columns","pairs"] (B9 D6):=⟨rfl,rfl,rfl,by decide +kernel,rfl,by decide +kernel,by decide +kernel⟩
theorem Js {f:Addr}{fd:FuncData}(F:Fun K "called_columns" "called_columns" D6 f fd)(T:Tx K mg) :DH P w K mg base CX0 1 f fd ["columns","pairs"] (spF ⟨K,P,w⟩ D7 2):=by
 have b:BO P w K mg base 0 "called_columns" D6 f ["columns","pairs","names"] FI:=λcdv A outer s H E hr=>by
  exact B6 (Cp 2 GL.nd (Cw (Km hr.units rfl) T.b_dict (by decide +kernel) (BX (BZ 1) B3))) (Cb (Cc (Cw Dp T.b_tuple Ba (BX (D8 ["column"] [(2,"names")] (by exact Fi (B9 D6) rfl rfl ⟨rfl,by decide +kernel,by decide +kernel,by decide +kernel⟩ ⟨⟨rfl,.inl rfl,.inl rfl⟩,True.intro⟩) (CJ (BZ 0)) Cq (λ_ _ _ _ _=>Ce 0 (show (["column","names"]:List Str).Nodup by decide +kernel)) (λ_ _ _ _ _=>CV) (λ_ _ _ _ _=>Na hr.units (BZ 1) (BX (BZ 0) (BX (BZ 0) B3)))) B3))))
 have c:=CS 3 2 F GL rfl rfl b
 exact c
theorem Hu:Cu ["columns","thing","word","column","other"] ["columns","thing"] (B9 G9):=⟨rfl,rfl,rfl,by decide +kernel,rfl,by decide +kernel,by decide +kernel⟩
theorem Pc {f:Addr}{fd:FuncData}(F:Fun K "is_test" "is_test" G9 f fd)(T:Tx K mg)(Dx:Cal P w K mg base 1 "is_tuple" De 3)(Ff:Cal P w K mg base 1 "is_word" Dq 1)(Fj:Cal P w K mg base 1 "are_within" Di 2):DH P w K mg base CX0 2 f fd ["columns","thing"] (spF ⟨K,P,w⟩ Gq 2):=by
 have b:BO P w K mg base 1 "is_test" G9 f ["columns","thing","word","column","other"] J5:=λcdv A outer s H E hr=>by
  have hr_is_tuple:Room 1 _:=hr.mono (by decide)
  have hr_is_word:Room 1 _:=hr.mono (by decide)
  have hr_are_within:Room 1 _:=hr.mono (by decide)
  exact B6 (Ct (SVW.t (D9 (C0 (CK (Ca Dx hr_is_tuple (BX (BZ 1) (BX B4 (BX B4 B3)))))) (Ew (C0 (CK (Ck (DM rfl) T.b_all boot_all (BX (D8 ["part"] [] (by exact Fi (B9 G9) rfl rfl ⟨rfl,by decide +kernel,by decide +kernel,by decide +kernel⟩ True.intro) (CJ (BZ 1)) Cq (λ_ _ _ _ _=>Ce 0 (show (["part"]:List Str).Nodup by decide +kernel)) (λ_ _ _ _ _=>CV) (λ_ _ _ _ _=>Ca Ff hr_is_word (BX (BZ 0) B3))) B3))))))) (Cb (Cc Gd)) Co) (B6 (HB (BZ 1) (Gi rfl (CN (Ce 2 Hu.nd) (CN (Ce 3 Hu.nd) (CN (Ce 4 Hu.nd) Fg))))) (B6 (Ct (Cf (GD hr.units) (BZ 2) (Cr (BX Cd (BX Cd B3)))) (Cb (Cc (Et (GD hr.units) (BZ 3) (BZ 0)))) Co) (Cb (Cc (Fo (Et (GD hr.units) (BZ 2) (Cr (BX Cd (BX Cd B3)))) (F7 (Ca Fj hr_are_within (BX (BZ 0) (BX (Cr (BX (BZ 3) (BX (BZ 4) B3))) B3)))))))))
 have c:=CS 5 2 F Hu rfl rfl b
 exact c
theorem M5:Cu ["columns","thing"] ["columns","thing"] (B9 FV):=⟨rfl,rfl,rfl,by decide +kernel,rfl,by decide +kernel,by decide +kernel⟩
theorem MU {f:Addr}{fd:FuncData}(F:Fun K "are_tests" "are_tests" FV f fd)(T:Tx K mg)(Dx:Cal P w K mg base 1 "is_tuple" De 3)(Rm:Cal P w K mg base 2 "is_test" Gq 2):DH P w K mg base CX0 3 f fd ["columns","thing"] (spF ⟨K,P,w⟩ FX 2):=by
 have b:BO P w K mg base 2 "are_tests" FV f ["columns","thing"] Ie:=λcdv A outer s H E hr=>by
  have hr_is_tuple:Room 1 _:=hr.mono (by decide)
  have hr_is_test:Room 2 _:=hr.mono (by decide)
  exact Cb (Cc (Fo (Ca Dx hr_is_tuple (BX (BZ 1) (BX B4 (BX (ND T.g_MOST_TESTS) B3)))) (F7 (Ck (DM rfl) T.b_all boot_all (BX (D8 ["test"] [(0,"columns")] (by exact Fi (B9 FV) rfl rfl ⟨rfl,by decide +kernel,by decide +kernel,by decide +kernel⟩ ⟨⟨rfl,.inl rfl,.inl rfl⟩,True.intro⟩) (CJ (BZ 1)) Cq (λ_ _ _ _ _=>Ce 0 (show (["test","columns"]:List Str).Nodup by decide +kernel)) (λ_ _ _ _ _=>CV) (λ_ _ _ _ _=>Ca Rm hr_is_test (BX (BZ 1) (BX (BZ 0) B3)))) B3)))))
 have c:=CS 2 2 F M5 rfl rfl b
 exact c
theorem FT:Cu ["columns","word","part","behind"] ["columns","word","part"] (B9 D3):=⟨rfl,rfl,rfl,by decide +kernel,rfl,by decide +kernel,by decide +kernel⟩
theorem HX {f:Addr}{fd:FuncData}(F:Fun K "columns_if_single" "columns_if_single" D3 f fd)(T:Tx K mg)(OI:Cal P w K mg base 3 "are_tests" FX 2)(NV:Cal P w K mg base 3 "are_words" EC 3)(Fj:Cal P w K mg base 1 "are_within" Di 2)(Og:Cal P w K mg base 3 "are_pairs" FR 2)(Ke:Cal P w K mg base 1 "called_columns" D7 2)(Fu:Cal P w K mg base 1 "are_unlike" Dc 1):DH P w K mg base CX0 4 f fd ["columns","word","part"] (spF ⟨K,P,w⟩ DE 3):=by
 have b:BO P w K mg base 3 "columns_if_single" D3 f ["columns","word","part","behind"] EO:=λcdv A outer s H E hr=>by
  have hr_are_tests:Room 3 _:=hr.mono (by decide)
  have hr_are_words:Room 3 _:=hr.mono (by decide)
  have hr_are_within:Room 1 _:=hr.mono (by decide)
  have hr_are_pairs:Room 3 _:=hr.mono (by decide)
  have hr_called_columns:Room 1 _:=hr.mono (by decide)
  have hr_are_unlike:Room 1 _:=hr.mono (by decide)
  exact B6 (Ct (Cf (CZ hr.units) (BZ 1) Cd) (Cb (Cc (Dv (CK (Ca OI hr_are_tests (BX (BZ 0) (BX (BZ 2) B3)))) (BZ 0) CT))) Co) (B6 (Ct (Cf (CZ hr.units) (BZ 1) Cd) (Cb (Cc (Dv (SVW.t (QD (CK (Ca NV hr_are_words (BX (BZ 2) (BX B4 (BX (Ck Cv T.b_len Bd (BX (BZ 0) B3)) B3))))) (Om (CK (Ca Fj hr_are_within (BX (BZ 0) (BX (BZ 2) B3))))))) (BZ 2) CT))) Co) (B6 (Ct (SVW.t (QD (Cf (CZ hr.units) (BZ 1) Cd) (Om (CK (Ca Og hr_are_pairs (BX (BZ 0) (BX (BZ 2) B3))))))) (B6 (Cp 3 FT.nd (Ca Ke hr_called_columns (BX (BZ 0) (BX (BZ 2) B3)))) (Cb (Cc (Dv (CK (Ca Fu hr_are_unlike (BX (BZ 3) B3))) (BZ 3) CT)))) Co) (Cb (Cc CT))))
 have c:=CS 4 3 F FT rfl rfl b
 exact c
theorem JD:Cu ["one","other"] ["one","other"] (B9 Eb):=⟨rfl,rfl,rfl,by decide +kernel,rfl,by decide +kernel,by decide +kernel⟩
theorem JB {f:Addr}{fd:FuncData}(F:Fun K "joined_columns" "joined_columns" Eb f fd)(T:Tx K mg) :DH P w K mg base CX0 1 f fd ["one","other"] (spF ⟨K,P,w⟩ Ea 2):=by
 have b:BO P w K mg base 0 "joined_columns" Eb f ["one","other"] FK:=λcdv A outer s H E hr=>by
  exact Cb (Cc (Ci Cz (BZ 0) (Cw Dp T.b_tuple Ba (BX (D8 ["column"] [(0,"one")] (by exact Fi (B9 Eb) rfl rfl ⟨rfl,by decide +kernel,by decide +kernel,by decide +kernel⟩ ⟨⟨rfl,.inl rfl,.inl rfl⟩,True.intro⟩) (CJ (BZ 1)) Cq (λ_ _ _ _ _=>Ce 0 (show (["column","one"]:List Str).Nodup by decide +kernel)) (λ_ _ _ _ _=>IB (Cf (GQ hr.units) (BZ 0) (BZ 1))) (λ_ _ _ _ _=>BZ 0)) B3))))
 have c:=CS 2 2 F JD rfl rfl b
 exact c
theorem Ii:Cu ["one","word","other"] ["one","word","other"] (B9 D2):=⟨rfl,rfl,rfl,by decide +kernel,rfl,by decide +kernel,by decide +kernel⟩
theorem Ip {f:Addr}{fd:FuncData}(F:Fun K "columns_if_paired" "columns_if_paired" D2 f fd)(T:Tx K mg)(Kr:Cal P w K mg base 1 "joined_columns" Ea 2):DH P w K mg base CX0 2 f fd ["one","word","other"] (spF ⟨K,P,w⟩ DC 3):=by
 have b:BO P w K mg base 1 "columns_if_paired" D2 f ["one","word","other"] EM:=λcdv A outer s H E hr=>by
  have hr_joined_columns:Room 1 _:=hr.mono (by decide)
  exact B6 (Ct (Cf (CZ hr.units) (BZ 1) Cd) (Cb (Cc (Ca Kr hr_joined_columns (BX (BZ 0) (BX (BZ 2) B3))))) Co) (Cb (Cc (Dv (Cf (CZ hr.units) (BZ 0) (BZ 2)) (BZ 0) CT)))
 have c:=CS 3 3 F Ii rfl rfl b
 exact c
theorem NP:Cu ["known","thing"] ["known","thing"] (B9 Hw):=⟨rfl,rfl,rfl,by decide +kernel,rfl,by decide +kernel,by decide +kernel⟩
theorem NY {f:Addr}{fd:FuncData}(F:Fun K "is_named" "is_named" Hw f fd)(T:Tx K mg)(Ff:Cal P w K mg base 1 "is_word" Dq 1):DH P w K mg base CX0 2 f fd ["known","thing"] (spF ⟨K,P,w⟩ E1 2):=by
 have b:BO P w K mg base 1 "is_named" Hw f ["known","thing"] HD:=λcdv A outer s H E hr=>by
  have hr_is_word:Room 1 _:=hr.mono (by decide)
  exact Cb (Cc (Fo (Et (CZ hr.units) (Ck Cv T.b_len Bd (BX (BZ 1) B3)) B4) (Fo (Ca Ff hr_is_word (BX (Cm (CB hr.units) (BZ 1) B4) B3)) (F7 (Et (GD hr.units) (Cm (CB hr.units) (BZ 1) B4) (BZ 0))))))
 have c:=CS 2 2 F NP rfl rfl b
 exact c
theorem E4:Cu ["known","thing","depth","one","other"] ["known","thing","depth"] (B9 Eu):=⟨rfl,rfl,rfl,by decide +kernel,rfl,by decide +kernel,by decide +kernel⟩
theorem Gz {f:Addr}{fd:FuncData}(F:Fun K "columns_if_look" "columns_if_look" Eu f fd)(hm:mg "columns_if_look"=some (.ref f))(hb:Binds K fd ["known","thing","depth"] [])(T:Tx K mg)(Dx:Cal P w K mg base 1 "is_tuple" De 3)(Lu:Cal P w K mg base 2 "is_named" E1 2)(Ge:Cal P w K mg base 4 "columns_if_single" DE 3)(Gb:Cal P w K mg base 2 "columns_if_paired" DC 3):∀ n,DH P w K mg base CX0 (n+5) f fd ["known","thing","depth"] (spF ⟨K,P,w⟩ (CI n) 3)
 | 0=>⟨λvs H Q E h=>by obtain ⟨th,mu,ds,_,r,hl,_⟩:=h;rw [r.len];exact hl,λA outer s H args us vs Q E hr he hb hv h=>by obtain ⟨th,mu,ds,_,r,hl,t⟩:=h;exact t.no.elim⟩
 | n+1=>by
  have Ey:Cal P w K mg base (n+5) "columns_if_look" (CI n) 3:=CH F hm (Gz F hm hb T Dx Lu Ge Gb n) hb
  have b:BO P w K mg base (n+5) "columns_if_look" Eu f ["known","thing","depth","one","other"] (Eg (CI n)):=λcdv A outer s H E hr=>by
   have hr_is_tuple:Room 1 _:=hr.mono (by omega)
   have hr_is_named:Room 2 _:=hr.mono (by omega)
   have hr_columns_if_single:Room 4 _:=hr.mono (by omega)
   have hr_columns_if_paired:Room 2 _:=hr.mono (by omega)
   have hr_columns_if_look:Room (n+5) _:=hr
   exact B6 (Ct (SVW.t (D9 (Cf (CZ hr.units) (BZ 2) B4) (D9 (C0 (CK (Ca Dx hr_is_tuple (BX (BZ 1) (BX B4 (BX B4 B3)))))) (Ew (C0 (CK (ES "str" (Cm (CB hr.units) (BZ 1) B4) T.b_isinstance T.b_str boot_str))))))) (Cb (Cc CT)) Co) (B6 (Ct (Cf (CZ hr.units) (Cm (CB hr.units) (BZ 1) B4) Cd) (Cb (Cc (Dv (CK (Ca Lu hr_is_named (BX (BZ 0) (BX (BZ 1) B3)))) (Cm (CB hr.units) (BZ 0) (Cm (CB hr.units) (BZ 1) B4)) CT))) Co) (B6 (Cp 3 E4.nd (Dv (Cf (CZ hr.units) (Ck Cv T.b_len Bd (BX (BZ 1) B3)) B4) (Ca Ey hr_columns_if_look (BX (BZ 0) (BX (Cm (CB hr.units) (BZ 1) B4) (BX (Ci Gg (BZ 2) B4) B3)))) CT)) (B6 (Ct (Cf Lf (BZ 3) CT) (Cb (Cc CT)) Co) (B6 (Ct (Cf (GQ hr.units) (Cm (CB hr.units) (BZ 1) B4) (Uz T.g_PAIRED)) (Cb (Cc (Ca Ge hr_columns_if_single (BX (BZ 3) (BX (Cm (CB hr.units) (BZ 1) B4) (BX (Cm (CB hr.units) (BZ 1) B4) B3)))))) Co) (B6 (Cp 4 E4.nd (Ca Ey hr_columns_if_look (BX (BZ 0) (BX (Cm (CB hr.units) (BZ 1) B4) (BX (Ci Gg (BZ 2) B4) B3))))) (Cb (Cc (Dv (Cf Lf (BZ 4) CT) CT (Ca Gb hr_columns_if_paired (BX (BZ 3) (BX (Cm (CB hr.units) (BZ 1) B4) (BX (BZ 4) B3))))))))))))
  have c:=CS 5 3 F E4 rfl rfl b
  exact c
theorem Jl:Cu ["schema"] ["schema"] (B9 DR):=⟨rfl,rfl,rfl,by decide +kernel,rfl,by decide +kernel,by decide +kernel⟩
theorem Jg {f:Addr}{fd:FuncData}(F:Fun K "columns_by_name" "columns_by_name" DR f fd)(T:Tx K mg) :DH P w K mg base CX0 1 f fd ["schema"] (spF ⟨K,P,w⟩ DQ 1):=by
 have b:BO P w K mg base 0 "columns_by_name" DR f ["schema"] Fq:=λcdv A outer s H E hr=>by
  exact Cb (Cc (AaO ["table"] [] (ZY hr.units Aat ["table"] [] (by exact Fi (B9 DR) rfl rfl ⟨rfl,by decide +kernel,by decide +kernel,by decide +kernel⟩ True.intro) (CJ (BZ 0)) RQ (λ_ _ _ _ _=>Ce 0 (show (["table"]:List Str).Nodup by decide +kernel)) (λ_ _ _ _ _=>CV) (λ_ _ _ _ _=>Cm (CB hr.units) (BZ 0) B4) (λ_ _ _ _ _=>Cw Dp T.b_tuple Ba (BX (D8 ["column"] [] (by exact Te rfl rfl (by decide +kernel) (by decide +kernel) (by decide +kernel) (by decide +kernel)) (CJ (Cm (CB hr.units) (BZ 0) B4)) Cq (λ_ _ _ _ _=>Ce 0 (show (["column"]:List Str).Nodup by decide +kernel)) (λ_ _ _ _ _=>CV) (λ_ _ _ _ _=>Cm (CB hr.units) (BZ 0) B4)) B3))) rfl))
 have c:=CS 1 1 F Jl rfl rfl b
 exact c
theorem PB:Cu ["schema","thing"] ["schema","thing"] (B9 IK):=⟨rfl,rfl,rfl,by decide +kernel,rfl,by decide +kernel,by decide +kernel⟩
theorem OZ {f:Addr}{fd:FuncData}(F:Fun K "is_look" "is_look" IK f fd)(T:Tx K mg)(Ey:Cal P w K mg base 15 "columns_if_look" (CI 10) 3)(Jz:Cal P w K mg base 1 "columns_by_name" DQ 1):DH P w K mg base CX0 16 f fd ["schema","thing"] (spF ⟨K,P,w⟩ D4 2):=by
 have b:BO P w K mg base 15 "is_look" IK f ["schema","thing"] J1:=λcdv A outer s H E hr=>by
  have hr_columns_if_look:Room 15 _:=hr.mono (by decide)
  have hr_columns_by_name:Room 1 _:=hr.mono (by decide)
  exact Cb (Cc (Et ML (Ca Ey hr_columns_if_look (BX (Ca Jz hr_columns_by_name (BX (BZ 0) B3)) (BX (BZ 1) (BX (ND T.g_DEEPEST) B3)))) CT))
 have c:=CS 2 2 F PB rfl rfl b
 exact c
theorem Iw:Cu ["_law_script","_law_k","_law_cell"] ["_law_script","_law_k"] (B9 Hj):=⟨rfl,rfl,rfl,by decide +kernel,rfl,by decide +kernel,by decide +kernel⟩
theorem OL {f:Addr}{fd:FuncData}(F:Fun K "_law_hand" "_law_hand" Hj f fd)(T:Tx K mg) :DH P w K mg base CX0 1 f fd ["_law_script","_law_k"] (spF ⟨K,P,w⟩ EZ 2):=by
 have b:BO P w K mg base 0 "_law_hand" Hj f ["_law_script","_law_k","_law_cell"] HJ:=λcdv A outer s H E hr=>by
  exact B6 (Cp 2 Iw.nd B4) (B6 (Ct (Cf (NA hr.units) (BZ 1) (Ck Cv T.b_len Bd (BX (BZ 0) B3))) (Cb (Cp 2 Iw.nd (Cm (CB hr.units) (BZ 0) (BZ 1)))) Co) (Cb (Cc (JM (BX (Ci EK (BZ 2) (Cw Q9 T.b_int boot_int (BX (Et Xw (BZ 2) (Ci Vz B4 B4)) B3))) (BX (Ci Cz (Ci Cz (Ci Gj (BZ 2) B4) (Ci EK B4 (BZ 1))) B4) (BX B4 B3)))))))
 have c:=CS 3 2 F Iw rfl rfl b
 exact c
theorem E7:Cu ["_law_hand_here","_law_many","_law_digit","_law_turn","_law_mixed","_law_other"] ["_law_hand_here","_law_many"] (B9 Hv):=⟨rfl,rfl,rfl,by decide +kernel,rfl,by decide +kernel,by decide +kernel⟩
theorem NJ {f:Addr}{fd:FuncData}(F:Fun K "_law_take" "_law_take" Hv f fd)(T:Tx K mg) :DH P w K mg base CX0 1 f fd ["_law_hand_here","_law_many"] (spF ⟨K,P,w⟩ Cg 2):=by
 have b:BO P w K mg base 0 "_law_take" Hv f ["_law_hand_here","_law_many","_law_digit","_law_turn","_law_mixed","_law_other"] Hf:=λcdv A outer s H E hr=>by
  exact B6 (Ct (Cf RY (Cm (CB hr.units) (BZ 0) B4) B4) (B6 (Cp 2 E7.nd (Ci Gj (Cm (CB hr.units) (BZ 0) B4) (BZ 1))) (B6 (HB (Ci LG (Cm (CB hr.units) (BZ 0) B4) (BZ 1)) (T7 hr.units (BZ 0) B4)) (Cb (Cc (BZ 2))))) Co) (B6 (HB (Ci Cz (Cm (CB hr.units) (BZ 0) B4) B4) (T7 hr.units (BZ 0) B4)) (B6 (Cp 3 E7.nd (Cm (CB hr.units) (BZ 0) B4)) (B6 (Cp 4 E7.nd (Ci Gj (Ci EK (Cm (CB hr.units) (BZ 0) B4) (Ci Cz (Ci Cz B4 (Ci EK (Ci EK B4 (BZ 3)) (BZ 3))) (Ci EK B4 (BZ 3)))) B4)) (B6 (Cp 5 E7.nd (Ci Cz (Ci Cz (Ci Gj (BZ 4) B4) (Ci EK (BZ 3) B4)) B4)) (B6 (Cp 4 E7.nd (Ci Gj (Ci EK (BZ 4) (BZ 5)) B4)) (Cb (Cc (Ci Gj (Ci Cz (Ci LG (BZ 4) B4) (Ci LG (BZ 4) B4)) (BZ 1)))))))))
 have c:=CS 6 2 F E7 rfl rfl b
 exact c
theorem Ou:Cu ["_law_hand_here","_law_some"] ["_law_hand_here","_law_some"] (B9 Hr):=⟨rfl,rfl,rfl,by decide +kernel,rfl,by decide +kernel,by decide +kernel⟩
theorem OG {f:Addr}{fd:FuncData}(F:Fun K "_law_pick" "_law_pick" Hr f fd)(T:Tx K mg)(Cs:Cal P w K mg base 1 "_law_take" Cg 2):DH P w K mg base CX0 2 f fd ["_law_hand_here","_law_some"] (spF ⟨K,P,w⟩ CA 2):=by
 have b:BO P w K mg base 1 "_law_pick" Hr f ["_law_hand_here","_law_some"] GF:=λcdv A outer s H E hr=>by
  have hr_law_take:Room 1 _:=hr.mono (by decide)
  exact Cb (Cc (Cm (CB hr.units) (BZ 1) (Ca Cs hr_law_take (BX (BZ 0) (BX (Ck Cv T.b_len Bd (BX (BZ 1) B3)) B3)))))
 have c:=CS 2 2 F Ou rfl rfl b
 exact c
theorem EJ:Cu ["_law_hand_here","_law_many","_law_most","_law_signs","_law_first","_law_step","_law_stem","_law_at"] ["_law_hand_here","_law_many","_law_most"] (B9 FY):=⟨rfl,rfl,rfl,by decide +kernel,rfl,by decide +kernel,by decide +kernel⟩
theorem Nl {f:Addr}{fd:FuncData}(F:Fun K "_law_words" "_law_words" FY f fd)(T:Tx K mg)(Cs:Cal P w K mg base 1 "_law_take" Cg 2)(Dz:Cal P w K mg base 2 "_law_pick" CA 2):DH P w K mg base CX0 3 f fd ["_law_hand_here","_law_many","_law_most"] (spF ⟨K,P,w⟩ Ez 3):=by
 have b:BO P w K mg base 2 "_law_words" FY f ["_law_hand_here","_law_many","_law_most","_law_signs","_law_first","_law_step","_law_stem","_law_at"] Ij:=λcdv A outer s H E hr=>by
  have hr_law_take:Room 1 _:=hr.mono (by decide)
  have hr_law_pick:Room 2 _:=hr.mono (by decide)
  exact B6 (Cp 3 EJ.nd Cd) (B6 (HB (Cr (BX (Ca Cs hr_law_take (BX (BZ 0) (BX B4 B3))) (BX (Ca Dz hr_law_pick (BX (BZ 0) (BX (ED (BX B4 (BX B4 (BX B4 (BX B4 (BX B4 (BX B4 B3))))))) B3))) B3))) (Gi rfl (CN (Ce 4 EJ.nd) (CN (Ce 5 EJ.nd) Fg)))) (B6 (Cp 6 EJ.nd (Ci EK (Cm (CB hr.units) (BZ 3) (Ca Cs hr_law_take (BX (BZ 0) (BX B4 B3)))) (Ck (Mz rfl) T.b_min boot_min (BX (Ci Gg (BZ 2) B4) (BX (Ca Dz hr_law_pick (BX (BZ 0) (BX (ED (BX B4 (BX B4 (BX B4 (BX B4 (BX B4 B3)))))) B3))) B3))))) (B6 (Cp 7 EJ.nd (Ca Cs hr_law_take (BX (BZ 0) (BX (Ci Cz (Ck Cv T.b_len Bd (BX (BZ 6) B3)) B4) B3)))) (Cb (Cc (D8 ["_law_k"] [(6,"_law_stem"),(7,"_law_at"),(3,"_law_signs"),(4,"_law_first"),(5,"_law_step")] (by exact Fi (B9 FY) rfl rfl ⟨rfl,by decide +kernel,by decide +kernel,by decide +kernel⟩ ⟨⟨rfl,.inl rfl,.inl rfl⟩,⟨rfl,.inl rfl,.inl rfl⟩,⟨rfl,.inl rfl,.inl rfl⟩,⟨rfl,.inl rfl,.inl rfl⟩,⟨rfl,.inl rfl,.inl rfl⟩,True.intro⟩) (Gr T.b_range (BX (BZ 1) B3)) Cq (λ_ _ _ _ _=>Ce 0 (show (["_law_k","_law_stem","_law_at","_law_signs","_law_first","_law_step"]:List Str).Nodup by decide +kernel)) (λ_ _ _ _ _=>CV) (λ_ _ _ _ _=>Ci Cz (Ci Cz (Ek (BZ 1) Ej (El (BZ 2))) (Cm (CB hr.units) (BZ 3) (Ci Gj (Ci Cz (BZ 4) (Ci EK (BZ 5) (BZ 0))) B4))) (Ek (BZ 1) (El (BZ 2)) Ej))))))))
 have c:=CS 8 3 F EJ rfl rfl b
 exact c
theorem CW:Cu ["_law_hand_here","_law_tables","_law_columns_here","_law_values","_law_names","_law_words_here","_law_stock_here","_law_found","_law_name","_law_many","_law_shift","_law_row","_law_k","_law_some","_law_turn","_law_mine"] ["_law_hand_here","_law_tables","_law_columns_here","_law_values"] (B9 Fm):=⟨rfl,rfl,rfl,by decide +kernel,rfl,by decide +kernel,by decide +kernel⟩
theorem LV {f:Addr}{fd:FuncData}(F:Fun K "_law_schema" "_law_schema" Fm f fd)(T:Tx K mg)(Iv:Cal P w K mg base 3 "_law_words" Ez 3)(Cs:Cal P w K mg base 1 "_law_take" Cg 2):DH P w K mg base CX0 4 f fd ["_law_hand_here","_law_tables","_law_columns_here","_law_values"] (spF ⟨K,P,w⟩ Ed 4):=by
 have b:BO P w K mg base 3 "_law_schema" Fm f ["_law_hand_here","_law_tables","_law_columns_here","_law_values","_law_names","_law_words_here","_law_stock_here","_law_found","_law_name","_law_many","_law_shift","_law_row","_law_k","_law_some","_law_turn","_law_mine"] HI:=λcdv A outer s H E hr=>by
  have hr_law_words:Room 3 _:=hr.mono (by decide)
  have hr_law_take:Room 1 _:=hr.mono (by decide)
  exact B6 (Cp 4 CW.nd (Ck (MB hr.units rfl) T.b_sorted boot_sorted (BX (Ca Iv hr_law_words (BX (BZ 0) (BX (Ci Cz B4 (Ca Cs hr_law_take (BX (BZ 0) (BX (BZ 1) B3)))) (BX B4 B3)))) B3))) (B6 (HB (Cr (BX (Ca Iv hr_law_words (BX (BZ 0) (BX (Ci Cz (BZ 2) B4) (BX B4 B3)))) (BX (Ca Iv hr_law_words (BX (BZ 0) (BX (Ci Cz (BZ 3) B4) (BX B4 B3)))) B3))) (Gi rfl (CN (Ce 5 CW.nd) (CN (Ce 6 CW.nd) Fg)))) (B6 (Cp 7 CW.nd (JM B3)) (B6 (IQ PassesOwn.never rfl (CJ (BZ 4)) (Ce 8 CW.nd) (B6 (S5 9 10 11 rfl CW.nd (BX (Ci Cz B4 (Ca Cs hr_law_take (BX (BZ 0) (BX (BZ 2) B3)))) (BX (Ca Cs hr_law_take (BX (BZ 0) (BX B4 B3))) (BX (JM B3) B3))) (by rfl)) (B6 (IQ PassesOwn.never rfl (Gr T.b_range (BX (BZ 9) B3)) (Ce 12 CW.nd) (B6 (HB (Cr (BX (Ci Cz B4 (Ca Cs hr_law_take (BX (BZ 0) (BX (BZ 3) B3)))) (BX (Ca Cs hr_law_take (BX (BZ 0) (BX B4 B3))) B3))) (Gi rfl (CN (Ce 13 CW.nd) (CN (Ce 14 CW.nd) Fg)))) (B6 (Cp 15 CW.nd (Cw Dp T.b_tuple Ba (BX (D8 ["_law_j"] [(6,"_law_stock_here"),(14,"_law_turn")] (by exact Fi (B9 Fm) rfl rfl ⟨rfl,by decide +kernel,by decide +kernel,by decide +kernel⟩ ⟨⟨rfl,.inl rfl,.inl rfl⟩,⟨rfl,.inl rfl,.inl rfl⟩,True.intro⟩) (Gr T.b_range (BX (BZ 13) B3)) Cq (λ_ _ _ _ _=>Ce 0 (show (["_law_j","_law_stock_here","_law_turn"]:List Str).Nodup by decide +kernel)) (λ_ _ _ _ _=>CV) (λ_ _ _ _ _=>Cm (CB hr.units) (BZ 1) (Ci Gj (Ci Cz (BZ 0) (BZ 2)) (Ck Cv T.b_len Bd (BX (BZ 1) B3))))) B3))) (Cb (JO (Kh (BZ 11) (BX (Cr (BX (Cm (CB hr.units) (BZ 5) (Ci Gj (Ci Cz (BZ 12) (BZ 10)) (Ck Cv T.b_len Bd (BX (BZ 5) B3)))) (BX (BZ 15) B3))) B3))))))) (Cb (JO (Kh (BZ 7) (BX (Cr (BX (BZ 8) (BX (Cw Dp T.b_tuple Ba (BX (BZ 11) B3)) (BX (Ci Cz B4 (Ca Cs hr_law_take (BX (BZ 0) (BX (BZ 9) B3)))) B3)))) B3))))))) (Cb (Cc (Cw Dp T.b_tuple Ba (BX (BZ 7) B3)))))))
 have c:=Po 16 4 F CW rfl rfl b
 exact c
theorem GG:Cu ["_law_schema_here","_law_look_here","_law_one","_law_words_here"] ["_law_schema_here","_law_look_here"] (B9 DX):=⟨rfl,rfl,rfl,by decide +kernel,rfl,by decide +kernel,by decide +kernel⟩
theorem IA {f:Addr}{fd:FuncData}(F:Fun K "_law_columns" "_law_columns" DX f fd)(hm:mg "_law_columns"=some (.ref f))(hb:Binds K fd ["_law_schema_here","_law_look_here"] [])(T:Tx K mg) :∀ n,DH P w K mg base CX0 (n+1) f fd ["_law_schema_here","_law_look_here"] (spF ⟨K,P,w⟩ (Ds n) 2)
 | 0=>⟨λvs H Q E h=>by obtain ⟨th,mu,ds,_,r,hl,_⟩:=h;rw [r.len];exact hl,λA outer s H args us vs Q E hr he hb hv h=>by obtain ⟨th,mu,ds,_,r,hl,t⟩:=h;exact t.no.elim⟩
 | n+1=>by
  have Ep:Cal P w K mg base (n+1) "_law_columns" (Ds n) 2:=CH F hm (IA F hm hb T  n) hb
  have b:BO P w K mg base (n+1) "_law_columns" DX f ["_law_schema_here","_law_look_here","_law_one","_law_words_here"] (Fy (Ds n)):=λcdv A outer s H E hr=>by
   have hr_law_columns:Room (n+1) _:=hr
   exact B6 (Ct (Cf (CZ hr.units) (Cm (CB hr.units) (BZ 1) B4) Cd) (Cb (Cc (Cm (CB hr.units) (D8 ["_law_table"] [(1,"_law_look_here")] (by exact Fi (B9 DX) rfl rfl ⟨rfl,by decide +kernel,by decide +kernel,by decide +kernel⟩ ⟨⟨rfl,.inl rfl,.inl rfl⟩,True.intro⟩) (CJ (BZ 0)) Cq (λ_ _ _ _ _=>Ce 0 (show (["_law_table","_law_look_here"]:List Str).Nodup by decide +kernel)) (λ_ _ _ _ _=>IB (Cf (CZ hr.units) (Cm (CB hr.units) (BZ 0) B4) (Cm (CB hr.units) (BZ 1) B4))) (λ_ _ _ _ _=>Cw Dp T.b_tuple Ba (BX (D8 ["_law_column","_law_values"] [] (by exact Te rfl rfl (by decide +kernel) (by decide +kernel) (by decide +kernel) (by decide +kernel)) (CJ (Cm (CB hr.units) (BZ 0) B4)) (N4 (HE Cq (HE Cq L8))) (λ_ _ _ _ _=>Gi rfl (CN (Ce 0 (show (["_law_column","_law_values"]:List Str).Nodup by decide +kernel)) (CN (Ce 1 (show (["_law_column","_law_values"]:List Str).Nodup by decide +kernel)) Fg))) (λ_ _ _ _ _=>CV) (λ_ _ _ _ _=>BZ 0)) B3))) B4))) Co) (B6 (Cp 2 GG.nd (Ca Ep hr_law_columns (BX (BZ 0) (BX (Cm (CB hr.units) (BZ 1) B4) B3)))) (B6 (Ct (Cf (CZ hr.units) (Cm (CB hr.units) (BZ 1) B4) Cd) (Cb (Cc (Cm (CB hr.units) (BZ 1) B4))) Co) (B6 (Ct (Cf (CZ hr.units) (Cm (CB hr.units) (BZ 1) B4) Cd) (B6 (Cp 3 GG.nd (Cw (Km hr.units rfl) T.b_dict (by decide +kernel) (BX (Cw IL T.b_list boot_list (BX (Cm (CB hr.units) (BZ 1) B4) B3)) B3))) (Cb (Cc (Cw Dp T.b_tuple Ba (BX (D8 ["_law_column"] [(3,"_law_words_here")] (by exact Fi (B9 DX) rfl rfl ⟨rfl,by decide +kernel,by decide +kernel,by decide +kernel⟩ ⟨⟨rfl,.inl rfl,.inl rfl⟩,True.intro⟩) (CJ (BZ 2)) Cq (λ_ _ _ _ _=>Ce 0 (show (["_law_column","_law_words_here"]:List Str).Nodup by decide +kernel)) (λ_ _ _ _ _=>CV) (λ_ _ _ _ _=>Na hr.units (BZ 1) (BX (BZ 0) (BX (BZ 0) B3)))) B3))))) Co) (B6 (Ct (Cf (CZ hr.units) (Cm (CB hr.units) (BZ 1) B4) Cd) (Cb (Cc (Ci Cz (BZ 2) (Cw Dp T.b_tuple Ba (BX (D8 ["_law_column"] [(2,"_law_one")] (by exact Fi (B9 DX) rfl rfl ⟨rfl,by decide +kernel,by decide +kernel,by decide +kernel⟩ ⟨⟨rfl,.inl rfl,.inl rfl⟩,True.intro⟩) (CJ (Ca Ep hr_law_columns (BX (BZ 0) (BX (Cm (CB hr.units) (BZ 1) B4) B3)))) Cq (λ_ _ _ _ _=>Ce 0 (show (["_law_column","_law_one"]:List Str).Nodup by decide +kernel)) (λ_ _ _ _ _=>IB (Cf (GQ hr.units) (BZ 0) (BZ 1))) (λ_ _ _ _ _=>BZ 0)) B3))))) Co) (Cb (Cc (BZ 2)))))))
  have c:=CS 4 2 F GG rfl rfl b
  exact c
theorem Ee:Cu ["_law_schema_here","_law_found","_law_name","_law_columns_here","_law_keys","_law_column","_law_values"] ["_law_schema_here"] (B9 GO):=⟨rfl,rfl,rfl,by decide +kernel,rfl,by decide +kernel,by decide +kernel⟩
theorem MG {f:Addr}{fd:FuncData}(F:Fun K "_law_stock" "_law_stock" GO f fd)(T:Tx K mg) :DH P w K mg base CX0 1 f fd ["_law_schema_here"] (spF ⟨K,P,w⟩ FU 1):=by
 have b:BO P w K mg base 0 "_law_stock" GO f ["_law_schema_here","_law_found","_law_name","_law_columns_here","_law_keys","_law_column","_law_values"] H0:=λcdv A outer s H E hr=>by
  exact B6 (Cp 1 Ee.nd (JM B3)) (B6 (IQ PassesOwn.never rfl (CJ (BZ 0)) (Gi rfl (CN (Ce 2 Ee.nd) (CN (Ce 3 Ee.nd) (CN (Ce 4 Ee.nd) Fg)))) (Cb (IQ PassesOwn.never rfl (CJ (BZ 3)) (Gi rfl (CN (Ce 5 Ee.nd) (CN (Ce 6 Ee.nd) Fg))) (Cb (JO (Rw (BZ 1) (BX (Cw IL T.b_list boot_list (BX (BZ 6) B3)) B3))))))) (Cb (Cc (Ck (MB hr.units rfl) T.b_sorted boot_sorted (BX (Cw (IH rfl) T.b_set boot_set (BX (BZ 1) B3)) B3)))))
 have c:=Po 7 1 F Ee rfl rfl b
 exact c
theorem KG:Cu ["_law_hand_here","_law_columns_here","_law_stock_here","_law_word"] ["_law_hand_here","_law_columns_here","_law_stock_here"] (B9 Hi):=⟨rfl,rfl,rfl,by decide +kernel,rfl,by decide +kernel,by decide +kernel⟩
theorem Of {f:Addr}{fd:FuncData}(F:Fun K "_law_test" "_law_test" Hi f fd)(T:Tx K mg)(Dz:Cal P w K mg base 2 "_law_pick" CA 2):DH P w K mg base CX0 3 f fd ["_law_hand_here","_law_columns_here","_law_stock_here"] (spF ⟨K,P,w⟩ Ei 3):=by
 have b:BO P w K mg base 2 "_law_test" Hi f ["_law_hand_here","_law_columns_here","_law_stock_here","_law_word"] HC:=λcdv A outer s H E hr=>by
  have hr_law_pick:Room 2 _:=hr.mono (by decide)
  exact B6 (Cp 3 KG.nd (Ca Dz hr_law_pick (BX (BZ 0) (BX (ED (BX Cd (BX Cd (BX Cd (BX Cd (BX Cd B3)))))) B3)))) (Cb (Cc (Cr (BX (BZ 3) (BX (Ca Dz hr_law_pick (BX (BZ 0) (BX (BZ 1) B3))) (BX (Ca Dz hr_law_pick (BX (BZ 0) (BX (Dv (Cf (GD hr.units) (BZ 3) (Cr (BX Cd (BX Cd B3)))) (BZ 2) (BZ 1)) B3))) B3))))))
 have c:=CS 4 3 F KG rfl rfl b
 exact c
theorem O9:Cu ["_law_look_here"] ["_law_look_here"] (B9 II):=⟨rfl,rfl,rfl,by decide +kernel,rfl,by decide +kernel,by decide +kernel⟩
theorem K9 {f:Addr}{fd:FuncData}(F:Fun K "_law_big" "_law_big" II f fd)(hm:mg "_law_big"=some (.ref f))(hb:Binds K fd ["_law_look_here"] [])(T:Tx K mg) :∀ n,DH P w K mg base CX0 (n+1) f fd ["_law_look_here"] (spF ⟨K,P,w⟩ (DL n) 1)
 | 0=>⟨λvs H Q E h=>by obtain ⟨th,mu,ds,_,r,hl,_⟩:=h;rw [r.len];exact hl,λA outer s H args us vs Q E hr he hb hv h=>by obtain ⟨th,mu,ds,_,r,hl,t⟩:=h;exact t.no.elim⟩
 | n+1=>by
  have Fb:Cal P w K mg base (n+1) "_law_big" (DL n) 1:=CH F hm (K9 F hm hb T  n) hb
  have b:BO P w K mg base (n+1) "_law_big" II f ["_law_look_here"] (E5 (DL n)):=λcdv A outer s H E hr=>by
   have hr_law_big:Room (n+1) _:=hr
   exact B6 (Ct (Cf (CZ hr.units) (Cm (CB hr.units) (BZ 0) B4) Cd) (Cb (Cc B4)) Co) (B6 (Ct (Cf (CZ hr.units) (Cm (CB hr.units) (BZ 0) B4) Cd) (Cb (Cc (Ci EK (Ca Fb hr_law_big (BX (Cm (CB hr.units) (BZ 0) B4) B3)) (Ca Fb hr_law_big (BX (Cm (CB hr.units) (BZ 0) B4) B3))))) Co) (Cb (Cc (Ci Cz (Ca Fb hr_law_big (BX (Cm (CB hr.units) (BZ 0) B4) B3)) (Dv (Cf (CZ hr.units) (Cm (CB hr.units) (BZ 0) B4) Cd) (Ca Fb hr_law_big (BX (Cm (CB hr.units) (BZ 0) B4) B3)) B4)))))
  have c:=CS 1 1 F O9 rfl rfl b
  exact c
theorem DK:Cu ["_law_hand_here","_law_schema_here","_law_deep","_law_way","_law_one","_law_columns_here","_law_stock_here","_law_at","_law_free","_law_pairs","_law_other"] ["_law_hand_here","_law_schema_here","_law_deep"] (B9 E6):=⟨rfl,rfl,rfl,by decide +kernel,rfl,by decide +kernel,by decide +kernel⟩
theorem Ku {f:Addr}{fd:FuncData}(F:Fun K "_law_look" "_law_look" E6 f fd)(hm:mg "_law_look"=some (.ref f))(hb:Binds K fd ["_law_hand_here","_law_schema_here","_law_deep"] [])(T:Tx K mg)(Cs:Cal P w K mg base 1 "_law_take" Cg 2)(Dz:Cal P w K mg base 2 "_law_pick" CA 2)(Ep:Cal P w K mg base 11 "_law_columns" (Ds 10) 2)(KC:Cal P w K mg base 1 "_law_stock" FU 1)(Jm:Cal P w K mg base 3 "_law_test" Ei 3)(Fb:Cal P w K mg base 11 "_law_big" (DL 10) 1):∀ n,DH P w K mg base CX0 (n+12) f fd ["_law_hand_here","_law_schema_here","_law_deep"] (spF ⟨K,P,w⟩ (Ef n) 3)
 | 0=>⟨λvs H Q E h=>by obtain ⟨th,mu,ds,_,r,hl,_⟩:=h;rw [r.len];exact hl,λA outer s H args us vs Q E hr he hb hv h=>by obtain ⟨th,mu,ds,_,r,hl,t⟩:=h;exact t.no.elim⟩
 | n+1=>by
  have HA:Cal P w K mg base (n+12) "_law_look" (Ef n) 3:=CH F hm (Ku F hm hb T Cs Dz Ep KC Jm Fb n) hb
  have b:BO P w K mg base (n+12) "_law_look" E6 f ["_law_hand_here","_law_schema_here","_law_deep","_law_way","_law_one","_law_columns_here","_law_stock_here","_law_at","_law_free","_law_pairs","_law_other"] (CU (Ef n)):=λcdv A outer s H E hr=>by
   have hr_law_take:Room 1 _:=hr.mono (by omega)
   have hr_law_pick:Room 2 _:=hr.mono (by omega)
   have hr_law_columns:Room 11 _:=hr.mono (by omega)
   have hr_law_stock:Room 1 _:=hr.mono (by omega)
   have hr_law_test:Room 3 _:=hr.mono (by omega)
   have hr_law_big:Room 11 _:=hr.mono (by omega)
   have hr_law_look:Room (n+12) _:=hr
   exact B6 (Cp 3 DK.nd (Ca Cs hr_law_take (BX (BZ 0) (BX B4 B3)))) (B6 (Ct (SVW.t (D9 (Cf (NA hr.units) (BZ 2) B4) (Ew (Cf (CZ hr.units) (BZ 3) B4)))) (Cb (Cc (Cr (BX Cd (BX (Cm (CB hr.units) (Ca Dz hr_law_pick (BX (BZ 0) (BX (BZ 1) B3))) B4) B3))))) Co) (B6 (Cp 4 DK.nd (Ca HA hr_law_look (BX (BZ 0) (BX (BZ 1) (BX (Ci Gg (BZ 2) B4) B3))))) (B6 (HB (Cr (BX (Ca Ep hr_law_columns (BX (BZ 1) (BX (BZ 4) B3))) (BX (Ca KC hr_law_stock (BX (BZ 1) B3)) B3))) (Gi rfl (CN (Ce 5 DK.nd) (CN (Ce 6 DK.nd) Fg)))) (B6 (Ct (Cf (NA hr.units) (BZ 3) B4) (Cb (Cc (Cr (BX Cd (BX (BZ 4) (BX (Cw Dp T.b_tuple Ba (BX (D8 ["_law_k"] [(0,"_law_hand_here"),(5,"_law_columns_here"),(6,"_law_stock_here")] (by exact Fi (B9 E6) rfl rfl ⟨rfl,by decide +kernel,by decide +kernel,by decide +kernel⟩ ⟨⟨rfl,.inl rfl,.inl rfl⟩,⟨rfl,.inl rfl,.inl rfl⟩,⟨rfl,.inl rfl,.inl rfl⟩,True.intro⟩) (Gr T.b_range (BX (Ci Cz B4 (Ca Cs hr_law_take (BX (BZ 0) (BX B4 B3)))) B3)) Cq (λ_ _ _ _ _=>Ce 0 (show (["_law_k","_law_hand_here","_law_columns_here","_law_stock_here"]:List Str).Nodup by decide +kernel)) (λ_ _ _ _ _=>CV) (λ_ _ _ _ _=>Ca Jm hr_law_test (BX (BZ 1) (BX (BZ 2) (BX (BZ 3) B3))))) B3)) B3)))))) Co) (B6 (Ct (Cf (CZ hr.units) (BZ 3) B4) (B6 (Cp 7 DK.nd (Ca Cs hr_law_take (BX (BZ 0) (BX (Ck Cv T.b_len Bd (BX (BZ 5) B3)) B3)))) (Cb (Cc (Cr (BX Cd (BX (BZ 4) (BX (Ek (Ci Cz (Ek (BZ 5) (El (BZ 7)) Ej) (Ek (BZ 5) Ej (El (BZ 7)))) Ej (El (Ci Cz B4 (Ca Cs hr_law_take (BX (BZ 0) (BX (Ck Cv T.b_len Bd (BX (BZ 5) B3)) B3)))))) B3))))))) Co) (B6 (Ct (Cf (CZ hr.units) (BZ 3) B4) (B6 (IT 8 ["_law_word"] [(5,"_law_columns_here")] (by exact Fi (B9 E6) rfl rfl ⟨rfl,by decide +kernel,by decide +kernel,by decide +kernel⟩ ⟨⟨rfl,.inl rfl,.inl rfl⟩,True.intro⟩) (CJ (ED (BX Cd (BX Cd (BX Cd (BX Cd B3)))))) Cq (λ_ _ _ _ _=>Ce 0 (show (["_law_word","_law_columns_here"]:List Str).Nodup by decide +kernel)) (λ_ _ _ _ _=>IB (Cf (GQ hr.units) (BZ 0) (BZ 1))) (λ_ _ _ _ _=>BZ 0) DK.nd) (B6 (IT 9 ["_law_word"] [(0,"_law_hand_here"),(5,"_law_columns_here")] (by exact Fi (B9 E6) rfl rfl ⟨rfl,by decide +kernel,by decide +kernel,by decide +kernel⟩ ⟨⟨rfl,.inl rfl,.inl rfl⟩,⟨rfl,.inl rfl,.inl rfl⟩,True.intro⟩) (CJ (Ek (BZ 8) Ej (El B4))) Cq (λ_ _ _ _ _=>Ce 0 (show (["_law_word","_law_hand_here","_law_columns_here"]:List Str).Nodup by decide +kernel)) (λ_ _ _ _ _=>CV) (λ_ _ _ _ _=>Cr (BX (Ca Dz hr_law_pick (BX (BZ 1) (BX (BZ 2) B3))) (BX (BZ 0) B3))) DK.nd) (Cb (Cc (Dv (Cf (J0 hr.units) (BZ 9) (ED B3)) (Cr (BX Cd (BX (BZ 4) (BX (Cw Dp T.b_tuple Ba (BX (BZ 9) B3)) B3)))) (BZ 4)))))) Co) (B6 (Cp 10 DK.nd (Ca HA hr_law_look (BX (BZ 0) (BX (BZ 1) (BX (Ci Gg (BZ 2) B4) B3))))) (B6 (Ct (Cf (CZ hr.units) (BZ 3) B4) (Cb (Cc (Dv (Cf (NA hr.units) (Ci EK (Ca Fb hr_law_big (BX (BZ 4) B3)) (Ca Fb hr_law_big (BX (BZ 10) B3))) B4) (Cr (BX Cd (BX (BZ 4) (BX (BZ 10) B3)))) (BZ 4)))) Co) (B6 (Ct (Cf (J0 hr.units) (Ca Ep hr_law_columns (BX (BZ 1) (BX (BZ 10) B3))) (BZ 5)) (Cb (Cp 10 DK.nd (Dv (Cf RY (BZ 2) B4) (Cr (BX Cd (BX (BZ 4) (BX (Cr (BX (Ca Jm hr_law_test (BX (BZ 0) (BX (BZ 5) (BX (BZ 6) B3)))) B3)) B3)))) (BZ 4)))) Co) (Cb (Cc (Cr (BX (Cm (CB hr.units) (ED (BX Cd (BX Cd B3))) (Ci Gg (BZ 3) B4)) (BX (BZ 4) (BX (BZ 10) B3)))))))))))))))
  have c:=CS 11 3 F DK rfl rfl b
  exact c
theorem LD:Cu ["_law_thing"] ["_law_thing"] (B9 EU):=⟨rfl,rfl,rfl,by decide +kernel,rfl,by decide +kernel,by decide +kernel⟩
theorem Lo {f:Addr}{fd:FuncData}(F:Fun K "_law_is_word" "_law_is_word" EU f fd)(T:Tx K mg) :DH P w K mg base CX0 1 f fd ["_law_thing"] (spF ⟨K,P,w⟩ Dt 1):=by
 have b:BO P w K mg base 0 "_law_is_word" EU f ["_law_thing"] FN:=λcdv A outer s H E hr=>by
  exact B6 (Ct (SVW.t (D9 (C0 (CK (ES "str" (BZ 0) T.b_isinstance T.b_str boot_str))) (Ew (C0 (J9 F8 F8 B4 (Ck Cv T.b_len Bd (BX (BZ 0) B3)) B4))))) (Cb (Cc Gd)) Co) (Cb (Cc (Ck (DM rfl) T.b_all boot_all (BX (D8 ["_law_sign"] [] (by exact Fi (B9 EU) rfl rfl ⟨rfl,by decide +kernel,by decide +kernel,by decide +kernel⟩ True.intro) (CJ (BZ 0)) Cq (λ_ _ _ _ _=>Ce 0 (show (["_law_sign"]:List Str).Nodup by decide +kernel)) (λ_ _ _ _ _=>CV) (λ_ _ _ _ _=>ZH (Lg F8 F8 Cd (BZ 0) Cd) (F7 (Lg F8 F8 Cd (BZ 0) Cd)))) B3))))
 have c:=CS 1 1 F LD rfl rfl b
 exact c
theorem Kq:Cu ["_law_columns_here","_law_test_here"] ["_law_columns_here","_law_test_here"] (B9 Eo):=⟨rfl,rfl,rfl,by decide +kernel,rfl,by decide +kernel,by decide +kernel⟩
theorem Ko {f:Addr}{fd:FuncData}(F:Fun K "_law_test_fits" "_law_test_fits" Eo f fd)(T:Tx K mg)(GU:Cal P w K mg base 1 "_law_is_word" Dt 1):DH P w K mg base CX0 2 f fd ["_law_columns_here","_law_test_here"] (spF ⟨K,P,w⟩ Dy 2):=by
 have b:BO P w K mg base 1 "_law_test_fits" Eo f ["_law_columns_here","_law_test_here"] EX:=λcdv A outer s H E hr=>by
  have hr_law_is_word:Room 1 _:=hr.mono (by decide)
  exact B6 (Ct (SVW.t (D9 (C0 (CK (ES "tuple" (BZ 1) T.b_isinstance T.b_tuple Ba))) (D9 (Cf (J0 hr.units) (Ck Cv T.b_len Bd (BX (BZ 1) B3)) B4) (Ew (C0 (CK (Ck (DM rfl) T.b_all boot_all (BX (D8 ["_law_one"] [] (by exact Fi (B9 Eo) rfl rfl ⟨rfl,by decide +kernel,by decide +kernel,by decide +kernel⟩ True.intro) (CJ (BZ 1)) Cq (λ_ _ _ _ _=>Ce 0 (show (["_law_one"]:List Str).Nodup by decide +kernel)) (λ_ _ _ _ _=>CV) (λ_ _ _ _ _=>ES "str" (BZ 0) T.b_isinstance T.b_str boot_str)) B3)))))))) (Cb (Cc Gd)) Co) (B6 (Ct (Cf (GQ hr.units) (Cm (CB hr.units) (BZ 1) B4) (BZ 0)) (Cb (Cc Gd)) Co) (B6 (Ct (Cf (GD hr.units) (Cm (CB hr.units) (BZ 1) B4) (Cr (BX Cd (BX Cd B3)))) (Cb (Cc (Ca GU hr_law_is_word (BX (Cm (CB hr.units) (BZ 1) B4) B3)))) Co) (Cb (Cc (Fo (Et (GD hr.units) (Cm (CB hr.units) (BZ 1) B4) (Cr (BX Cd (BX Cd B3)))) (F7 (Et (GD hr.units) (Cm (CB hr.units) (BZ 1) B4) (BZ 0))))))))
 have c:=CS 2 2 F Kq rfl rfl b
 exact c
theorem KR:Cu ["_law_columns_here","_law_thing"] ["_law_columns_here","_law_thing"] (B9 EA):=⟨rfl,rfl,rfl,by decide +kernel,rfl,by decide +kernel,by decide +kernel⟩
theorem KQ {f:Addr}{fd:FuncData}(F:Fun K "_law_cut_fits" "_law_cut_fits" EA f fd)(T:Tx K mg) :DH P w K mg base CX0 1 f fd ["_law_columns_here","_law_thing"] (spF ⟨K,P,w⟩ Dw 2):=by
 have b:BO P w K mg base 0 "_law_cut_fits" EA f ["_law_columns_here","_law_thing"] Fw:=λcdv A outer s H E hr=>by
  exact B6 (Ct (SVW.t (D9 (C0 (CK (ES "tuple" (BZ 1) T.b_isinstance T.b_tuple Ba))) (Ew (Cf (F5 hr.units) (BZ 1) (Cr B3))))) (Cb (Cc Gd)) Co) (B6 (Ct (C0 (CK (Ck (DM rfl) T.b_all boot_all (BX (D8 ["_law_one"] [(0,"_law_columns_here")] (by exact Fi (B9 EA) rfl rfl ⟨rfl,by decide +kernel,by decide +kernel,by decide +kernel⟩ ⟨⟨rfl,.inl rfl,.inl rfl⟩,True.intro⟩) (CJ (BZ 1)) Cq (λ_ _ _ _ _=>Ce 0 (show (["_law_one","_law_columns_here"]:List Str).Nodup by decide +kernel)) (λ_ _ _ _ _=>CV) (λ_ _ _ _ _=>Fo (ES "str" (BZ 0) T.b_isinstance T.b_str boot_str) (F7 (Et (GD hr.units) (BZ 0) (BZ 1))))) B3)))) (Cb (Cc Gd)) Co) (Cb (Cc (Et (F5 hr.units) (Ck Cv T.b_len Bd (BX (Cw (IH rfl) T.b_set boot_set (BX (BZ 1) B3)) B3)) (Ck Cv T.b_len Bd (BX (BZ 1) B3))))))
 have c:=CS 2 2 F KR rfl rfl b
 exact c
theorem FG:Cu ["_law_columns_here","_law_thing","_law_words_here","_law_made"] ["_law_columns_here","_law_thing"] (B9 Dm):=⟨rfl,rfl,rfl,by decide +kernel,rfl,by decide +kernel,by decide +kernel⟩
theorem Kk {f:Addr}{fd:FuncData}(F:Fun K "_law_called_so" "_law_called_so" Dm f fd)(T:Tx K mg)(Fh:Cal P w K mg base 1 "_law_cut_fits" Dw 2)(GU:Cal P w K mg base 1 "_law_is_word" Dt 1):DH P w K mg base CX0 2 f fd ["_law_columns_here","_law_thing"] (spF ⟨K,P,w⟩ DP 2):=by
 have b:BO P w K mg base 1 "_law_called_so" Dm f ["_law_columns_here","_law_thing","_law_words_here","_law_made"] EW:=λcdv A outer s H E hr=>by
  have hr_law_cut_fits:Room 1 _:=hr.mono (by decide)
  have hr_law_is_word:Room 1 _:=hr.mono (by decide)
  exact B6 (Ct (SVW.t (D9 (C0 (CK (ES "tuple" (BZ 1) T.b_isinstance T.b_tuple Ba))) (Ew (C0 (CK (Ck (DM rfl) T.b_all boot_all (BX (D8 ["_law_one"] [] (by exact Fi (B9 Dm) rfl rfl ⟨rfl,by decide +kernel,by decide +kernel,by decide +kernel⟩ True.intro) (CJ (BZ 1)) Cq (λ_ _ _ _ _=>Ce 0 (show (["_law_one"]:List Str).Nodup by decide +kernel)) (λ_ _ _ _ _=>CV) (λ_ _ _ _ _=>Fo (ES "tuple" (BZ 0) T.b_isinstance T.b_tuple Ba) (F7 (Et (CZ hr.units) (Ck Cv T.b_len Bd (BX (BZ 0) B3)) B4)))) B3))))))) (Cb (Cc CT)) Co) (B6 (Ct (C0 (CK (Ca Fh hr_law_cut_fits (BX (BZ 0) (BX (Cw Dp T.b_tuple Ba (BX (D8 ["_law_one"] [] (by exact Fi (B9 Dm) rfl rfl ⟨rfl,by decide +kernel,by decide +kernel,by decide +kernel⟩ True.intro) (CJ (BZ 1)) Cq (λ_ _ _ _ _=>Ce 0 (show (["_law_one"]:List Str).Nodup by decide +kernel)) (λ_ _ _ _ _=>CV) (λ_ _ _ _ _=>Cm (CB hr.units) (BZ 0) B4)) B3)) B3))))) (Cb (Cc CT)) Co) (B6 (Ct (C0 (CK (Ck (DM rfl) T.b_all boot_all (BX (D8 ["_law_one"] [] (by exact Fi (B9 Dm) rfl rfl ⟨rfl,by decide +kernel,by decide +kernel,by decide +kernel⟩ True.intro) (CJ (BZ 1)) Cq (λ_ _ _ _ _=>Ce 0 (show (["_law_one"]:List Str).Nodup by decide +kernel)) (λ_ _ _ _ _=>CV) (λ_ _ _ _ _=>Ca GU hr_law_is_word (BX (Cm (CB hr.units) (BZ 0) B4) B3))) B3)))) (Cb (Cc CT)) Co) (B6 (Cp 2 FG.nd (Cw (Km hr.units rfl) T.b_dict (by decide +kernel) (BX (Cw IL T.b_list boot_list (BX (BZ 1) B3)) B3))) (B6 (Cp 3 FG.nd (Cw Dp T.b_tuple Ba (BX (D8 ["_law_column"] [(2,"_law_words_here")] (by exact Fi (B9 Dm) rfl rfl ⟨rfl,by decide +kernel,by decide +kernel,by decide +kernel⟩ ⟨⟨rfl,.inl rfl,.inl rfl⟩,True.intro⟩) (CJ (BZ 0)) Cq (λ_ _ _ _ _=>Ce 0 (show (["_law_column","_law_words_here"]:List Str).Nodup by decide +kernel)) (λ_ _ _ _ _=>CV) (λ_ _ _ _ _=>Na hr.units (BZ 1) (BX (BZ 0) (BX (BZ 0) B3)))) B3))) (Cb (Cc (Dv (Cf (CZ hr.units) (Ck Cv T.b_len Bd (BX (Cw (IH rfl) T.b_set boot_set (BX (BZ 3) B3)) B3)) (Ck Cv T.b_len Bd (BX (BZ 3) B3))) (BZ 3) CT)))))))
 have c:=CS 4 2 F FG rfl rfl b
 exact c
theorem F0:Cu ["_law_schema_here","_law_thing","_law_deep","_law_found","_law_columns_here","_law_good","_law_others"] ["_law_schema_here","_law_thing","_law_deep"] (B9 E3):=⟨rfl,rfl,rfl,by decide +kernel,rfl,by decide +kernel,by decide +kernel⟩
theorem KA {f:Addr}{fd:FuncData}(F:Fun K "_law_fits" "_law_fits" E3 f fd)(hm:mg "_law_fits"=some (.ref f))(hb:Binds K fd ["_law_schema_here","_law_thing","_law_deep"] [])(T:Tx K mg)(Fh:Cal P w K mg base 1 "_law_cut_fits" Dw 2)(HN:Cal P w K mg base 2 "_law_called_so" DP 2)(HP:Cal P w K mg base 2 "_law_test_fits" Dy 2):∀ n,DH P w K mg base CX0 (n+3) f fd ["_law_schema_here","_law_thing","_law_deep"] (spF ⟨K,P,w⟩ (DA n) 3)
 | 0=>⟨λvs H Q E h=>by obtain ⟨th,mu,ds,_,r,hl,_⟩:=h;rw [r.len];exact hl,λA outer s H args us vs Q E hr he hb hv h=>by obtain ⟨th,mu,ds,_,r,hl,t⟩:=h;exact t.no.elim⟩
 | n+1=>by
  have Hl:Cal P w K mg base (n+3) "_law_fits" (DA n) 3:=CH F hm (KA F hm hb T Fh HN HP n) hb
  have b:BO P w K mg base (n+3) "_law_fits" E3 f ["_law_schema_here","_law_thing","_law_deep","_law_found","_law_columns_here","_law_good","_law_others"] (FZ (DA n)):=λcdv A outer s H E hr=>by
   have hr_law_cut_fits:Room 1 _:=hr.mono (by omega)
   have hr_law_called_so:Room 2 _:=hr.mono (by omega)
   have hr_law_test_fits:Room 2 _:=hr.mono (by omega)
   have hr_law_fits:Room (n+3) _:=hr
   exact B6 (Ct (SVW.t (D9 (Cf (F5 hr.units) (BZ 2) B4) (D9 (C0 (CK (ES "tuple" (BZ 1) T.b_isinstance T.b_tuple Ba))) (D9 (Cf (GQ hr.units) (Ck Cv T.b_len Bd (BX (BZ 1) B3)) (Cr (BX B4 (BX B4 B3)))) (Ew (C0 (CK (ES "str" (Cm (CB hr.units) (BZ 1) B4) T.b_isinstance T.b_str boot_str)))))))) (Cb (Cc CT)) Co) (B6 (Ct (Cf (J0 hr.units) (Et (F5 hr.units) (Cm (CB hr.units) (BZ 1) B4) Cd) (Et (F5 hr.units) (Ck Cv T.b_len Bd (BX (BZ 1) B3)) B4)) (Cb (Cc CT)) Co) (B6 (Ct (Cf (F5 hr.units) (Cm (CB hr.units) (BZ 1) B4) Cd) (B6 (IT 3 ["_law_table"] [(1,"_law_thing")] (by exact Fi (B9 E3) rfl rfl ⟨rfl,by decide +kernel,by decide +kernel,by decide +kernel⟩ ⟨⟨rfl,.inl rfl,.inl rfl⟩,True.intro⟩) (CJ (BZ 0)) Cq (λ_ _ _ _ _=>Ce 0 (show (["_law_table","_law_thing"]:List Str).Nodup by decide +kernel)) (λ_ _ _ _ _=>IB (Cf (F5 hr.units) (Cm (CB hr.units) (BZ 0) B4) (Cm (CB hr.units) (BZ 1) B4))) (λ_ _ _ _ _=>Cw Dp T.b_tuple Ba (BX (D8 ["_law_one","_law_values"] [] (by exact Te rfl rfl (by decide +kernel) (by decide +kernel) (by decide +kernel) (by decide +kernel)) (CJ (Cm (CB hr.units) (BZ 0) B4)) (N4 (HE Cq (HE Cq L8))) (λ_ _ _ _ _=>Gi rfl (CN (Ce 0 (show (["_law_one","_law_values"]:List Str).Nodup by decide +kernel)) (CN (Ce 1 (show (["_law_one","_law_values"]:List Str).Nodup by decide +kernel)) Fg))) (λ_ _ _ _ _=>CV) (λ_ _ _ _ _=>BZ 0)) B3)) F0.nd) (Cb (Cc (Dv (Cf (J0 hr.units) (BZ 3) (ED B3)) (Cm (CB hr.units) (BZ 3) B4) CT)))) Co) (B6 (Cp 4 F0.nd (Ca Hl hr_law_fits (BX (BZ 0) (BX (Cm (CB hr.units) (BZ 1) B4) (BX (Ci Gg (BZ 2) B4) B3))))) (B6 (Ct (Cf Lf (BZ 4) CT) (Cb (Cc CT)) Co) (B6 (Ct (Cf (F5 hr.units) (Cm (CB hr.units) (BZ 1) B4) Cd) (Cb (Cc (Dv (CK (Ca Fh hr_law_cut_fits (BX (BZ 4) (BX (Cm (CB hr.units) (BZ 1) B4) B3)))) (Cm (CB hr.units) (BZ 1) B4) CT))) Co) (B6 (Ct (Cf (F5 hr.units) (Cm (CB hr.units) (BZ 1) B4) Cd) (Cb (Cc (Ca HN hr_law_called_so (BX (BZ 4) (BX (Cm (CB hr.units) (BZ 1) B4) B3))))) Co) (B6 (Ct (Cf (F5 hr.units) (Cm (CB hr.units) (BZ 1) B4) Cd) (B6 (Ct (SVW.t (D9 (C0 (CK (ES "tuple" (Cm (CB hr.units) (BZ 1) B4) T.b_isinstance T.b_tuple Ba))) (Ew (C0 (J9 F8 F8 B4 (Ck Cv T.b_len Bd (BX (Cm (CB hr.units) (BZ 1) B4) B3)) B4))))) (Cb (Cc CT)) Co) (B6 (Cp 5 F0.nd (Ck (DM rfl) T.b_all boot_all (BX (D8 ["_law_test_here"] [(4,"_law_columns_here")] (by exact Fi (B9 E3) rfl rfl ⟨rfl,by decide +kernel,by decide +kernel,by decide +kernel⟩ ⟨⟨rfl,.inl rfl,.inl rfl⟩,True.intro⟩) (CJ (Cm (CB hr.units) (BZ 1) B4)) Cq (λ_ _ _ _ _=>Ce 0 (show (["_law_test_here","_law_columns_here"]:List Str).Nodup by decide +kernel)) (λ_ _ _ _ _=>CV) (λ_ _ _ _ _=>Ca HP hr_law_test_fits (BX (BZ 1) (BX (BZ 0) B3)))) B3))) (Cb (Cc (Dv (CK (BZ 5)) (BZ 4) CT))))) Co) (B6 (Cp 6 F0.nd (Ca Hl hr_law_fits (BX (BZ 0) (BX (Cm (CB hr.units) (BZ 1) B4) (BX (Ci Gg (BZ 2) B4) B3))))) (B6 (Ct (SVW.t (D9 (Cf Lf (BZ 6) CT) (Ew (Cf (GQ hr.units) (Cm (CB hr.units) (BZ 1) B4) (Cr (BX Cd (BX Cd (BX Cd B3)))))))) (Cb (Cc CT)) Co) (B6 (Ct (Cf (F5 hr.units) (Cm (CB hr.units) (BZ 1) B4) Cd) (Cb (Cc (Ci Cz (BZ 4) (Cw Dp T.b_tuple Ba (BX (D8 ["_law_column"] [(4,"_law_columns_here")] (by exact Fi (B9 E3) rfl rfl ⟨rfl,by decide +kernel,by decide +kernel,by decide +kernel⟩ ⟨⟨rfl,.inl rfl,.inl rfl⟩,True.intro⟩) (CJ (BZ 6)) Cq (λ_ _ _ _ _=>Ce 0 (show (["_law_column","_law_columns_here"]:List Str).Nodup by decide +kernel)) (λ_ _ _ _ _=>IB (Cf (GQ hr.units) (BZ 0) (BZ 1))) (λ_ _ _ _ _=>BZ 0)) B3))))) Co) (Cb (Cc (Dv (Cf (F5 hr.units) (BZ 4) (BZ 6)) (BZ 4) CT)))))))))))))
  have c:=CS 7 3 F F0 rfl rfl b
  exact c
theorem Eh:Cu ["_law_hand_here","_law_schema_here","_law_name","_law_column","_law_some"] ["_law_hand_here","_law_schema_here"] (B9 IJ):=⟨rfl,rfl,rfl,by decide +kernel,rfl,by decide +kernel,by decide +kernel⟩
theorem OV {f:Addr}{fd:FuncData}(F:Fun K "_law_odd" "_law_odd" IJ f fd)(T:Tx K mg)(Dz:Cal P w K mg base 2 "_law_pick" CA 2):DH P w K mg base CX0 3 f fd ["_law_hand_here","_law_schema_here"] (spF ⟨K,P,w⟩ Gs 2):=by
 have b:BO P w K mg base 2 "_law_odd" IJ f ["_law_hand_here","_law_schema_here","_law_name","_law_column","_law_some"] Ki:=λcdv A outer s H E hr=>by
  have hr_law_pick:Room 2 _:=hr.mono (by decide)
  exact B6 (Cp 2 Eh.nd (Cm (CB hr.units) (Cm (CB hr.units) (BZ 1) B4) B4)) (B6 (Cp 3 Eh.nd (Cm (CB hr.units) (Cm (CB hr.units) (Cm (CB hr.units) (Cm (CB hr.units) (BZ 1) B4) B4) B4) B4)) (B6 (Cp 4 Eh.nd (JM (BX CT (BX Gd (BX B4 (BX Cd (BX Cd (BX (BZ 2) (BX (BZ 3) (BX (Cr B3) (BX (ED B3) (BX Qd (BX (Cr (BX Cd (BX (BZ 2) B3))) (BX (Cr (BX Cd (BX Cd B3))) B3)))))))))))))) (B6 (Cp 4 Eh.nd (Ci JG (BZ 4) (ED (BX (Cr (BX Cd B3)) (BX (ED (BX Cd (BX (BZ 2) B3))) B3))))) (B6 (Cp 4 Eh.nd (Ci JG (BZ 4) (ED (BX (Cr (BX (BZ 3) B3)) (BX (Cr (BX (Cr (BX Cd (BX (BZ 3) (BX Cd B3)))) B3)) (BX (Cr (BX (Cr (BX Cd (BX (BZ 3) (BX (BZ 3) B3)))) B3)) B3)))))) (B6 (Cp 4 Eh.nd (Ci JG (BZ 4) (ED (BX (Cr (BX (BZ 3) (BX (BZ 3) B3))) (BX (Cr (BX (Cr (BX Cd (BX (BZ 3) (BX Cd B3)))) B3)) (BX (Ci U6 (Cr (BX (Cr (BX Cd (BX (BZ 3) (BX Cd B3)))) B3)) B4) B3)))))) (B6 (JO (Kh (BZ 4) (BX (Cr (BX (Cr (BX Cd (BX (BZ 3) (BX Cd B3)))) B3)) B3))) (B6 (Cp 4 Eh.nd (Ci JG (BZ 4) (ED (BX (Cr (BX (Cr (BX (BZ 3) (BX Cd B3))) B3)) (BX Cd (BX Cd (BX Cd B3))))))) (B6 (Cp 4 Eh.nd (Ci JG (BZ 4) (ED (BX Cd (BX Cd (BX Cd B3)))))) (Cb (Cc (Ca Dz hr_law_pick (BX (BZ 0) (BX (BZ 4) B3)))))))))))))
 have c:=Po 5 2 F Eh rfl rfl b
 exact c
theorem FQ:Cu ["_law_hand_here","_law_schema_here","_law_thing","_law_deep","_law_at","_law_way","_law_new"] ["_law_hand_here","_law_schema_here","_law_thing","_law_deep"] (B9 Gf):=⟨rfl,rfl,rfl,by decide +kernel,rfl,by decide +kernel,by decide +kernel⟩
theorem IZ {f:Addr}{fd:FuncData}(F:Fun K "_law_put_in" "_law_put_in" Gf f fd)(hm:mg "_law_put_in"=some (.ref f))(hb:Binds K fd ["_law_hand_here","_law_schema_here","_law_thing","_law_deep"] [])(T:Tx K mg)(Cs:Cal P w K mg base 1 "_law_take" Cg 2)(JW:Cal P w K mg base 3 "_law_odd" Gs 2):∀ n,DH P w K mg base CX0 (n+4) f fd ["_law_hand_here","_law_schema_here","_law_thing","_law_deep"] (spF ⟨K,P,w⟩ (CC n) 4)
 | 0=>⟨λvs H Q E h=>by obtain ⟨th,mu,ds,_,r,hl,_⟩:=h;rw [r.len];exact hl,λA outer s H args us vs Q E hr he hb hv h=>by obtain ⟨th,mu,ds,_,r,hl,t⟩:=h;exact t.no.elim⟩
 | n+1=>by
  have Hg:Cal P w K mg base (n+4) "_law_put_in" (CC n) 4:=CH F hm (IZ F hm hb T Cs JW n) hb
  have b:BO P w K mg base (n+4) "_law_put_in" Gf f ["_law_hand_here","_law_schema_here","_law_thing","_law_deep","_law_at","_law_way","_law_new"] (Dh (CC n)):=λcdv A outer s H E hr=>by
   have hr_law_take:Room 1 _:=hr.mono (by omega)
   have hr_law_odd:Room 3 _:=hr.mono (by omega)
   have hr_law_put_in:Room (n+4) _:=hr
   exact B6 (Ct (SVW.t (D9 (C0 (CK (ES "tuple" (BZ 2) T.b_isinstance T.b_tuple Ba))) (D9 (Cf (CZ hr.units) (Ck Cv T.b_len Bd (BX (BZ 2) B3)) B4) (D9 (Cf (CZ hr.units) (BZ 3) B4) (Ew (Cf (CZ hr.units) (Ca Cs hr_law_take (BX (BZ 0) (BX B4 B3))) B4)))))) (Cb (Cc (Ca JW hr_law_odd (BX (BZ 0) (BX (BZ 1) B3))))) Co) (B6 (Cp 4 FQ.nd (Ca Cs hr_law_take (BX (BZ 0) (BX (Ck Cv T.b_len Bd (BX (BZ 2) B3)) B3)))) (B6 (Cp 5 FQ.nd (Ca Cs hr_law_take (BX (BZ 0) (BX B4 B3)))) (B6 (Ct (Cf (CZ hr.units) (BZ 5) B4) (Cb (Cc (Ci Cz (Ek (BZ 2) Ej (El (BZ 4))) (Ek (BZ 2) (El (Ci Cz (BZ 4) B4)) Ej)))) Co) (B6 (Ct (Cf (CZ hr.units) (BZ 5) B4) (Cb (Cc (Ci Cz (Ek (BZ 2) Ej (El (Ci Cz (BZ 4) B4))) (Ek (BZ 2) (El (BZ 4)) Ej)))) Co) (B6 (Ct (Cf (CZ hr.units) (BZ 5) B4) (Cb (Cc (Cm (CB hr.units) (ED (BX (Cw IL T.b_list boot_list (BX (BZ 2) B3)) (BX (Yl (BZ 2)) (BX (Ci Cz (BZ 2) (Cr (BX (Ca JW hr_law_odd (BX (BZ 0) (BX (BZ 1) B3))) B3))) B3)))) (Ca Cs hr_law_take (BX (BZ 0) (BX B4 B3)))))) Co) (B6 (Cp 6 FQ.nd (Ca Hg hr_law_put_in (BX (BZ 0) (BX (BZ 1) (BX (Cm (CB hr.units) (BZ 2) (BZ 4)) (BX (Ci Gg (BZ 3) B4) B3)))))) (Cb (Cc (Ci Cz (Ci Cz (Ek (BZ 2) Ej (El (BZ 4))) (Cr (BX (BZ 6) B3))) (Ek (BZ 2) (El (Ci Cz (BZ 4) B4)) Ej))))))))))
  have c:=CS 7 4 F FQ rfl rfl b
  exact c
theorem F2:Cu ["_law_script","_law_k","_law_hand_here","_law_schema_here","_law_turn","_law_look_here","_law_thing","_law_column","_law_found","_law_due","_law_none"] ["_law_script"] (B9 Kz):=⟨rfl,rfl,rfl,by decide +kernel,rfl,by decide +kernel,by decide +kernel⟩
theorem Ys {f:Addr}{fd:FuncData}(F:Fun K "law" "law" Kz f fd)(T:Tx K mg)(PU:Cal P w K mg base 1 "_law_hand" EZ 2)(Nz:Cal P w K mg base 4 "_law_schema" Ed 4)(HA:Cal P w K mg base 22 "_law_look" (Ef 10) 3)(Cs:Cal P w K mg base 1 "_law_take" Cg 2)(Hg:Cal P w K mg base 18 "_law_put_in" (CC 14) 4)(J3:Cal P w K mg base 16 "is_look" D4 2)(Hl:Cal P w K mg base 13 "_law_fits" (DA 10) 3):DH P w K mg base CX0 23 f fd ["_law_script"] (spF ⟨K,P,w⟩ Ms 1):=by
 have b:BO P w K mg base 22 "law" Kz f ["_law_script","_law_k","_law_hand_here","_law_schema_here","_law_turn","_law_look_here","_law_thing","_law_column","_law_found","_law_due","_law_none"] R4:=λcdv A outer s H E hr=>by
  have hr_law_hand:Room 1 _:=hr.mono (by decide)
  have hr_law_schema:Room 4 _:=hr.mono (by decide)
  have hr_law_look:Room 22 _:=hr.mono (by decide)
  have hr_law_take:Room 1 _:=hr.mono (by decide)
  have hr_law_put_in:Room 18 _:=hr.mono (by decide)
  have hr_is_look:Room 16 _:=hr.mono (by decide)
  have hr_law_fits:Room 13 _:=hr.mono (by decide)
  exact B6 (IQ PassesOwn.never rfl (Gr T.b_range (BX (Ck (RI rfl) T.b_max boot_max (BX B4 (BX (Ck (Mz rfl) T.b_min boot_min (BX B4 (BX (Ck Cv T.b_len Bd (BX (BZ 0) B3)) B3))) B3))) B3)) (Ce 1 F2.nd) (B6 (Cp 2 F2.nd (Ca PU hr_law_hand (BX (BZ 0) (BX (BZ 1) B3)))) (B6 (Cp 3 F2.nd (Ca Nz hr_law_schema (BX (BZ 2) (BX B4 (BX B4 (BX B4 B3)))))) (B6 (IQ PassesOwn.never rfl (Gr T.b_range (BX B4 B3)) (Ce 4 F2.nd) (B6 (Cp 5 F2.nd (Ca HA hr_law_look (BX (BZ 2) (BX (BZ 3) (BX (Ci Cz B4 (Ca Cs hr_law_take (BX (BZ 2) (BX B4 B3)))) B3))))) (B6 (Cp 6 F2.nd (Ca Hg hr_law_put_in (BX (BZ 2) (BX (BZ 3) (BX (BZ 5) (BX B4 B3)))))) (B6 (Ct (Cf (CZ hr.units) (Ca Cs hr_law_take (BX (BZ 2) (BX B4 B3))) B4) (B6 (Cp 7 F2.nd (Cm (CB hr.units) (Cm (CB hr.units) (Cm (CB hr.units) (Cm (CB hr.units) (BZ 3) B4) B4) B4) B4)) (B6 (Cp 6 F2.nd (Cr (BX Cd (BX (BZ 6) (BX (Cr (BX (Cr (BX Cd (BX (BZ 7) (BX Cd B3)))) B3)) B3))))) (Cb (Cp 6 F2.nd (Cr (BX Cd (BX (BZ 6) (BX (Cr (BX (Cr (BX Cd (BX Cd (BX Cd B3)))) B3)) B3)))))))) Co) (B6 (UH 8 9 rfl F2.nd (BX (Ca J3 hr_is_look (BX (BZ 3) (BX (BZ 6) B3))) (BX (Ca Hl hr_law_fits (BX (BZ 3) (BX (BZ 6) (BX B4 B3)))) B3)) (by rfl)) (B6 (Ct (SVW.t (D9 (C0 (CK (ES "bool" (BZ 8) T.b_isinstance T.b_bool (by decide +kernel)))) (Ew (Cf (J0 hr.units) (BZ 8) (Et ML (BZ 9) CT))))) (Cb (Cc Gd)) Co) (Cb (Ct (Cf ML (Ca J3 hr_is_look (BX (BZ 3) (BX (BZ 5) B3))) Gd) (Cb (Cc Gd)) Co)))))))) (B6 (Cp 10 F2.nd (ED (BX CT (BX Gd (BX B4 (BX Cd (BX Cd (BX (Cr B3) (BX (ED B3) (BX Qd (BX (Cr (BX (Cr B3) B3)) (BX (Cr (BX CT (BX CT B3))) B3)))))))))))) (Cb (Ct (C0 (CK (Ck (DM rfl) T.b_all boot_all (BX (D8 ["_law_thing"] [(3,"_law_schema_here")] (by exact Fi (B9 Kz) rfl rfl ⟨rfl,by decide +kernel,by decide +kernel,by decide +kernel⟩ ⟨⟨rfl,.inl rfl,.inl rfl⟩,True.intro⟩) (CJ (BZ 10)) Cq (λ_ _ _ _ _=>Ce 0 (show (["_law_thing","_law_schema_here"]:List Str).Nodup by decide +kernel)) (λ_ _ _ _ _=>CV) (λ_ _ _ _ _=>Et Lf (Ca J3 hr_is_look (BX (BZ 1) (BX (BZ 0) B3))) Gd)) B3)))) (Cb (Cc Gd)) Co))))))) (Cb (Cc Gd))
 have c:=CS 11 1 F F2 rfl rfl b
 exact c
end
end PG
namespace PV
open PySem L2 PyProof.Rows
section
variable {α β:Type} {ro:Ro} {mu:Sto} {d e:D} {a b c:Ex} {i:Nat} {o:Option D}
@[simp] theorem RA {x:α}{m:Sto}{f:α->Sto->Rs β}:bM (some (x,m)) f=f x m:=rfl
@[simp] theorem Abq:B0 0 (some d::ro) mu=some (d,mu):=rfl
@[simp] theorem AaI {x1}:B0 1 (x1::some d::ro) mu=some (d,mu):=rfl
@[simp] theorem Abk {x1 x2}:B0 2 (x1::x2::some d::ro) mu=some (d,mu):=rfl
@[simp] theorem Abi {x1 x2 x3}:B0 3 (x1::x2::x3::some d::ro) mu=some (d,mu):=rfl
@[simp] theorem AaF {x1 x2 x3 x4}:B0 4 (x1::x2::x3::x4::some d::ro) mu=some (d,mu):=rfl
@[simp] theorem Aa1 {x1 x2 x3 x4 x5}:B0 5 (x1::x2::x3::x4::x5::some d::ro) mu=some (d,mu):=rfl
@[simp] theorem Aav {x1 x2 x3 x4 x5 x6}:B0 6 (x1::x2::x3::x4::x5::x6::some d::ro) mu=some (d,mu):=rfl
@[simp] theorem Abr {x1 x2 x3 x4 x5 x6 x7}:B0 7 (x1::x2::x3::x4::x5::x6::x7::some d::ro) mu=some (d,mu):=rfl
@[simp] theorem AaY {x1 x2 x3 x4 x5 x6 x7 x8}:B0 8 (x1::x2::x3::x4::x5::x6::x7::x8::some d::ro) mu=some (d,mu):=rfl
@[simp] theorem AaX {x1 x2 x3 x4 x5 x6 x7 x8 x9}:B0 9 (x1::x2::x3::x4::x5::x6::x7::x8::x9::some d::ro) mu=some (d,mu):=rfl
@[simp] theorem ZW {x1 x2 x3 x4 x5 x6 x7 x8 x9 x10}:B0 10 (x1::x2::x3::x4::x5::x6::x7::x8::x9::x10::some d::ro) mu=some (d,mu):=rfl
@[simp] theorem YY {x1 x2 x3 x4 x5 x6 x7 x8 x9 x10 x11}:B0 11 (x1::x2::x3::x4::x5::x6::x7::x8::x9::x10::x11::some d::ro) mu=some (d,mu):=rfl
@[simp] theorem ZJ {x1 x2 x3 x4 x5 x6 x7 x8 x9 x10 x11 x12}:B0 12 (x1::x2::x3::x4::x5::x6::x7::x8::x9::x10::x11::x12::some d::ro) mu=some (d,mu):=rfl
@[simp] theorem Aai {x1 x2 x3 x4 x5 x6 x7 x8 x9 x10 x11 x12 x13}:B0 13 (x1::x2::x3::x4::x5::x6::x7::x8::x9::x10::x11::x12::x13::some d::ro) mu=some (d,mu):=rfl
@[simp] theorem YT {x1 x2 x3 x4 x5 x6 x7 x8 x9 x10 x11 x12 x13 x14}:B0 14 (x1::x2::x3::x4::x5::x6::x7::x8::x9::x10::x11::x12::x13::x14::some d::ro) mu=some (d,mu):=rfl
@[simp] theorem Zk {x1 x2 x3 x4 x5 x6 x7 x8 x9 x10 x11 x12 x13 x14 x15}:B0 15 (x1::x2::x3::x4::x5::x6::x7::x8::x9::x10::x11::x12::x13::x14::x15::some d::ro) mu=some (d,mu):=rfl
@[simp] theorem z_C:eC d ro mu=some (d,mu):=rfl
@[simp] theorem ZM {g:D->D->Sto->Rs D}:B8 g a b ro mu=bM (a ro mu) λx m1=>bM (b ro m1) λy m2=>g x y m2:=rfl
@[simp] theorem AaJ {g:D->Sto->Rs D}:e1 g a ro mu=bM (a ro mu) λx m1=>g x m1:=rfl
@[simp] theorem Aax:tV a ro mu=bM (a ro mu) λx m1=>(asB x).map λb=>(b,m1):=rfl
@[simp] theorem Zq {x:Bool}:asB (.bl x)=some x:=rfl
@[simp] theorem ZO {t:Tx}:tNt t ro mu=bM (t ro mu) λb m1=>some (!b,m1):=rfl
@[simp] theorem Zb {t u:Tx}:tAn t u ro mu=bM (t ro mu) λx m1=>if x=true then u ro m1 else some (false,m1):=rfl
@[simp] theorem Abl {t u:Tx}:tO t u ro mu=bM (t ro mu) λx m1=>if x=true then some (true,m1) else u ro m1:=rfl
@[simp] theorem Wz:tY ro mu=some (true,mu):=rfl
noncomputable def anB (b:Ex)(ro:Ro):D->Sto->Rs D
 | .bl c,m1=>if c=true then b ro m1 else some (.bl false,m1)
 | _,_=>none
noncomputable def oB (b:Ex)(ro:Ro):D->Sto->Rs D
 | .bl c,m1=>if c=true then some (.bl true,m1) else b ro m1
 | _,_=>none
theorem Aaw:eAn a b ro mu=bM (a ro mu) (anB b ro):=by
 unfold eAn
 congr 1
 funext x m
 cases x<;>rfl
theorem z_o:eO a b ro mu=bM (a ro mu) (oB b ro):=by
 unfold eO
 congr 1
 funext x m
 cases x<;>rfl
@[simp] theorem Aam:eAn a b ro mu=bM (a ro mu) (anB b ro):=Aaw
@[simp] theorem Aa9:eO a b ro mu=bM (a ro mu) (oB b ro):=z_o
@[simp] theorem ZL {x:Bool}:anB b ro (.bl x) mu=if x=true then b ro mu else some (.bl false,mu):=rfl
@[simp] theorem AaU {x:Bool}:oB b ro (.bl x) mu=if x=true then some (.bl true,mu) else b ro mu:=rfl
noncomputable def ntB:D->Sto->Rs D
 | .bl c,m1=>some (.bl (!c),m1)
 | _,_=>none
@[simp] theorem AaH:eNt a ro mu=bM (a ro mu) ntB:=by
 unfold eNt
 congr 1
 funext x m
 cases x<;>rfl
@[simp] theorem YI {x:Bool}:ntB (.bl x) mu=some (.bl (!x),mu):=rfl
@[simp] theorem AaW {t:Tx}:eIf t a b ro mu=bM (t ro mu) λx m1=>if x=true then a ro m1 else b ro m1:=rfl
@[simp] theorem Yh:B5 ro mu=some ([],mu):=rfl
@[simp] theorem Yc {r:Exs}:BY a r ro mu=bM (a ro mu) λx m1=>bM (r ro m1) λxs m2=>some (x::xs,m2):=rfl
@[simp] theorem Z1 {r:Exs}:CL r ro mu=bM (r ro mu) λxs m1=>some (.tup xs,m1):=rfl
@[simp] theorem YW {r:Exs}:GW r ro mu=bM (r ro mu) λxs m1=>some (.lst xs,m1):=rfl
@[simp] theorem XS {r:Exs}:HM r ro mu=bM (r ro mu) λxs m1=>some (.ref m1.length,m1++[.lst xs]):=rfl
@[simp] theorem Xx:Oa ro mu=some (.dct [] [],mu):=rfl
@[simp] theorem Xs:Zj ro mu=some (.ref mu.length,mu++[.dct [] []]):=rfl
@[simp] theorem Ww {f:Fn}{r:Exs}:B7 f r ro mu=bM (r ro mu) λxs m1=>f xs m1:=rfl
@[simp] theorem Aal:sNx ro mu=some ((.nx,ro),mu):=rfl
noncomputable def XJ (b:Sx):Fl×Ro->Sto->Rs (Fl×Ro)
 | (.nx,ro),m1=>b ro m1
 | p,m1=>some (p,m1)
@[simp] theorem Z4 {s t:Sx}:Cn s t ro mu=bM (s ro mu) (XJ t):=by
 unfold Cn
 congr 1
 funext p m
 obtain ⟨f,r⟩:=p
 cases f<;>rfl
@[simp] theorem XY {t:Sx}:XJ t (.nx,ro) mu=t ro mu:=rfl
@[simp] theorem Ya {t:Sx}:XJ t (.rt d,ro) mu=some ((.rt d,ro),mu):=rfl
@[simp] theorem Aa3:sRt a ro mu=bM (a ro mu) λd m1=>some ((.rt d,ro),m1):=rfl
@[simp] theorem AaS:sEx a ro mu=bM (a ro mu) λ_ m1=>some ((.nx,ro),m1):=rfl
@[simp] theorem Zu {t:Tx}{s u:Sx}:sIf t s u ro mu=bM (t ro mu) λx m1=>if x=true then s ro m1 else u ro m1:=rfl
@[simp] theorem Z7 {i:Nat}:gNm i d ro mu=some (ro.set i (some d),mu):=rfl
@[simp] theorem Aao:EB [] ro mu=some (ro,mu):=rfl
@[simp] theorem YS {g:Gx}{r:Gxs}{ds:List D}:Cy g r (d::ds) ro mu=bM (g d ro mu) λro' m1=>r ds ro' m1:=rfl
@[simp] theorem Xf {r:Gxs}{x y:D}:gTp 2 r (.tup [x,y]) ro mu=r [x,y] ro mu:=rfl
@[simp] theorem W4 {r:Gxs}{x y z:D}:gTp 3 r (.tup [x,y,z]) ro mu=r [x,y,z] ro mu:=rfl
@[simp] theorem Xk {r:Gxs}{x y z u:D}:gTp 4 r (.tup [x,y,z,u]) ro mu=r [x,y,z,u] ro mu:=rfl
@[simp] theorem Zx {g:Gx}:CM a g ro mu=bM (a ro mu) λd m1=>bM (g d ro m1) λro' m2=>some ((.nx,ro'),m2):=rfl
@[simp] theorem Wq {i j:Nat}{r:Exs}:VH i j r ro mu=bM (r ro mu) λds m1=>match ds with|[x,y]=>some ((.nx,(ro.set i (some x)).set j (some y)),m1)|_=>none:=rfl
@[simp] theorem Yw {i j k:Nat}{r:Exs}:Qj i j k r ro mu=bM (r ro mu) λds m1=>match ds with|[x,y,z]=>some ((.nx,((ro.set i (some x)).set j (some y)).set k (some z)),m1)|_=>none:=rfl
noncomputable def Ws:Fl×Ro->Sto->Rs D
 | (.rt d,_),m1=>some (d,m1)
 | (.nx,_),m1=>some (.non,m1)
 | _,_=>none
theorem Wn {n:Nat}{m:Sx}{ds:List D}:fnB n m ds mu=bM (m (ds.map some++List.replicate (n-ds.length) none) mu) Ws:=by
 unfold fnB
 congr 1
 funext p q
 obtain ⟨f,r⟩:=p
 cases f<;>rfl
@[simp] theorem XO:Ws (.rt d,ro) mu=some (d,mu):=rfl
@[simp] theorem Xh:Ws (.nx,ro) mu=some (.non,mu):=rfl
noncomputable def Aac (m0:Sto):Fl×Ro->Sto->Rs D
 | (.rt d,_),m1=>MY m0 m1 d
 | (.nx,_),m1=>MY m0 m1 .non
 | _,_=>none
theorem ZV {n:Nat}{m:Sx}{ds:List D}:fnG n m ds mu=bM (m (ds.map some++List.replicate (n-ds.length) none) mu) (Aac mu):=by
 unfold fnG
 congr 1
 funext p q
 obtain ⟨f,r⟩:=p
 cases f<;>rfl
@[simp] theorem V5 {m0:Sto}:Aac m0 (.rt d,ro) mu=MY m0 mu d:=rfl
@[simp] theorem Za {x:Ix}{g:Gx}{s:Sx}:Lc x g s ro mu=bM (x ro mu) λp m1=>Hc p.2 m1 g s p.1 ro m1:=rfl
noncomputable def PZ (m1:Sto):D->Rs (List D×Option Nat)
 | .tup ds=>some ((ds,none),m1)
 | .lst ds=>some ((ds,none),m1)
 | .str x=>some ((chars x,none),m1)
 | .ref k=>match m1[k]? with
  | some (.lst ds)=>some ((ds,some k),m1)
  | _=>none
 | _=>none
@[simp] theorem Aba:D0 a ro mu=bM (a ro mu) λd m1=>PZ m1 d:=by
 unfold D0
 congr 1
@[simp] theorem AaE {ds:List D}:PZ mu (.tup ds)=some ((ds,none),mu):=rfl
@[simp] theorem AaB {ds:List D}:PZ mu (.lst ds)=some ((ds,none),mu):=rfl
@[simp] theorem Abh {x:Str}:PZ mu (.str x)=some ((chars x,none),mu):=rfl
theorem QJ {r:Exs}{n:Int}{m:Sto}(h:r ro mu=some ([.int n],m))(h0:-(2 ^ 62)≤n)(h1:n≤(sizeLine:Int)):iRg r ro mu=some ((Fz 0 n.toNat,none),m):=by
 unfold iRg
 rw [h]
 simp only [bM,SI]
 rw [if_pos ⟨h0,h1⟩]
@[simp] theorem Abv {x:Ix}{nc:Nat}{fv:List Nat}{g:Gx}{t:Tx}:eLC x nc fv g t a ro mu=bM (x ro mu) λp m1=>bM (FD p.2 m1 g t a (r0 nc fv ro) p.1 m1) λys m2=>some (.lst ys,m2):=rfl
@[simp] theorem Abx {nc:Nat}{fv:List Nat}:r0 nc fv ro=List.replicate nc none++fv.map λk=>ro.getD k none:=rfl
noncomputable def nR:D->Bool
 | .ref _=>false
 | _=>true
@[simp] theorem UT {g g':D->D->Sto->Rs D}{c:Ex}:F9 g g' a b c ro mu=bM (a ro mu) λx m1=>bM (b ro m1) λy m2=>bM (g x y m2) λz m3=>match asB z with|none=>none|some k=>if k=true then bM (c ro m3) λw' m4=>g' y w' m4 else some (.bl false,m3):=rfl
@[simp] theorem Y0 {i j:Int}:leD (.int i) (.int j) mu=some (.bl (decide (i≤j)),mu):=rfl
@[simp] theorem YG {i j:Str}:leD (.str i) (.str j) mu=some (.bl (!decide (j.cps.toList<i.cps.toList)),mu):=rfl
@[simp] theorem ZD {i j:Int}:geD (.int i) (.int j) mu=some (.bl (decide (j≤i)),mu):=rfl
@[simp] theorem Zt {i j:Int}:gtD (.int i) (.int j) mu=some (.bl (decide (j<i)),mu):=rfl
@[simp] theorem Zs {i j:Int}:ltG (.int i) (.int j) mu=some (.bl (decide (i<j)),mu):=by
 unfold ltG
 rw [if_pos (by simp [toPy,PyData.depth])]
 rfl
@[simp] theorem Zi {i j:Str}:ltG (.str i) (.str j) mu=some (.bl (decide (i.cps.toList<j.cps.toList)),mu):=by
 unfold ltG
 rw [if_pos (by simp [toPy,PyData.depth])]
 rfl
@[simp] theorem Yx {i j:Int}:CO (.int i) (.int j) mu=some (.int (i+j),mu):=rfl
@[simp] theorem WO {i j:Int}:Lv (.int i) (.int j) mu=some (.int (i-j),mu):=rfl
theorem Kc {i j:Int}(h:0<j):GZ (.int i) (.int j) mu=some (.int (i % j),mu):=by unfold GZ;dsimp only;rw [if_pos h]
@[simp] theorem Tt {ds:List D}:DZ [.tup ds] mu=some (.int ds.length,mu):=rfl
@[simp] theorem Xu {ds:List D}:DZ [.lst ds] mu=some (.int ds.length,mu):=rfl
@[simp] theorem Xp {x:Str}:DZ [.str x] mu=some (.int x.length,mu):=rfl
@[simp] theorem Ym {ds:List D}:DZ [.set ds] mu=some (.int ds.length,mu):=rfl
@[simp] theorem Yr {ds:List D}:Fx [.lst ds] mu=some (.tup ds,mu):=rfl
@[simp] theorem XW {ds:List D}:Fx [.tup ds] mu=some (.tup ds,mu):=rfl
@[simp] theorem Wo {ds:List D}:Ls [.tup ds] mu=some (.lst ds,mu):=rfl
theorem Wl (h:eqB mu d e=some r):eqD d e mu=some (.bl r,mu):=by unfold eqD;rw [h];rfl
@[simp] theorem R9 {i j:Int}:eqD (.int i) (.int j) mu=some (.bl (decide (i=j)),mu):=by
 refine Wl ?_
 unfold eqB
 rw [if_pos (by simp [seen,CQ,toPy,PyData.depth])]
 simp only [seen,toPy,PyData.eqv]
 rfl
@[simp] theorem Ze {i j:Int}:neD (.int i) (.int j) mu=some (.bl (!decide (i=j)),mu):=by
 have:=@R9 mu i j
 unfold eqD at this
 unfold neD
 cases e:eqB mu (.int i) (.int j) with
 | none=>rw [e] at this;cases this
 | some r=>rw [e] at this;cases this;rfl
@[simp] theorem Zd {i j:Bool}:neD (.bl i) (.bl j) mu=some (.bl (i != j),mu):=by
 unfold neD eqB
 rw [if_pos (by simp [seen,CQ,toPy,PyData.depth])]
 simp only [seen,toPy,PyData.eqv]
 cases i<;>cases j<;>rfl
@[simp] theorem P0 {i j:Str}:eqD (.str i) (.str j) mu=some (.bl (decide (i=j)),mu):=by
 refine Wl ?_
 unfold eqB
 rw [if_pos (by simp [seen,CQ,toPy,PyData.depth])]
 simp only [seen,toPy,PyData.eqv]
 rfl
@[simp] theorem XE {ds:List D}:ixG (.tup (d::ds)) (.int 0) mu=some (d,mu):=by
 have:ixD (.tup (d::ds)) (.int 0) mu=some (d,mu):=by simp [ixD,atI,ixN]
 unfold ixG
 rw [this]
@[simp] theorem WX {ds:List D}{x:D}:ixG (.tup (x::d::ds)) (.int 1) mu=some (d,mu):=by
 have:ixD (.tup (x::d::ds)) (.int 1) mu=some (d,mu):=by
  have h:(1:Int)<((x::d::ds).length:Int):=by simp;omega
  simp only [ixD,atI,ixN,h,if_true]
  rfl
 unfold ixG
 rw [this]
@[simp] theorem XT {ds:List D}{x y:D}:ixG (.tup (x::y::d::ds)) (.int 2) mu=some (d,mu):=by
 have:ixD (.tup (x::y::d::ds)) (.int 2) mu=some (d,mu):=by
  have h:(2:Int)<((x::y::d::ds).length:Int):=by simp;omega
  simp only [ixD,atI,ixN,h,if_true]
  rfl
 unfold ixG
 rw [this]
@[simp] theorem W5 {ds:List D}:ixG (.lst (d::ds)) (.int 0) mu=some (d,mu):=by
 have:ixD (.lst (d::ds)) (.int 0) mu=some (d,mu):=by simp [ixD,atI,ixN,Du]
 unfold ixG
 rw [this]
theorem ZI {ds:List D}{j:Nat}(s:D)(hs:s=.lst ds∨s=.tup ds)(h:ds[j]? = some d):ixG s (.int j) mu=some (d,mu):=by
 obtain ⟨hl,e⟩:=Af.mp h
 have a:atI ds (j:Int)=some d:=by
  unfold atI ixN
  rw [if_pos (by omega),if_pos (by omega)]
  simpa using h
 unfold ixG
 rcases hs with rfl|rfl<;>simp [ixD,Du,a]
theorem YR {bs:List Bool}:GX [.lst (bs.map D.bl)] mu=some (.bl (bs.all id),mu):=by
 have:Kv (bs.map D.bl)=some bs:=by
  induction bs with
  | nil=>rfl
  | cons b bs ih=>simp [Kv,ih]
 simp [GX,quF,Du,this]
end
theorem JJ {m0:Sto}{tg:Gx}{tt:Tx}{el:Ex}{ro:Ro}{mu:Sto}(p:D->Bool)(g:D->D):∀ ds:List D,(∀ d∈ds,∃ ro1,tg d ro mu=some (ro1,mu)∧tt ro1 mu=some (p d,mu)∧(p d=true->el ro1 mu=some (g d,mu)))->FD none m0 tg tt el ro ds mu=some ((ds.filter p).map g,mu)
 | [],_=>rfl
 | d::ds,h=>by
  obtain ⟨ro1,e1,e2,e3⟩:=h d (.head _)
  have ih:=JJ (m0:=m0) p g ds λd' hd=>h d' (.tail _ hd)
  unfold FD
  rw [e1,FO,e2,FO]
  cases c:p d with
  | true=>rw [if_pos rfl,e3 c,FO,EY,if_pos (show gOk none m0 mu from True.intro),ih,FO,List.filter_cons_of_pos c,AM]
  | false=>rw [if_neg AB,EY,if_pos (show gOk none m0 mu from True.intro),ih,List.filter_cons_of_neg (by simp [c])]
theorem GV {m0:Sto}{tg:Gx}{el:Ex}{ro:Ro}{mu:Sto}(g:D->D)(ds:List D)(h:∀ d∈ds,∃ ro1,tg d ro mu=some (ro1,mu)∧el ro1 mu=some (g d,mu)):FD none m0 tg tY el ro ds mu=some (ds.map g,mu):=by
 have:=JJ (m0:=m0) (tg:=tg) (tt:=tY) (el:=el) (ro:=ro) (mu:=mu) (λ_=>true) g ds λd hd=>by
  obtain ⟨ro1,e1,e2⟩:=h d hd
  exact ⟨ro1,e1,rfl,λ_=>e2⟩
 rw [this,List.filter_eq_self.mpr (λ_ _=>rfl)]
theorem G8 {m0:Sto}{tg:Gx}{el:Ex}{ro:Ro}{mu:Sto}(g:D->Bool)(ds:List D)(h:∀ d∈ds,∃ ro1,tg d ro mu=some (ro1,mu)∧el ro1 mu=some (.bl (g d),mu)):FD none m0 tg tY el ro ds mu=some ((ds.map g).map D.bl,mu):=by
 rw [GV (λd=>.bl (g d)) ds h,AA]
 rfl
@[simp] theorem O0 {mu:Sto}{ds:List D}{g:D->Bool}:GX [.lst ((ds.map g).map D.bl)] mu=some (.bl (ds.all g),mu):=by
 rw [YR,List.all_map]
 rfl
end PV
namespace K1
open PySem L2 PyProof.Rows
noncomputable abbrev DW:Str:="abcdefghijklmnopqrstuvwxyz0123456789"
structure IsW (x:Str):Prop where
 lo:1≤x.length
 hi:x.length≤8
 al:∀ c∈x.cps.toList,c∈DW.cps.toList
theorem Ha:DW.cps.toList.length=36:=by decide +kernel
theorem RP:DW.cps.toList.Nodup:=by decide +kernel
theorem Z0 (c:Nat)(n:Int)(h0:0≤n)(h7:n≤7):MulOk ⟨#[c]⟩ n:=by
 have e:n=0∨n=1∨n=2∨n=3∨n=4∨n=5∨n=6∨n=7:=by omega
 have l:(⟨#[c]⟩:Str).length=1:=rfl
 unfold MulOk
 rw [l]
 rcases e with rfl|rfl|rfl|rfl|rfl|rfl|rfl|rfl<;>decide
theorem mul_list (c:Nat)(n:Int)(h0:0≤n)(h7:n≤7):(Txt.mul ⟨#[c]⟩ n).cps.toList=List.replicate n.toNat c:=by
 have e:n=0∨n=1∨n=2∨n=3∨n=4∨n=5∨n=6∨n=7:=by omega
 rcases e with rfl|rfl|rfl|rfl|rfl|rfl|rfl|rfl<;>rfl
theorem SJ {x:Str}{j:Int}(h0:0≤j)(h1:j≤x.length):(Txt.slice x none (some j)).cps.toList=x.cps.toList.take j.toNat:=by
 have h:=slice_closes_to (x:=x) (j:=j) ⟨h0,by simpa [Str.length] using h1⟩
 rw [eq_of_beq h]
 simp
theorem Pu {x:Str}{j:Int}(h0:0≤j)(h1:j≤x.length):(Txt.slice x (some j) none).cps.toList=x.cps.toList.drop j.toNat:=by
 rw [slice_from_eq h0 h1 rfl]
 apply List.take_of_length_le
 simp [Str.length]
 omega
noncomputable def wrd (A B:Str)(fi st:Int)(k:Nat):Str:=A++⟨#[DW.cps.toList.getD ((fi+st*k) % 36).toNat 0]⟩++B
theorem N2 (A B:Str)(fi st:Int)(k:Nat):(wrd A B fi st k).cps.toList=A.cps.toList++[DW.cps.toList.getD ((fi+st*k) % 36).toNat 0]++B.cps.toList:=by
 unfold wrd
 rw [Str.cps_append,Str.cps_append,Array.toList_append,Array.toList_append]
theorem Il {j:Int}(h0:0≤j)(h1:j<36):DW.cps.toList[j.toNat]? = some (DW.cps.toList.getD j.toNat 0):=by
 have h:j.toNat<DW.cps.toList.length:=by rw [Ha];omega
 rw [AF,As h]
 rfl
noncomputable def LN (st:Int):Prop:=st=1∨st=5∨st=7∨st=11∨st=13∨st=17
theorem Sj {fi st:Int}{j k:Nat}(hs:LN st)(hj:j<6)(hk:k<6)(e:(fi+st*j) % 36=(fi+st*k) % 36):j=k:=by
 rcases hs with rfl|rfl|rfl|rfl|rfl|rfl<;>omega
theorem Vu {A B:Str}{fi st:Int}{j k:Nat}(hs:LN st)(hj:j<6)(hk:k<6)(e:wrd A B fi st j=wrd A B fi st k):j=k:=by
 have h:=congrArg (λs:Str=>s.cps.toList) e
 simp only [N2,List.append_cancel_right_eq,List.append_cancel_left_eq,List.cons.injEq,and_true] at h
 refine Sj (fi:=fi) hs hj hk ?_
 have a0:=Bp (fi+st*j) (show (36:Int)≠0 by decide)
 have a1:=Bi (fi+st*j) (show (0:Int)<36 by decide)
 have b0:=Bp (fi+st*k) (show (36:Int)≠0 by decide)
 have b1:=Bi (fi+st*k) (show (0:Int)<36 by decide)
 have e1:=Il a0 a1
 have e2:=Il b0 b1
 rw [h,← e2] at e1
 have l1:((fi+st*j) % 36).toNat<DW.cps.toList.length:=by rw [Ha];omega
 have l2:((fi+st*k) % 36).toNat<DW.cps.toList.length:=by rw [Ha];omega
 rw [As l1,As l2] at e1
 have:=(List.getElem_inj RP).mp (AJ e1)
 omega
theorem VB {A B:Str}{fi st:Int}{k:Nat}{c:Nat}(hc:c∈DW.cps.toList)(hA:∀ x∈A.cps.toList,x=c)(hB:∀ x∈B.cps.toList,x=c)(hl:A.length+B.length≤7):IsW (wrd A B fi st k):=by
 have h:=N2 A B fi st k
 have hl':(wrd A B fi st k).length=A.length+1+B.length:=by
  unfold wrd
  rw [PySem.Str.length_append,PySem.Str.length_append]
  rfl
 refine ⟨by omega,by omega,λx hx=>?_⟩
 rw [h] at hx
 rcases AI.mp hx with hy|hy
 ·rcases AI.mp hy with hz|hz
  ·rw [hA x hz];exact hc
  ·rw [Al.mp hz]
   exact Ap (Il (Bp (fi+st*k) (show (36:Int)≠0 by decide)) (Bi (fi+st*k) (show (0:Int)<36 by decide)))
 ·rw [hB x hy];exact hc
noncomputable def OF (A B:Str)(fi st:Int)(n:Nat):List Str:=(List.range n).map (wrd A B fi st)
theorem U1 {A B:Str}{fi st:Int}{n:Nat}(hs:LN st)(hn:n≤6):(OF A B fi st n).Nodup:=by
 unfold OF
 rw [AX,List.pairwise_map]
 refine List.Pairwise.imp_of_mem (λ{a b} ha hb hne e=>hne ?_) (AX.mp List.nodup_range)
 exact Vu hs (Aw (BI.mp ha) hn) (Aw (BI.mp hb) hn) e
end K1
namespace PV
open PySem L2 PyProof.Rows K1
theorem T6 {j:Int}{mu:Sto}(h0:0≤j)(h1:j<36):ixD (.str DW) (.int j) mu=some (.str ⟨#[DW.cps.toList.getD j.toNat 0]⟩,mu):=by
 unfold ixD
 dsimp only
 have h:j.toNat<DW.cps.toList.length:=by rw [Ha];omega
 have e:ixN DW.cps.toList.length j=some j.toNat:=by unfold ixN;rw [if_pos h0,if_pos (by rw [Ha];exact h1)]
 unfold atI
 rw [e,Option.bind_some,Il h0 h1]
 rfl
theorem NZ {j:Int}{mu:Sto}(h0:0≤j)(h1:j<36):ixG (.str DW) (.int j) mu=some (.str ⟨#[DW.cps.toList.getD j.toNat 0]⟩,mu):=by
 unfold ixG
 rw [T6 h0 h1]
section
variable {ro:Ro} {mu:Sto} {d e:D} {a b c:Ex}
noncomputable def HS (T:String)(d:D)(m1:Sto):Rs D:=if EF m1 d=true then some (.bl (isi T d),m1) else none
@[simp] theorem YX {T:String}:GH T a ro mu=bM (a ro mu) (HS T):=rfl
@[simp] theorem Aah {T:String}:HS T .non mu=some (.bl ("NoneType"==T),mu):=by simp [HS,EF,isi,tyN]
@[simp] theorem YO {T:String}{x:Bool}:HS T (.bl x) mu=some (.bl ("bool"==T||T=="int"),mu):=by simp [HS,EF,isi,tyN]
@[simp] theorem ZQ {T:String}{x:Int}:HS T (.int x) mu=some (.bl ("int"==T),mu):=by simp [HS,EF,isi,tyN]
@[simp] theorem Aae {T:String}{x:Str}:HS T (.str x) mu=some (.bl ("str"==T),mu):=by simp [HS,EF,isi,tyN]
@[simp] theorem Z3 {T:String}{x:List D}:HS T (.tup x) mu=some (.bl ("tuple"==T),mu):=by simp [HS,EF,isi,tyN]
@[simp] theorem YK {T:String}{x:List D}:HS T (.lst x) mu=some (.bl ("list"==T),mu):=by simp [HS,EF,isi,tyN]
@[simp] theorem Zn {T:String}{x y:List D}:HS T (.dct x y) mu=some (.bl ("dict"==T),mu):=by simp [HS,EF,isi,tyN]
@[simp] theorem Z2 {T:String}{x:List D}:HS T (.set x) mu=some (.bl ("set"==T),mu):=by simp [HS,EF,isi,tyN]
@[simp] theorem Zy {x y:Bool}:isD (.bl x) (.bl y) mu=some (.bl (decide (x=y)),mu):=by cases x<;>cases y<;>rfl
@[simp] theorem WN {x y:Bool}:M0 (.bl x) (.bl y) mu=some (.bl (!decide (x=y)),mu):=by cases x<;>cases y<;>rfl
@[simp] theorem AaT {P:Prop} [Decidable P]{q:Bool}:(if P then some (D.bl q,mu) else some (D.bl false,mu))=some (D.bl (decide P&&q),mu):=by
 by_cases c:P<;>simp [c]
@[simp] theorem Abo {P:Prop} [Decidable P]{q:Bool}:(if P then some (D.bl true,mu) else some (D.bl q,mu))=some (D.bl (decide P||q),mu):=by
 by_cases c:P<;>simp [c]
@[simp] theorem Y9 {P:Prop} [Decidable P]{q:Bool}:(if P then some (q,mu) else some (false,mu))=some (decide P&&q,mu):=by
 by_cases c:P<;>simp [c]
@[simp] theorem Zp {P:Prop} [Decidable P]{q:Bool}:(if P then some (true,mu) else some (q,mu))=some (decide P||q,mu):=by
 by_cases c:P<;>simp [c]
@[simp] theorem Aa2 {p q:Px}:eSl a p q ro mu=bM (a ro mu) λd m1=>bM (p ro m1) λlo m2=>bM (q ro m2) λhi m3=>slD d lo hi m3:=rfl
@[simp] theorem YL:pNo ro mu=some (none,mu):=rfl
noncomputable def pB:D->Sto->Rs (Option Int)
 | .int i,m1=>some (some i,m1)
 | _,_=>none
@[simp] theorem Abf:F1 a ro mu=bM (a ro mu) pB:=by
 unfold F1
 congr 1
 funext x m
 cases x<;>rfl
@[simp] theorem Aa6 {i:Int}:pB (.int i) mu=some (some i,mu):=rfl
@[simp] theorem Aak {ds:List D}{lo hi:Option Int}:slD (.tup ds) lo hi mu=some (.tup (cutD ds lo hi),mu):=rfl
@[simp] theorem Aap {ds:List D}{lo hi:Option Int}:slD (.lst ds) lo hi mu=some (.lst (cutD ds lo hi),mu):=rfl
@[simp] theorem Xa {α:Type}{xs:List α}:cutD xs (some 1) none=xs.drop 1:=by
 unfold cutD
 have:=HT.NB xs.length 0 1
 rw [show (some (1:Int))=some ((1:Nat):Int) from rfl,this,HT.LA]
 cases xs with
 | nil=>rfl
 | cons a r=>simp
theorem ZE {x:Str}{n:Nat}:inG (.str ⟨#[n]⟩) (.str x) mu=some (.bl (decide (n∈x.cps.toList)),mu):=by
 have:inD (.str ⟨#[n]⟩) (.str x) mu=some (.bl (decide (n∈x.cps.toList)),mu):=by
  unfold inD inB
  simp only [seen,Option.map_some]
  rw [PySem.StrLaws.found_one]
 unfold inG
 rw [this]
theorem P4 {n:Nat}{ds:List D}:Gm n ds=true ↔ ∀ d∈ds,DF n d=true:=by
 induction ds with
 | nil=>simp [Gm]
 | cons d ds ih=>simp [Gm,ih]
mutual
theorem S9 {n m:Nat}(h:n≤m):∀ {d:D},DF n d=true->DF m d=true
 | .non,_=>rfl
 | .bl _,_=>rfl
 | .int _,_=>rfl
 | .str _,_=>rfl
 | .ref k,e=>by
  simp only [DF,Ae] at e ⊢
  omega
 | .tup ds,e=>by
  simp only [DF] at e ⊢
  exact Gk h e
 | .lst ds,e=>by
  simp only [DF] at e ⊢
  exact Gk h e
 | .set ds,e=>by
  simp only [DF] at e ⊢
  exact Gk h e
 | .dct ks ds,e=>by
  simp only [DF,Ab] at e ⊢
  exact ⟨Gk h e.1,Gk h e.2⟩
theorem Gk {n m:Nat}(h:n≤m):∀ {ds:List D},Gm n ds=true->Gm m ds=true
 | [],_=>rfl
 | d::ds,e=>by
  simp only [Gm,Ab] at e ⊢
  exact ⟨S9 h e.1,Gk h e.2⟩
end
theorem DO (h:DF 0 d=true):nR d=true:=by
 cases d<;>first|rfl|(simp [DF] at h)
end
end PV
namespace PV
open PySem L2 PyProof.Rows K1
variable {mu:Sto}
theorem strs_map (ss:List Str):strsOf (ss.map D.str)=some ss:=by
 induction ss with
 | nil=>rfl
 | cons x xs ih=>simp [strsOf,ih]
noncomputable def ndB (ds:List D):Bool:=decide (ds.Nodup)
theorem S2 (ds:List D):∀ r:List D,(ds.foldl E9 r).length≤r.length+ds.length∧((ds.foldl E9 r).length=r.length+ds.length->(∀ d∈ds,d∉r)∧ds.Nodup):=by
 induction ds with
 | nil=>intro r;simp
 | cons d ds ih =>
  intro r
  rw [List.foldl_cons]
  by_cases c:d∈r
  ·rw [show E9 r d=r by unfold E9;rw [if_pos c]]
   have:=(ih r).1
   refine ⟨by simp;omega,λh=>?_⟩
   simp at h
   omega
  ·rw [show E9 r d=r++[d] by unfold E9;rw [if_neg c]]
   obtain ⟨h1,h2⟩:=ih (r++[d])
   simp only [Aq,List.length_cons,List.length_nil] at h1 h2 ⊢
   refine ⟨by omega,λh=>?_⟩
   obtain ⟨h3,h4⟩:=h2 (by omega)
   refine ⟨λe he=>?_,Bo.mpr ⟨λhd=>h3 d hd (by simp),h4⟩⟩
   rcases An.mp he with rfl|he
   ·exact c
   ·exact λhr=>h3 e he (by simp [hr])
theorem Rb (ds:List D):∀ r:List D,(∀ d∈ds,d∉r)->ds.Nodup->ds.foldl E9 r=r++ds:=by
 induction ds with
 | nil=>intro r _ _;simp
 | cons d ds ih =>
  intro r h1 h2
  rw [List.foldl_cons,show E9 r d=r++[d] by unfold E9;rw [if_neg (h1 d (.head _))]]
  rw [Bo] at h2
  rw [ih (r++[d]) (λe he hr=>?_) h2.2]
  ·simp
  ·rcases AI.mp hr with hr|hr
   ·exact h1 e (.tail _ he) hr
   ·rw [Al.mp hr] at he
    exact h2.1 he
theorem M3 {ds:List D}(h:ds.Nodup):Fp ds=ds:=by
 unfold Fp
 rw [Rb ds [] (λ_ _ h=>nomatch h) h]
 rfl
theorem NK {ds:List D}:(Fp ds).length=ds.length ↔ ds.Nodup:=by
 constructor
 ·intro h
  refine ((S2 ds []).2 ?_).2
  rw [List.length_nil,Nat.zero_add]
  exact h
 ·intro h
  rw [M3 h]
theorem OO {ss:List Str}(h:ss.length<4000):J8 [.tup (ss.map D.str)] mu=some (.set (Fp (ss.map D.str)),mu):=by
 simp [J8,sq1,Im,G6,strs_map,h]
theorem WY {ss:List Str}(h:ss.length<4000):J8 [.lst (ss.map D.str)] mu=some (.set (Fp (ss.map D.str)),mu):=by
 simp [J8,sq1,Im,G6,Du,strs_map,h]
end PV
local macro_rules|`(tactic| simp_arith only [$ls,*])=>`(tactic| simp only [PV.RA,PV.Abq,PV.AaI,PV.Abk,PV.Abi,PV.AaF,PV.Aa1,PV.Aav,PV.Abr,PV.AaY,PV.AaX,PV.ZW,PV.YY,PV.ZJ,PV.Aai,PV.YT,PV.Zk,PV.z_C,PV.ZM,PV.AaJ,PV.Aax,PV.Zq,PV.ZO,PV.Zb,PV.Abl,PV.Wz,PV.Aam,PV.Aa9,PV.ZL,PV.AaU,PV.AaH,PV.YI,PV.AaW,PV.Yh,PV.Yc,PV.Z1,PV.YW,PV.XS,PV.Xx,PV.Xs,PV.Ww,PV.Aal,PV.Z4,PV.XY,PV.Ya,PV.Aa3,PV.AaS,PV.Zu,PV.Z7,PV.Aao,PV.YS,PV.Xf,PV.W4,PV.Xk,PV.Zx,PV.Wq,PV.Yw,PV.XO,PV.Xh,PV.V5,PV.Za,PV.Aba,PV.AaE,PV.AaB,PV.Abh,PV.Abv,PV.Abx,PV.UT,PV.Y0,PV.YG,PV.ZD,PV.Zt,PV.Zs,PV.Zi,PV.Yx,PV.WO,PV.Tt,PV.Xu,PV.Xp,PV.Ym,PV.Yr,PV.XW,PV.Wo,PV.R9,PV.Ze,PV.Zd,PV.P0,PV.XE,PV.WX,PV.XT,PV.W5,PV.O0,PV.YX,PV.Aah,PV.YO,PV.ZQ,PV.Aae,PV.Z3,PV.YK,PV.Zn,PV.Z2,PV.Zy,PV.WN,PV.AaT,PV.Abo,PV.Y9,PV.Zp,PV.Aa2,PV.YL,PV.Abf,PV.Aa6,PV.Aak,PV.Aap,PV.Xa,if_true,A4,reduceIte,AH,Bool.true_eq_false,↓reduceIte,List.set_cons_zero,List.set_cons_succ,AM,List.map_nil,List.length_cons,List.length_nil,Nat.reduceAdd,Nat.reduceSub,List.replicate_succ,List.replicate_zero,List.reduceReplicate,List.cons_append,List.nil_append,Option.map_some,Bool.not_true,Bool.not_false,PV.Wn,PV.ZV,List.getD_cons_zero,List.getD_cons_succ,Nat.zero_add,decide_true,decide_false,Bool.decide_eq_true,By,BA,Bool.true_or,Bool.false_or,Bool.or_false,Bq,String.reduceBEq,$ls,*])
namespace PG
open PySem L2 PV PyProof.Rows K1
variable {mu:Sto}
noncomputable def sgB (c:Nat):Bool:=decide (c∈DW.cps.toList)
noncomputable def sgs (x:Str):Bool:=x.cps.toList.all sgB
noncomputable def wB (x:Str):Bool:=(decide (1≤(x.length:Int))&&decide ((x.length:Int)≤8))&&sgs x
noncomputable def CD:D->Bool
 | .str x=>wB x
 | _=>false
theorem Df {x:Str}:wB x=true ↔ IsW x:=by
 unfold wB sgs
 simp only [Ab,Ae,Ao,sgB]
 constructor
 ·exact λ⟨⟨h1,h2⟩,h3⟩=>⟨by omega,by omega,h3⟩
 ·exact λh=>⟨⟨by have:=h.lo;omega,by have:=h.hi;omega⟩,h.al⟩
theorem Od {f:D->Bool}{x:Str}(h:∀ c,f (.str ⟨#[c]⟩)=sgB c):(chars x).all f=sgs x:=by
 unfold chars sgs
 rw [List.all_map]
 congr 1
 funext c
 exact h c
theorem JK (d:D)(h:nR d=true):Dq [d] mu=some (.bl (CD d),mu):=by
 cases d with
 | ref k=>cases h
 | str x =>
  have al:=G8 (m0:=mu) (tg:=gNm 0) (el:=B8 inG (B0 0) (eC (.str "abcdefghijklmnopqrstuvwxyz0123456789"))) (ro:=[none]) (mu:=mu) (λd=>match d with|.str y=>sgs y|_=>false) (chars x) (λd hd=>by
   unfold chars at hd
   obtain ⟨c,_,rfl⟩:=Ax.mp hd
   refine ⟨_,rfl,?_⟩
   have:=ZE (mu:=mu) (x:=DW) (n:=c)
   simp [sgB,sgs] at this ⊢
   exact this)
  have sg:=Od (x:=x) (f:=(λd=>match d with|.str y=>sgs y|_=>false)) (λc=>by simp [sgs])
  have W:CD (.str x)=((decide (1≤(x.length:Int))&&decide ((x.length:Int)≤8))&&sgs x):=rfl
  rw [W]
  simp_arith only [Dq,IC]
  cases h1:(decide (1≤(x.length:Int))&&decide ((x.length:Int)≤8))
  ·simp_arith only []
  ·simp_arith only [al,sg]
 | _=>simp_arith only [Dq,IC,CD]
noncomputable def Dg (lo hi:Int):D->Bool
 | .tup ds=>decide (lo≤(ds.length:Int))&&decide ((ds.length:Int)≤hi)
 | _=>false
theorem GB (d:D)(lo hi:Int)(h:nR d=true):De [d,.int lo,.int hi] mu=some (.bl (Dg lo hi d),mu):=by
 cases d with
 | ref k=>cases h
 | _=>simp_arith only [De,Jh,Dg]
noncomputable def MN:D->Bool
 | .tup ds=>ds.all CD
 | _=>false
theorem lows {n:Nat}{ds:List D}(h:DF n (.tup ds)=true):∀ d∈ds,DF n d=true:=P4.mp (by simpa [DF] using h)
theorem nRs {ds:List D}(h:DF 0 (.tup ds)=true):∀ d∈ds,nR d=true:=λd hd=>DO (lows h d hd)
theorem Sv (d:D)(h:DF 0 d=true):Dl [d] mu=some (.bl (MN d),mu):=by
 cases d with
 | ref k=>cases DO h
 | tup ds =>
  have al:=G8 (m0:=mu) (tg:=gNm 0) (el:=B7 Dq (BY (B0 0) B5)) (ro:=[none]) (mu:=mu) CD ds (λd hd=>⟨_,rfl,by simp_arith only [JK d (nRs h d hd)]⟩)
  simp_arith only [Dl,D1,MN,al]
 | _=>simp_arith only [Dl,D1,MN]
theorem IE {ds:List D}(h:ds.all CD=true):∃ ss:List Str,ds=ss.map D.str∧∀ x∈ss,IsW x:=by
 induction ds with
 | nil=>exact ⟨[],rfl,λ_ h=>nomatch h⟩
 | cons d ds ih =>
  rw [List.all_cons,Ab] at h
  obtain ⟨ss,rfl,hs⟩:=ih h.2
  cases d with
  | str x =>
   refine ⟨x::ss,rfl,λy hy=>?_⟩
   rcases An.mp hy with rfl|hy
   ·exact Df.mp h.1
   ·exact hs y hy
  | _=>simp [CD] at h
open Classical in
theorem M8 {ds:List D}{m:Sto}:(some (D.bl (decide (((Fp ds).length:Int)=(ds.length:Int))),m):Rs D)=some (D.bl (ndB ds),m):=by
 unfold ndB
 have:=@NK ds
 by_cases c:ds.Nodup
 ·rw [this.mpr c];simp [c]
 ·have c':¬ ((Fp ds).length:Int)=(ds.length:Int):=λe=>c (this.mp (by omega))
  simp [c,c']
theorem MT {ss:List Str}(h:ss.length<4000):Dc [.tup (ss.map D.str)] mu=some (.bl (ndB (ss.map D.str)),mu):=by
 simp_arith only [Dc,Gn,OO h]
 exact M8
theorem UP {ss:List Str}(h:ss.length<4000):Dc [.lst (ss.map D.str)] mu=some (.bl (ndB (ss.map D.str)),mu):=by
 simp_arith only [Dc,Gn,WY h]
 exact M8
noncomputable def Hn (d:D):Bool:=Dg 1 4 d&&(MN d&&match d with|.tup ds=>ndB ds|_=>false)
theorem YC (d:D)(h:DF 0 d=true):EC [d,.int 1,.int 4] mu=some (.bl (Hn d),mu):=by
 unfold Hn
 simp_arith only [EC,GS,GB d 1 4 (DO h)]
 cases c:Dg 1 4 d with
 | false=>simp_arith only []
 | true =>
  simp_arith only [Sv d h]
  cases c2:MN d with
  | false=>simp_arith only []
  | true =>
   cases d with
   | tup ds =>
    obtain ⟨ss,rfl,_⟩:=IE c2
    have l4:ss.length<4000:=by
     simp only [Dg,Ag,Ab,Ae] at c
     omega
    simp_arith only [MT l4]
   | _=>simp [MN] at c2
noncomputable def NU:D->Bool
 | .tup [a,b]=>CD a&&Hn b
 | _=>false
theorem YU {d:D}(h:Dg 2 2 d=true):∃ a b,d=.tup [a,b]:=by
 cases d with
 | tup ds =>
  simp only [Dg,Ab,Ae] at h
  match ds,h with
  | [a,b],_=>exact ⟨a,b,rfl⟩
  | [],h=>simp at h
  | [a],h=>simp at h
  | a::b::c::ds,h=>simp at h;omega
 | _=>simp [Dg] at h
theorem AaR {d:D}(h:Dg 3 3 d=true):∃ a b c,d=.tup [a,b,c]:=by
 cases d with
 | tup ds =>
  simp only [Dg,Ab,Ae] at h
  match ds,h with
  | [a,b,c],_=>exact ⟨a,b,c,rfl⟩
  | [],h=>simp at h
  | [a],h=>simp at h
  | [a,b],h=>simp at h
  | a::b::c::d::ds,h=>simp at h;omega
 | _=>simp [Dg] at h
noncomputable def DB:D->D
 | .tup (a::_)=>a
 | _=>.non
noncomputable def Wm:D->Bool
 | .tup ds=>(Dg 1 4 (.tup ds)&&ds.all NU)&&ndB (ds.map DB)
 | _=>false
theorem WS {m0:Sto}{ds:List D}{f:D->Bool}(hf:∀ d,f d=true->∃ a ds,d=.tup (a::ds)∧CD a=true)(h:ds.all f=true):FD none m0 (gNm 0) tY (B8 ixG (B0 0) (eC (.int 0))) [none] ds mu=some (ds.map DB,mu):=by
 refine GV DB ds λd hd=>⟨_,rfl,?_⟩
 rw [Ao] at h
 obtain ⟨a,r,rfl,w⟩:=hf d (h d hd)
 simp_arith only [DB]
noncomputable def ZR:D->Int
 | .tup ds=>ds.length
 | _=>0
noncomputable def WR (k c:D):Bool:=match k with
 | .int i=>decide (1≤i)&&decide (i≤ZR c)
 | _=>false
noncomputable def Nn:D->Bool
 | .tup [n,c,k]=>(CD n&&Wm c)&&WR k c
 | _=>false
noncomputable def ltS:D->D->Bool
 | .str x,.str y=>decide (x.cps.toList<y.cps.toList)
 | _,_=>false
noncomputable def LU (ds:List D):Bool:=(ds.zip ds.tail).all λp=>ltS p.1 p.2
noncomputable def Vh:D->Bool
 | .tup ds=>(Dg 1 4 (.tup ds)&&ds.all Nn)&&LU (ds.map DB)
 | _=>false
theorem XC (c:Nat):sgB c=((decide (97≤c)&&decide (c≤122))||(decide (48≤c)&&decide (c≤57))):=by
 have k:∀ c:Fin 128,sgB c.val=((decide (97≤c.val)&&decide (c.val≤122))||(decide (48≤c.val)&&decide (c.val≤57))):=by decide +kernel
 by_cases h:c<128
 ·exact k ⟨c,h⟩
 ·have a:DW.cps.toList.all (λx=>decide (x<128))=true:=by decide +kernel
  have e:sgB c=false:=by
   unfold sgB
   rw [AV]
   intro hm
   exact h (by simpa using Ao.mp a c hm)
  rw [e,AV (show ¬ c≤122 by omega),AV (show ¬ c≤57 by omega),BL,BL]
  rfl
theorem Z5 (a b:Nat):(!decide (([a]:List Nat)<[b]))=decide (b≤a):=by
 rw [Bool.eq_iff_iff]
 simp only [Bool.not_eq_true',decide_eq_false_iff_not,Ae,List.cons_lt_cons_iff,List.not_lt_nil,and_false,BG]
 omega
theorem Ky (d:D)(h:nR d=true):Dt [d] mu=some (.bl (CD d),mu):=by
 cases d with
 | ref k=>cases h
 | str x =>
  have al:=G8 (m0:=mu) (tg:=gNm 0) (el:=(eO (F9 leD leD (eC (.str "a")) (B0 0) (eC (.str "z"))) (F9 leD leD (eC (.str "0")) (B0 0) (eC (.str "9"))))) (ro:=[none]) (mu:=mu) (λd=>match d with|.str y=>sgs y|_=>false) (chars x) (λd hd=>by
   unfold chars at hd
   obtain ⟨c,_,rfl⟩:=Ax.mp hd
   refine ⟨_,rfl,?_⟩
   have ea:(Str.ofString "a").cps.toList=[97]:=rfl
   have ez:(Str.ofString "z").cps.toList=[122]:=rfl
   have e0:(Str.ofString "0").cps.toList=[48]:=rfl
   have e9:(Str.ofString "9").cps.toList=[57]:=rfl
   have ec:(⟨#[c]⟩:Str).cps.toList=[c]:=rfl
   have es:sgs ⟨#[c]⟩=sgB c:=by simp [sgs]
   simp_arith only [ea,ez,e0,e9,ec,Z5,es,XC])
  have sg:=Od (x:=x) (f:=(λd=>match d with|.str y=>sgs y|_=>false)) (λc=>by simp [sgs])
  have W:CD (.str x)=((decide (1≤(x.length:Int))&&decide ((x.length:Int)≤8))&&sgs x):=rfl
  rw [W]
  simp_arith only [Dt,FN]
  cases h1:(decide (1≤(x.length:Int))&&decide ((x.length:Int)≤8))
  ·simp_arith only []
  ·simp_arith only [al,sg]
 | _=>simp_arith only [Dt,FN,CD]
end PG
namespace PV
open PySem L2 PyProof.Rows K1
theorem Mr (ss:List Str):Em (ss.map D.str)=true:=by
 induction ss with
 | nil=>rfl
 | cons x xs ih=>simp [Em,CQ,ih]
theorem DI {ss:List Str}:(ss.map D.str).Nodup ↔ ss.Nodup:=by
 rw [AX,AX,List.pairwise_map]
 constructor
 ·exact λh=>h.imp λn e=>n (by rw [e])
 ·exact λh=>h.imp λn e=>n (by injection e)
end PV
namespace PG
open PySem L2 PV PyProof.Rows K1
variable {mu:Sto}
end PG
namespace PV
open PySem L2 PyProof.Rows K1
theorem N7 (ss:List Str):Iz (ss.map D.str)=true:=by
 induction ss with
 | nil=>rfl
 | cons x xs ih=>simp [Iz,hsh,ih]
theorem N5 (ss:List Str):PyData.depthAll (CG (ss.map D.str))≤1:=by
 induction ss with
 | nil=>simp [CG,PyData.depthAll]
 | cons x xs ih=>simp [CG,toPy,PyData.depthAll,PyData.depth];omega
theorem Qk (x y:Str):ltT (.str x) (.str y)=decide (x.cps.toList<y.cps.toList):=by
 unfold ltT
 rw [show Dd (.str x) (.str y)=HQ x y from rfl,Bool.eq_iff_iff,beq_iff_eq,GJ,Ae]
theorem Qx {ss:List Str}(h:ss.length<64):Ga (ss.map D.str)=true:=by
 unfold Ga
 simp only [Ab,Ae,Ag,Ao,Bool.or_eq_true,OA]
 refine ⟨⟨⟨h,λd hd=>?_⟩,λd hd e he=>?_⟩,.inl λd hd=>?_⟩
 ·obtain ⟨x,_,rfl⟩:=Ax.mp hd
  rfl
 ·obtain ⟨x,_,rfl⟩:=Ax.mp hd
  obtain ⟨y,_,rfl⟩:=Ax.mp he
  rfl
 ·obtain ⟨x,_,rfl⟩:=Ax.mp hd
  rfl
theorem Xg {ss:List Str}{mu:Sto}(h:ss.length<64):OB [.set (ss.map D.str)] mu=some (.lst (G2 (ss.map D.str)),mu):=by
 simp only [OB,Im,Ti,Qx h,if_true]
theorem W2 {ss:List Str}{mu:Sto}(h:ss.length<64):OB [.lst (ss.map D.str)] mu=some (.lst (G2 (ss.map D.str)),mu):=by
 simp only [OB,Im,Ti,G6,Du,Qx h,if_true]
theorem Vp {ss:List Str}{mu:Sto}(h:ss.length<64):Pf [.lst (ss.map D.str)] mu=some (.lst (G2 (ss.map D.str)),mu):=by
 unfold Pf
 rw [W2 h]
theorem Me {es:List D}{ss:List Str}(h:es.Perm (ss.map D.str)):∃ ts:List Str,es=ts.map D.str∧ts.Perm ss:=by
 have al:∀ d∈es,∃ x,d=D.str x:=λd hd=>by
  obtain ⟨x,_,e⟩:=Ax.mp (h.mem_iff.mp hd)
  exact ⟨x,e.symm⟩
 have:∃ ts:List Str,es=ts.map D.str:=by
  clear h
  induction es with
  | nil=>exact ⟨[],rfl⟩
  | cons d es ih =>
   obtain ⟨x,rfl⟩:=al d (.head _)
   obtain ⟨ts,rfl⟩:=ih λd hd=>al d (.tail _ hd)
   exact ⟨x::ts,rfl⟩
 obtain ⟨ts,rfl⟩:=this
 refine ⟨ts,rfl,?_⟩
 have:=h.map (λd=>match d with|.str x=>x|_=>(⟨#[]⟩:Str))
 simpa [AA,Function.comp_def] using this
end PV
namespace PG
open PySem L2 PV PyProof.Rows K1
variable {mu:Sto}
theorem O6:∀ (ss:List Str),LU (ss.map D.str)=true ↔ ss.Pairwise λx y=>x.cps.toList<y.cps.toList
 | []=>by simp [LU]
 | [x]=>by simp [LU]
 | x::y::ss=>by
  have ih:=O6 (y::ss)
  have e:LU ((x::y::ss).map D.str)=(decide (x.cps.toList<y.cps.toList)&&LU ((y::ss).map D.str)):=rfl
  rw [e,Ab,ih,Ae]
  constructor
  ·intro ⟨h1,h2⟩
   refine List.pairwise_cons.mpr ⟨λz hz=>?_,h2⟩
   rcases An.mp hz with rfl|hz
   ·exact h1
   ·exact List.lt_trans h1 ((List.pairwise_cons.mp h2).1 z hz)
  ·exact λh=>⟨(List.pairwise_cons.mp h).1 y (by simp),(List.pairwise_cons.mp h).2⟩
theorem Tz {ss:List Str}(h:ss.Pairwise λx y=>x.cps.toList<y.cps.toList):ss.Nodup:=by
 rw [AX]
 exact h.imp λl e=>by subst e;exact List.lt_irrefl _ l
theorem VE (ss:List Str):decide (ss.map D.str=G2 (Fp (ss.map D.str)))=LU (ss.map D.str):=by
 have ord:∀ (ts:List Str),∀ d∈ts.map D.str,HU d=true:=λts d hd=>by
  obtain ⟨x,_,rfl⟩:=Ax.mp hd
  rfl
 rw [Bool.eq_iff_iff,Ae,O6]
 constructor
 ·intro h
  have p:=EL (Fp (ss.map D.str))
  rw [← h] at p
  have nd:=NK.mp p.length_eq.symm
  have up:=Nm (Fp (ss.map D.str))
  rw [← h,List.pairwise_map] at up
  have ne:=AX.mp (DI.mp nd)
  refine (up.and ne).imp λ{x y} ⟨l,n⟩=>?_
  have l':¬ y.cps.toList<x.cps.toList:=by
   unfold leT at l
   rw [Qk] at l
   simpa using l
  have c:=JZ x y
  cases q:HQ x y with
  | lt=>exact GJ.mp q
  | eq=>exact (n (Ju.mp q)).elim
  | gt=>exact (l' (KW.mp q)).elim
 ·intro h
  rw [M3 (DI.mpr (Tz h))]
  refine K3 (ord ss) (List.Perm.refl _) ?_
  rw [List.pairwise_map]
  refine h.imp λ{x y} l=>?_
  unfold leT
  rw [Qk]
  have:=List.lt_asymm l
  simp [this]
end PG
namespace PV
open PySem L2 PyProof.Rows K1
variable {mu:Sto}
theorem Lj {i j:Int}(h:CMul i j):F6 (.int i) (.int j) mu=some (.int (i*j),mu):=by
 unfold F6
 dsimp only
 rw [if_pos h]
theorem SQ {i j:Int}(h:Nj i j):Lh (.int i) (.int j) mu=some (.int (i / j),mu):=by
 unfold Lh
 dsimp only
 rw [if_pos h]
theorem We {o i:Ex}{d:D}{ro:Ro}:gIx o i d ro mu=bM (o ro mu) λx m1=>bM (i ro m1) λe m2=>bM (putG x e d m2) λ_ m3=>some (ro,m3):=rfl
theorem Wg {k:Nat}{ds:List D}{v:D}{j:Nat}(h:mu[k]? = some (.lst ds))(hj:j<ds.length):putG (.ref k) (.int j) v mu=some ((),mu.set k (.lst (ds.set j v))):=by
 have e:ixN ds.length (j:Int)=some j:=by
  unfold ixN
  rw [if_pos (by omega),if_pos (by omega),Int.toNat_natCast]
 simp only [putG,h,VC,e]
theorem N3 {k:Nat}{ds:List D}{d:D}{j:Nat}(h:mu[k]? = some (.lst ds))(hd:ds[j]? = some d):ixG (.ref k) (.int j) mu=some (d,mu):=by
 have:=(Af.mp hd).1
 have e:ixN ds.length (j:Int)=some j:=by
  unfold ixN
  rw [if_pos (by omega),if_pos (by omega),Int.toNat_natCast]
 have:ixD (.ref k) (.int j) mu=some (d,mu):=by
  simp only [ixD,Du,h,atI,e,Option.bind_some,hd,Option.map_some]
 unfold ixG
 rw [this]
theorem JH {k:Nat}{o o':MO}(h:mu[k]? = some o):(mu.set k o')[k]? = some o':=by
 have:=(Af.mp h).1
 simp [this]
noncomputable def HandOk (mu:Sto)(k n:Nat):Prop:=∃ a b c:Int,mu[k]? = some (.lst [.int a,.int b,.int c])∧(-(2 ^ 63)<b∧b<2 ^ 63)∧0≤c∧c+n<2 ^ 40
theorem HandOk.mono {mu:Sto}{k n n':Nat}(h:HandOk mu k n)(l:n'≤n):HandOk mu k n':=by
 obtain ⟨a,b,c,h1,h2,h3,h4⟩:=h
 exact ⟨a,b,c,h1,h2,h3,by omega⟩
theorem HandOk.lt {k n:Nat}(h:HandOk mu k n):k<mu.length:=by
 obtain ⟨a,b,c,h1,_⟩:=h
 exact (Af.mp h1).1
noncomputable def Flat (mu:Sto):Prop:=∀ (j:Nat) (o:MO),mu[j]? = some o->Oc 0 o=true
structure Fr (k n:Nat) (mu mu':Sto):Prop where
 hand:HandOk mu' k n
 keep:∀ j,j≠k->mu'[j]? = mu[j]?
 len:mu'.length=mu.length
theorem Fr.refl {k n:Nat}{mu:Sto}(h:HandOk mu k n):Fr k n mu mu:=⟨h,λ_ _=>rfl,rfl⟩
theorem Fr.trans {k n n':Nat}{a b c:Sto}(x:Fr k n a b)(y:Fr k n' b c):Fr k n' a c:=⟨y.hand,λj hk=>(y.keep j hk).trans (x.keep j hk),y.len.trans x.len⟩
theorem Fr.mono {k n n':Nat}{a b:Sto}(x:Fr k n a b)(l:n'≤n):Fr k n' a b:=⟨x.hand.mono l,x.keep,x.len⟩
theorem Fr.flat {k n:Nat}{a b:Sto}(x:Fr k n a b)(h:Flat a):Flat b:=by
 intro j o e
 by_cases c:j=k
 ·subst c
  obtain ⟨_,_,_,h1,_⟩:=x.hand
  rw [h1] at e
  cases e
  rfl
 ·rw [x.keep j c] at e
  exact h j o e
noncomputable def Run (r:Rs D)(k n:Nat)(mu:Sto)(P:D->Prop):Prop:=∃ d mu',r=some (d,mu')∧Fr k n mu mu'∧P d
theorem Nt {ds:List D}{t:Int}(h0:0≤t)(h1:t<ds.length):∃ d,d∈ds∧ds[t.toNat]? = some d:=by
 have h:t.toNat<ds.length:=by omega
 exact ⟨ds[t.toNat],BW h,As h⟩
theorem L9 {ds:List D}{d:D}{t:Int}(s:D)(hs:s=.lst ds∨s=.tup ds)(h0:0≤t)(h:ds[t.toNat]? = some d):ixG s (.int t) mu=some (d,mu):=by
 have:=ZI (mu:=mu) s hs h
 rwa [Int.toNat_of_nonneg h0] at this
end PV
namespace PG
open PySem L2 PV PyProof.Rows K1
variable {mu:Sto}
theorem CY {k n:Nat}{m:Int}(h:HandOk mu k (n+1))(m0:0<m)(m1:m<1073741824):Run (Cg [.ref k,.int m] mu) k n mu λd=>∃ t:Int,d=.int t∧0≤t∧t<m:=by
 obtain ⟨a,b,c,h1,h2,h3,h4⟩:=h
 have hk:k<mu.length:=(Af.mp h1).1
 have fr:∀ a' c':Int,0≤c'->c'≤c+1->Fr k n mu (mu.set k (.lst [.int a',.int b,.int c'])):=λa' c' z1 z2=>⟨⟨a',b,c',JH h1,h2,z1,by omega⟩,λj hj=>by rw [AE (Ne.symm hj)],by simp⟩
 have i0:ixG (.ref k) (.int 0) mu=some (.int a,mu):=N3 (j:=0) h1 rfl
 by_cases ha:0<a
 ·refine ⟨.int (a % m),_,?_,fr (a / m) c h3 (by omega),a % m,rfl,Bp _ (by omega),Bi _ m0⟩
  have cd:Nj a m:=⟨m0,m1⟩
  have p0:∀ v,putG (.ref k) (.int 0) v mu=some ((),mu.set k (.lst [v,.int b,.int c])):=λv=>Wg (j:=0) h1 (by simp)
  have ha':decide (0<a)=true:=by simp [ha]
  simp_arith only [Cg,Hf,i0,ha',Kc m0,SQ cd,We,p0]
 ·refine ⟨.int (((b*(48271+2*(c+1)*(c+1)+65537*(c+1)) % 2305843009213693921*(b*(48271+2*(c+1)*(c+1)+65537*(c+1)) % 2305843009213693921 % 1000003+(c+1)*99991+11) % 2305843009213693907) / 97+(b*(48271+2*(c+1)*(c+1)+65537*(c+1)) % 2305843009213693921*(b*(48271+2*(c+1)*(c+1)+65537*(c+1)) % 2305843009213693921 % 1000003+(c+1)*99991+11) % 2305843009213693907) / 1000033) % m),_,?_,fr a (c+1) (by omega) (by omega),_,rfl,Bp _ (by omega),Bi _ m0⟩
  have hs:∀ o,(mu.set k o)[k]? = some o:=λo=>JH h1
  have c1:CMul 2 (c+1):=.inl ⟨by decide,by decide⟩
  have c2:CMul (2*(c+1)) (c+1):=.inl ⟨by omega,by omega⟩
  have c3:CMul 65537 (c+1):=.inl ⟨by decide,by decide⟩
  have c4:∀ z,CMul b z:=λz=>.inl ⟨by omega,by omega⟩
  have c5:CMul (c+1) 99991:=.inr ⟨by decide,by decide⟩
  have c6:∀ y z:Int,CMul (y % 2305843009213693921) z:=λy z=>.inl ⟨by omega,by omega⟩
  have c7:∀ y:Int,Nj y 97:=λy=>⟨by decide,by decide⟩
  have c8:∀ y:Int,Nj y 1000033:=λy=>⟨by decide,by decide⟩
  have i2:ixG (.ref k) (.int 2) mu=some (.int c,mu):=N3 (j:=2) h1 rfl
  have p2:∀ v,putG (.ref k) (.int 2) v mu=some ((),mu.set k (.lst [.int a,.int b,v])):=λv=>Wg (j:=2) h1 (by simp)
  have j1:∀ v,ixG (.ref k) (.int 1) (mu.set k (.lst [.int a,.int b,v]))=some (.int b,mu.set k (.lst [.int a,.int b,v])):=λv=>N3 (j:=1) (hs _) rfl
  have j2:∀ v,ixG (.ref k) (.int 2) (mu.set k (.lst [.int a,.int b,v]))=some (v,mu.set k (.lst [.int a,.int b,v])):=λv=>N3 (j:=2) (hs _) rfl
  have ha':decide (0<a)=false:=by simp [ha]
  simp_arith only [Cg,Hf,i0,ha',Kc,Kc m0,SQ,Lj,We,i2,p2,j1,j2,c1,c2,c3,c4,c5,c6,c7,c8,Int.reduceLT]
theorem pick_run {k n:Nat}{s:D}{ds:List D}(hs:s=.lst ds∨s=.tup ds)(hn:ds≠[])(hl:ds.length<1073741824)(h:HandOk mu k (n+1)):Run (CA [.ref k,s] mu) k n mu λd=>d∈ds:=by
 have pos:0<ds.length:=List.length_pos_iff.mpr hn
 obtain ⟨_,mu',e,fr,t,rfl,t0,t1⟩:=CY (m:=ds.length) h (by omega) (by omega)
 obtain ⟨d,hd,ed⟩:=Nt t0 t1
 refine ⟨d,mu',?_,fr,hd⟩
 have ix:=L9 (mu:=mu') s hs t0 ed
 rcases hs with rfl|rfl
 ·simp_arith only [CA,GF,e,ix]
 ·simp_arith only [CA,GF,e,ix]
theorem Ua:∀ c∈DW.cps.toList,decide (c<0x110000)=true:=by decide +kernel
theorem Lq {x:Str}(h:∀ c∈x.cps.toList,c∈DW.cps.toList):PyData.strOk x=true:=by
 unfold PyData.strOk
 rw [← Array.all_toList,Ao]
 exact λc hc=>Ua c (h c hc)
theorem SO {x y:Str}(h:x.length+y.length≤sizeLine):CO (.str x) (.str y) mu=some (.str (x++y),mu):=by
 simp only [CO,h,if_true]
theorem Wh {x:Str}{lo hi:Option Int}(h:PyData.strOk (Txt.slice x lo hi)=true):slD (.str x) lo hi mu=some (.str (Txt.slice x lo hi),mu):=by
 simp only [slD,h,if_true]
theorem J2 {k n:Nat}{many:Int}(m0:0≤many)(m6:many≤6)(h:HandOk mu k (n+5)):Run (Ez [.ref k,.int many,.int 8] mu) k n mu λd=>∃ ws:List Str,d=.lst (ws.map D.str)∧(ws.length:Int)=many∧ws.Nodup∧∀ x∈ws,IsW x:=by
 obtain ⟨_,mu1,e1,f1,fi,rfl,a0,a1⟩:=CY (m:=36) (n:=n+4) h (by decide) (by decide)
 obtain ⟨st,mu2,e2,f2,hst⟩:=pick_run (s:=.lst [.int 1,.int 5,.int 7,.int 11,.int 13,.int 17]) (n:=n+3) (.inl rfl) (by simp) (by decide) f1.hand
 obtain ⟨_,mu3,e3,f3,si,rfl,b0,b1⟩:=CY (m:=36) (n:=n+2) f2.hand (by decide) (by decide)
 obtain ⟨mv,mu4,e4,f4,hmv⟩:=pick_run (s:=.lst [.int 0,.int 1,.int 0,.int 2,.int 7]) (n:=n+1) (.inl rfl) (by simp) (by decide) f3.hand
 obtain ⟨s',rfl,hs⟩:∃ s':Int,st=.int s'∧LN s':=by
  simp only [An,AR,BG] at hst
  unfold LN
  rcases hst with rfl|rfl|rfl|rfl|rfl|rfl<;>exact ⟨_,rfl,by decide⟩
 obtain ⟨v,rfl,v0,v7⟩:∃ v:Int,mv=.int v∧0≤v∧v≤7:=by
  simp only [An,AR,BG] at hmv
  rcases hmv with rfl|rfl|rfl|rfl|rfl<;>exact ⟨_,rfl,by decide,by decide⟩
 have hmin:NX [.int 7,.int v] mu4=some (.int v,mu4):=by
  have:(if v<7 then v else 7)=v:=by split<;>omega
  simp only [NX,PV.ints2,Option.map_some,this]
 obtain ⟨ch,hc,ix3⟩:∃ ch,ch∈DW.cps.toList∧ixG (.str (Str.ofString "abcdefghijklmnopqrstuvwxyz0123456789")) (.int si) mu3=some (.str ⟨#[ch]⟩,mu3):=⟨_,Ap (Il b0 b1),NZ b0 b1⟩
 have len:(Txt.mul ⟨#[ch]⟩ v).length=v.toNat:=by
  have:=congrArg List.length (mul_list (ch) v v0 v7)
  simpa [Str.length] using this
 generalize hst:Txt.mul ⟨#[ch]⟩ v=stem at len
 have stl:stem.cps.toList=List.replicate v.toNat (ch):=by rw [← hst];exact mul_list _ v v0 v7
 have stAll:∀ x∈stem.cps.toList,x=ch:=λx hx=>by rw [stl] at hx;exact (List.mem_replicate.mp hx).2
 obtain ⟨_,mu5,e5,f5,at',rfl,c0,c1⟩:=CY (m:=(stem.length:Int)+1) (n:=n) f4.hand (by omega) (by omega)
 have at2:at'≤stem.length:=by omega
 have sl1:=SJ (x:=stem) c0 at2
 have sl2:=Pu (x:=stem) c0 at2
 have allA:∀ x∈(Txt.slice stem none (some at')).cps.toList,x=ch:=λx hx=>stAll x (by rw [sl1] at hx;exact List.mem_of_mem_take hx)
 have allB:∀ x∈(Txt.slice stem (some at') none).cps.toList,x=ch:=λx hx=>stAll x (by rw [sl2] at hx;exact List.mem_of_mem_drop hx)
 have lens:(Txt.slice stem none (some at')).length+(Txt.slice stem (some at') none).length≤7:=by
  have l1:=congrArg List.length sl1
  have l2:=congrArg List.length sl2
  simp only [Array.length_toList,Bb,List.length_drop] at l1 l2
  have ls:stem.cps.size=v.toNat:=len
  unfold Str.length
  omega
 refine ⟨.lst ((OF (Txt.slice stem none (some at')) (Txt.slice stem (some at') none) fi s' many.toNat).map D.str),mu5,?_,(((f1.trans f2).trans f3).trans f4).trans f5,_,rfl,by simp [OF];omega,U1 hs (by omega),λx hx=>?_⟩
 ·have mo:MulOk ⟨#[ch]⟩ v:=Z0 _ v v0 v7
  have okm:PyData.strOk stem=true:=Lq λc h=>by rw [stAll c h];exact hc
  have okA:PyData.strOk (Txt.slice stem none (some at'))=true:=Lq λc h=>by rw [allA c h];exact hc
  have okB:PyData.strOk (Txt.slice stem (some at') none)=true:=Lq λc h=>by rw [allB c h];exact hc
  have zl:stem.length≤sizeLine:=by rw [AL];omega
  have lc:FD none mu5 (gNm 0) tY (B8 CO (B8 CO (eSl (B0 1) pNo (F1 (B0 2))) (B8 ixG (B0 3) (B8 GZ (B8 CO (B0 4) (B8 F6 (B0 5) (B0 0))) (eC (.int 36))))) (eSl (B0 1) (F1 (B0 2)) pNo)) [none,some (.str stem),some (.int at'),some (.str DW),some (.int fi),some (.int s')] (Fz 0 many.toNat) mu5=some ((OF (Txt.slice stem none (some at')) (Txt.slice stem (some at') none) fi s' many.toNat).map D.str,mu5):=by
   have ew:(OF (Txt.slice stem none (some at')) (Txt.slice stem (some at') none) fi s' many.toNat).map D.str=(Fz 0 many.toNat).map λd=>match d with|.int i=>.str (wrd (Txt.slice stem none (some at')) (Txt.slice stem (some at') none) fi s' i.toNat)|_=>.non:=by
    unfold OF Fz
    rw [AA,AA]
    refine List.map_congr_left λj _=>?_
    simp
   rw [ew]
   refine GV _ _ λd hd=>⟨_,rfl,?_⟩
   unfold Fz at hd
   obtain ⟨j,hj,rfl⟩:=Ax.mp hd
   have i0:=Bp (fi+s'*(j:Int)) (show (36:Int)≠0 by decide)
   have i1:=Bi (fi+s'*(j:Int)) (show (0:Int)<36 by decide)
   have ix:=NZ (mu:=mu5) i0 i1
   have cm:CMul s' (j:Int):=.inl (by rcases hs with rfl|rfl|rfl|rfl|rfl|rfl<;>exact ⟨by decide,by decide⟩)
   have z1:(Txt.slice stem none (some at')).length+(⟨#[DW.cps.toList.getD ((fi+s'*(j:Int)) % 36).toNat 0]⟩:Str).length≤sizeLine:=by
    rw [AL,show (⟨#[DW.cps.toList.getD ((fi+s'*(j:Int)) % 36).toNat 0]⟩:Str).length=1 from rfl]
    omega
   have z2:(Txt.slice stem none (some at')++(⟨#[DW.cps.toList.getD ((fi+s'*(j:Int)) % 36).toNat 0]⟩:Str)).length+(Txt.slice stem (some at') none).length≤sizeLine:=by
    rw [AL,PySem.Str.length_append,show (⟨#[DW.cps.toList.getD ((fi+s'*(j:Int)) % 36).toNat 0]⟩:Str).length=1 from rfl]
    omega
   simp_arith only [Wh okA,Wh okB,Lj cm,Kc,Int.reduceLT,Int.zero_add,ix,SO z1,SO z2,Int.toNat_natCast]
   rfl
  have mm:F6 (.str ⟨#[ch]⟩) (.int v) mu4=some (.str stem,mu4):=by
   unfold F6
   dsimp only
   rw [hst,if_pos ⟨mo,zl,okm⟩]
  have rg:=QJ (mu:=mu5) (ro:=[some (.ref k),some (.int many),some (.int 8),some (.str DW),some (.int fi),some (.int s'),some (.str stem),some (.int at')]) (r:=BY (B0 1) B5) (n:=many) (m:=mu5) rfl (by omega) (by rw [AL];omega)
  have rg':iRg (BY (B0 1) B5) [some (.ref k),some (.int many),some (.int 8),some (.str (Str.ofString "abcdefghijklmnopqrstuvwxyz0123456789")),some (.int fi),some (.int s'),some (.str stem),some (.int at')] mu5=some ((Fz 0 many.toNat,none),mu5):=rg
  simp_arith only [Ez,Ij,e1,e2,e3,ix3,Int.reduceSub,e4,hmin,mm,e5,rg',lc]
 ·unfold OF at hx
  obtain ⟨j,_,rfl⟩:=Ax.mp hx
  exact VB hc allA allB lens
theorem Sa {k n:Nat}{ns:List Int}(hk:k<64)(hn:n<2 ^ 39):∃ o,EZ [.lst (ns.map D.int),.int k] mu=some (.ref mu.length,mu++[o])∧HandOk (mu++[o]) mu.length n:=by
 have fin:∀ c:Int,∃ a b:Int,sRt (HM (BY (B8 F6 (B0 2) (B7 Tn (BY (B8 geD (B0 2) (B8 TQ (eC (.int 10)) (eC (.int 18)))) B5))) (BY (B8 CO (B8 CO (B8 GZ (B0 2) (eC (.int 2305843009213693951))) (B8 F6 (eC (.int 7919)) (B0 1))) (eC (.int 3))) (BY (eC (.int 0)) B5)))) [some (.lst (ns.map D.int)),some (.int k),some (.int c)] mu=some ((.rt (.ref mu.length),[some (.lst (ns.map D.int)),some (.int k),some (.int c)]),mu++[.lst [.int a,.int b,.int 0]])∧(-(2 ^ 63)<b∧b<2 ^ 63):=by
  intro c
  refine ⟨c*(if (1000000000000000000:Int)≤c then 1 else 0),c % 2305843009213693951+7919*(k:Int)+3,?_,?_⟩
  ·have p1:Rk 10 18:=⟨by decide,by decide,by decide⟩
   have p3:CMul 7919 (k:Int):=.inl ⟨by decide,by decide⟩
   have p4:CMul c (if (1000000000000000000:Int)≤c then 1 else 0):=.inr (by split<;>exact ⟨by decide,by decide⟩)
   simp [sRt,HM,BY,B5,B8,B0,B7,eC,bM,geD,Ss,TQ,p1,Tn,intOf,F6,p3,CO,GZ,p4]
  ·have:=Bp c (show (2305843009213693951:Int)≠0 by decide)
   have:=Bi c (show (0:Int)<2305843009213693951 by decide)
   omega
 have done:∀ (a b:Int),(-(2 ^ 63)<b∧b<2 ^ 63)->HandOk (mu++[.lst [.int a,.int b,.int 0]]) mu.length n:=λa b hb=>⟨a,b,0,by simp,hb,Int.le_refl _,by omega⟩
 by_cases c:k<ns.length
 ·have e:ixG (.lst (ns.map D.int)) (.int k) mu=some (.int ns[k],mu):=ZI _ (.inl rfl) (by simp [c])
  obtain ⟨a,b,e2,hb⟩:=fin ns[k]
  refine ⟨_,?_,done a b hb⟩
  have c':decide ((k:Int)<((ns.map D.int).length:Int))=true:=by simp [c]
  generalize hR:sRt (HM _)=R at e2
  simp only [EZ,HJ,hR]
  simp_arith only [c',e,e2]
 ·obtain ⟨a,b,e2,hb⟩:=fin 0
  refine ⟨_,?_,done a b hb⟩
  have c':decide ((k:Int)<((ns.map D.int).length:Int))=false:=by simp [c]
  generalize hR:sRt (HM _)=R at e2
  simp only [EZ,HJ,hR]
  simp_arith only [c',e2]
end PG
namespace PV
open PySem L2 PyProof.Rows K1
variable {mu:Sto}
theorem Hm {m0:Sto}{tg:Gx}{body:Sx}(Inv:Nat->Ro->Sto->Prop):∀ (ds:List D) (i:Nat) (ro:Ro) (mu:Sto),Inv i ro mu->(∀ j d ro mu,ds[j]? = some d->Inv (i+j) ro mu->∃ ro1 m1 ro2 m2,tg d ro mu=some (ro1,m1)∧body ro1 m1=some ((.nx,ro2),m2)∧Inv (i+j+1) ro2 m2) ->
  ∃ ro' mu',Hc none m0 tg body ds ro mu=some ((.nx,ro'),mu')∧Inv (i+ds.length) ro' mu'
 | [],i,ro,mu,h,_=>⟨ro,mu,rfl,h⟩
 | d::ds,i,ro,mu,h,st=>by
  obtain ⟨ro1,m1,ro2,m2,e1,e2,h2⟩:=st 0 d ro mu rfl h
  obtain ⟨ro',mu',e3,h3⟩:=Hm (m0:=m0) (tg:=tg) (body:=body) Inv ds (i+1) ro2 m2 h2 λj d' ro mu ed hi=>by
   have:=st (j+1) d' ro mu (by simpa using ed) (by rw [show i+(j+1)=i+1+j by omega];exact hi)
   rw [show i+(j+1)+1=i+1+j+1 by omega] at this
   exact this
  refine ⟨ro',mu',?_,by rw [List.length_cons,show i+(ds.length+1)=i+1+ds.length by omega];exact h3⟩
  unfold Hc
  rw [e1,FO,e2,FO]
  dsimp only
  rw [EY,if_pos (show gOk none m0 m2 from True.intro),e3]
theorem NG {n j:Nat}{d:D}(h:(Fz 0 n)[j]? = some d):d=.int j∧j<n:=by
 unfold Fz at h
 rw [Au] at h
 cases q:(List.range n)[j]? with
 | none=>rw [q] at h;cases h
 | some k =>
  rw [q] at h
  obtain ⟨hj,e⟩:=Af.mp q
  rw [List.length_range] at hj
  rw [List.getElem_range] at e
  subst e
  exact ⟨by simpa using h.symm,hj⟩
theorem K7 (n:Nat):(Fz 0 n).length=n:=by simp [Fz]
theorem append_at {mu':Sto}{r:Nat}{ds ds0:List D}{y:D}(h0:mu[r]? = some (.lst ds0))(h:mu'[r]? = some (.lst ds))(hl:ds.length<sizeLine){ro:Ro}{i:Nat}{e:Ex}(h1:B0 i ro mu=some (.ref r,mu))(h2:e ro mu=some (y,mu')):NR (B0 i) (BY e B5) ro mu=some (.non,mu'.set r (.lst (ds++[y]))):=by
 have ok:EF mu (.ref r)=true:=by simp [EF,h0]
 have a1:Im [y]=some y:=rfl
 simp only [NR,h1,RA,ok,if_true,Yc,Yh,h2,a1,h,hl]
theorem UO {n x y:Int}(hn:0<n)(h:x % n=y % n)(h1:x-y<n)(h2:y-x<n):x=y:=by
 have e1:=Int.mul_ediv_add_emod x n
 have e2:=Int.mul_ediv_add_emod y n
 have e:n*(x / n-y / n)=x-y:=by rw [Int.mul_sub];omega
 rcases Int.lt_trichotomy (x / n-y / n) 0 with c|c|c
 ·have:n*(x / n-y / n)≤n*(-1):=Int.mul_le_mul_of_nonneg_left (by omega) (by omega)
  omega
 ·rw [c] at e
  omega
 ·have:n*1≤n*(x / n-y / n):=Int.mul_le_mul_of_nonneg_left (by omega) (by omega)
  omega
noncomputable def rot (ws:List Str)(t:Int)(s:Nat):List Str:=(List.range s).map λj:Nat=>ws.getD (((j:Int)+t) % (ws.length:Int)).toNat ⟨#[]⟩
theorem LB {ws:List Str}(hw:0<ws.length)(x:Int):ws[(x % (ws.length:Int)).toNat]? = some (ws.getD (x % (ws.length:Int)).toNat ⟨#[]⟩):=by
 have h0:=Bp x (show (ws.length:Int)≠0 by omega)
 have h1:=Bi x (show (0:Int)<ws.length by omega)
 have h:(x % (ws.length:Int)).toNat<ws.length:=by omega
 rw [AF,As h]
 rfl
theorem Qb {ws:List Str}{t:Int}{s:Nat}(hw:0<ws.length):∀ x∈rot ws t s,x∈ws:=by
 intro x hx
 unfold rot at hx
 obtain ⟨j,_,rfl⟩:=Ax.mp hx
 exact Ap (LB hw _)
theorem Si {ws:List Str}{t:Int}{s:Nat}(hw:0<ws.length)(hd:ws.Nodup)(hs:s≤ws.length):(rot ws t s).Nodup:=by
 unfold rot
 rw [AX,List.pairwise_map]
 refine List.Pairwise.imp_of_mem (λ{a b} ha hb hne e=>hne ?_) (AX.mp List.nodup_range)
 rw [BI] at ha hb
 have a0:=Bp ((a:Int)+t) (show (ws.length:Int)≠0 by omega)
 have a1:=Bi ((a:Int)+t) (show (0:Int)<ws.length by omega)
 have b0:=Bp ((b:Int)+t) (show (ws.length:Int)≠0 by omega)
 have b1:=Bi ((b:Int)+t) (show (0:Int)<ws.length by omega)
 have e1:=LB hw ((a:Int)+t)
 have e2:=LB hw ((b:Int)+t)
 rw [e,← e2] at e1
 have l1:(((a:Int)+t) % (ws.length:Int)).toNat<ws.length:=by omega
 have l2:(((b:Int)+t) % (ws.length:Int)).toNat<ws.length:=by omega
 rw [As l1,As l2] at e1
 have h:=(List.getElem_inj hd).mp (AJ e1)
 have:=UO (n:=ws.length) (x:=(a:Int)+t) (y:=(b:Int)+t) (by omega) (by omega) (by omega) (by omega)
 omega
theorem Nr (ws:List Str)(t:Int)(s:Nat):(rot ws t s).length=s:=by simp [rot]
theorem Tv {ws:List Str}(hw:0<ws.length)(x:Int):ixG (.lst (ws.map D.str)) (.int (x % (ws.length:Int))) mu=some (.str (ws.getD (x % (ws.length:Int)).toNat ⟨#[]⟩),mu):=by
 have h0:=Bp x (show (ws.length:Int)≠0 by omega)
 refine L9 (ds:=ws.map D.str) _ (.inl rfl) h0 ?_
 rw [Au,LB hw]
 rfl
mutual
noncomputable def okD:D->Bool
 | .ref _=>false
 | .tup ds=>decide (ds.length≤1000)&&okL ds
 | .lst ds=>okL ds
 | .dct ks ds=>okL ks&&okL ds
 | .set ds=>okL ds
 | _=>true
noncomputable def okL:List D->Bool
 | []=>true
 | d::ds=>okD d&&okL ds
end
mutual
theorem Ug:∀ {d:D},okD d=true->DF 0 d=true
 | .non,_=>rfl
 | .bl _,_=>rfl
 | .int _,_=>rfl
 | .str _,_=>rfl
 | .ref k,e=>by simp [okD] at e
 | .tup ds,e=>by
  simp only [okD,Ab] at e
  simp only [DF]
  exact Hq e.2
 | .lst ds,e=>by
  simp only [okD] at e
  simp only [DF]
  exact Hq e
 | .set ds,e=>by
  simp only [okD] at e
  simp only [DF]
  exact Hq e
 | .dct ks ds,e=>by
  simp only [okD,Ab] at e
  simp only [DF,Ab]
  exact ⟨Hq e.1,Hq e.2⟩
theorem Hq:∀ {ds:List D},okL ds=true->Gm 0 ds=true
 | [],_=>rfl
 | d::ds,e=>by
  simp only [okL,Ab] at e
  simp only [Gm,Ab]
  exact ⟨Ug e.1,Hq e.2⟩
end
theorem MS {ds:List D}:okL ds=true ↔ ∀ d∈ds,okD d=true:=by
 induction ds with
 | nil=>simp [okL]
 | cons d ds ih=>simp [okL,ih]
theorem P5 (ss:List Str):okL (ss.map D.str)=true:=by
 rw [MS]
 intro d hd
 obtain ⟨x,_,rfl⟩:=Ax.mp hd
 rfl
end PV
namespace PG
open PySem L2 PV PyProof.Rows K1
variable {mu:Sto}
theorem QK {ss:List Str}(h0:0<ss.length)(h4:ss.length≤4)(hd:ss.Nodup)(hw:∀ x∈ss,IsW x):Hn (.tup (ss.map D.str))=true:=by
 have W:Hn (.tup (ss.map D.str))=(Dg 1 4 (.tup (ss.map D.str))&&((ss.map D.str).all CD&&ndB (ss.map D.str))):=rfl
 rw [W]
 simp only [Ab,Dg,Ag,Ae,Ao,ndB]
 refine ⟨⟨by omega,by omega⟩,λd hd=>?_,DI.mpr hd⟩
 obtain ⟨x,hx,rfl⟩:=Ax.mp hd
 exact Df.mpr (hw x hx)
noncomputable def Mn:Sx:=(Cn (CM (CL (BY (B8 CO (eC (.int 1)) (B7 Cg (BY (B0 0) (BY (B0 3) B5)))) (BY (B7 Cg (BY (B0 0) (BY (eC (.int 2)) B5))) B5))) (gTp 2 (Cy (gNm 13) (Cy (gNm 14) EB)))) (Cn (CM (B7 Fx (BY (eLC (iRg (BY (B0 13) B5)) 1 [6,14] (gNm 0) (tY) (B8 ixG (B0 1) (B8 GZ (B8 CO (B0 0) (B0 2)) (B7 DZ (BY (B0 1) B5))))) B5)) (gNm 15)) (sEx (NR (B0 11) (BY (CL (BY (B8 ixG (B0 5) (B8 GZ (B8 CO (B0 12) (B0 10)) (B7 DZ (BY (B0 5) B5)))) (BY (B0 15) B5))) B5)))))
noncomputable def inS (cs:List Str):D->Bool
 | .str x=>decide (x∈cs)
 | _=>false
theorem Ue {k n R b c j:Nat}{sh:Int}{a nms fnd nm1 x9:D}{ws st:List Str}{cs:List D}{x13 x14 x15:Option D}(hc:1≤c)(hc4:c≤4)(hw:0<ws.length)(hs:st.length=c+1)(sd:st.Nodup)(sW:∀ x∈st,IsW x)(hR:mu[R]? = some (.lst cs))(hcs:cs.length<100)(hkR:R≠k)(h:HandOk mu k (n+2)) :
  ∃ y13 y14 y15 m' vs,Mn [some (.ref k),some a,some (.int b),some (.int c),some nms,some (.lst (ws.map D.str)),some (.lst (st.map D.str)),some fnd,some nm1,some x9,some (.int sh),some (.ref R),some (.int j),x13,x14,x15] mu=some ((.nx,[some (.ref k),some a,some (.int b),some (.int c),some nms,some (.lst (ws.map D.str)),some (.lst (st.map D.str)),some fnd,some nm1,some x9,some (.int sh),some (.ref R),some (.int j),y13,y14,y15]),m') ∧
   m'[R]? = some (.lst (cs++[.tup [.str (ws.getD (((j:Int)+sh) % (ws.length:Int)).toNat ⟨#[]⟩),.tup vs]]))∧Hn (.tup vs)=true∧(okD (.tup vs)=true∧vs.all (inS st)=true)∧HandOk m' k n∧(∀ i,i≠k->i≠R->m'[i]? = mu[i]?)∧m'.length=mu.length:=by
 obtain ⟨_,m1,e1,f1,t1,rfl,a0,a1⟩:=CY (m:=c) (n:=n+1) h (by omega) (by omega)
 obtain ⟨_,m2,e2,f2,t2,rfl,b0,b1⟩:=CY (m:=2) (n:=n) f1.hand (by decide) (by decide)
 have fr:=f1.trans f2
 have hR2:m2[R]? = some (.lst cs):=(fr.keep R hkR).trans hR
 have st0:0<st.length:=by omega
 obtain ⟨s,hs1⟩:∃ s:Nat,1+t1=(s:Int):=⟨(1+t1).toNat,by omega⟩
 have lc:FD none m2 (gNm 0) tY (B8 ixG (B0 1) (B8 GZ (B8 CO (B0 0) (B0 2)) (B7 DZ (BY (B0 1) B5)))) [none,some (.lst (st.map D.str)),some (.int t2)] (Fz 0 s) m2=some ((rot st t2 s).map D.str,m2):=by
  have e:(rot st t2 s).map D.str=(Fz 0 s).map λd=>match d with|.int i=>.str (st.getD ((i+t2) % (st.length:Int)).toNat ⟨#[]⟩)|_=>.non:=by
   unfold rot Fz
   rw [AA,AA]
   refine List.map_congr_left λj _=>?_
   simp
  rw [e]
  refine GV _ _ λd hd=>⟨_,rfl,?_⟩
  unfold Fz at hd
  obtain ⟨i,_,rfl⟩:=Ax.mp hd
  have l0:(0:Int)<(st.length:Int):=by omega
  simp_arith only [Ag,Kc l0,Tv st0,Int.zero_add]
 have rg:=QJ (mu:=m2) (ro:=[some (.ref k),some a,some (.int b),some (.int c),some nms,some (.lst (ws.map D.str)),some (.lst (st.map D.str)),some fnd,some nm1,some x9,some (.int sh),some (.ref R),some (.int j),some (.int s),some (.int t2),x15]) (r:=BY (B0 13) B5) (n:=s) (m:=m2) rfl (by omega) (by rw [AL];omega)
 rw [Int.toNat_natCast] at rg
 have l6:(0:Int)<(ws.length:Int):=by omega
 have ap:=append_at (ro:=[some (.ref k),some a,some (.int b),some (.int c),some nms,some (.lst (ws.map D.str)),some (.lst (st.map D.str)),some fnd,some nm1,some x9,some (.int sh),some (.ref R),some (.int j),some (.int s),some (.int t2),some (.tup ((rot st t2 s).map D.str))]) (i:=11) hR2 hR2 (y:=.tup [.str (ws.getD (((j:Int)+sh) % (ws.length:Int)).toNat ⟨#[]⟩),.tup ((rot st t2 s).map D.str)]) (by rw [AL];omega) rfl (e:=(CL (BY (B8 ixG (B0 5) (B8 GZ (B8 CO (B0 12) (B0 10)) (B7 DZ (BY (B0 5) B5)))) (BY (B0 15) B5)))) (by
  simp_arith only [Ag,Kc l6,Tv hw])
 refine ⟨some (.int s),some (.int t2),some (.tup ((rot st t2 s).map D.str)),_,(rot st t2 s).map D.str,?_,JH hR2,QK (by rw [Nr];omega) (by rw [Nr];omega) (Si st0 sd (by omega)) (λx hx=>sW x (Qb st0 x hx)),?_,?_,?_,?_⟩
 ·unfold Mn
  simp_arith only [e1,e2,hs1,rg,lc,ap]
 ·refine ⟨?_,?_⟩
  ·simp only [okD,P5,Ag,Nr,Bq,Ae]
   omega
  ·rw [List.all_map,Ao]
   intro x hx
   simpa [inS] using Qb st0 x hx
 ·obtain ⟨a,b,c',h1,h2⟩:=f2.hand
  exact ⟨a,b,c',by rw [AE hkR];exact h1,h2⟩
 ·intro i hik hiR
  rw [AE (Ne.symm hiR),fr.keep i hik]
 ·rw [List.length_set,fr.len]
end PG
namespace PV
open PySem L2 PyProof.Rows K1
variable {mu:Sto}
theorem Uq (ws:List Str)(t:Int)(s:Nat):rot ws t (s+1)=rot ws t s++[ws.getD (((s:Int)+t) % (ws.length:Int)).toNat ⟨#[]⟩]:=by
 unfold rot
 rw [List.range_succ,AW]
 rfl
theorem HandOk.app {k n:Nat}{os:Sto}(h:HandOk mu k n):HandOk (mu++os) k n:=by
 have hk:=h.lt
 obtain ⟨a,b,c',q,r⟩:=h
 exact ⟨a,b,c',by rw [Av hk];exact q,r⟩
theorem HandOk.set {k n j:Nat}{o:MO}(h:HandOk mu k n)(hj:j≠k):HandOk (mu.set j o) k n:=by
 obtain ⟨a,b,c',q,r⟩:=h
 exact ⟨a,b,c',by rw [AE hj];exact q,r⟩
theorem V6 {o:MO}{n:Nat}(h:Oc 0 o=true):Oc n o=true:=by
 cases o with
 | lst ds=>exact Gk (A3 _) h
 | dct ks ds =>
  simp only [Oc,Ab] at h ⊢
  exact ⟨Gk (A3 _) h.1,Gk (A3 _) h.2⟩
theorem NH {m:Sto}{d:D}(hd:DF 0 d=true)(hf:Flat (m.take mu.length)):MY mu m d=some (d,m.take mu.length):=by
 have e:frz mu.length m 3 d=some d:=by
  unfold frz
  rw [if_pos (S9 (A3 _) hd)]
 have al:(m.take mu.length).all (Oc mu.length)=true:=by
  rw [Ao]
  intro o ho
  obtain ⟨j,hj⟩:=A7.mp ho
  exact V6 (hf j o hj)
 unfold MY
 rw [e]
 dsimp only
 rw [if_pos al]
end PV
namespace PG
open PySem L2 PV PyProof.Rows K1
variable {mu:Sto}
noncomputable def Ul (st:List Str):D->Bool
 | .tup [_,.tup vs]=>vs.all (inS st)
 | _=>false
noncomputable def tabS (st:List Str):D->Bool
 | .tup [_,.tup cs,_]=>cs.all (Ul st)
 | _=>false
theorem Uc {k n R b c:Nat}{many:Nat}{sh:Int}{a nms fnd nm1:D}{ws st:List Str}(hc:1≤c)(hc4:c≤4)(hw:0<ws.length)(wW:∀ x∈ws,IsW x)(hs:st.length=c+1)(sd:st.Nodup)(sW:∀ x∈st,IsW x)(hm:many≤4)(hR:mu[R]? = some (.lst []))(hkR:R≠k)(h:HandOk mu k (n+2*many)){m0:Sto}{x12 x13 x14 x15:Option D} :
  ∃ (y12 y13 y14 y15:Option D) (mu':Sto) (cs:List D),Hc none m0 (gNm 12) Mn (Fz 0 many) [some (.ref k),some a,some (.int b),some (.int c),some nms,some (.lst (ws.map D.str)),some (.lst (st.map D.str)),some fnd,some nm1,some (.int many),some (.int sh),some (.ref R),x12,x13,x14,x15] mu=some ((.nx,[some (.ref k),some a,some (.int b),some (.int c),some nms,some (.lst (ws.map D.str)),some (.lst (st.map D.str)),some fnd,some nm1,some (.int many),some (.int sh),some (.ref R),y12,y13,y14,y15]),mu') ∧
   mu'[R]? = some (.lst cs)∧cs.length=many∧cs.all NU=true∧(okL cs=true∧cs.all (Ul st)=true)∧cs.map DB=(rot ws sh many).map D.str∧HandOk mu' k n∧(∀ j,j≠k->j≠R->mu'[j]? = mu[j]?)∧mu'.length=mu.length:=by
 have key:=Hm (m0:=m0) (tg:=gNm 12) (body:=Mn) (λi ro m=>(∃ y12 y13 y14 y15,ro=[some (.ref k),some a,some (.int b),some (.int c),some nms,some (.lst (ws.map D.str)),some (.lst (st.map D.str)),some fnd,some nm1,some (.int many),some (.int sh),some (.ref R),y12,y13,y14,y15])∧(∃ cs:List D,m[R]? = some (.lst cs)∧cs.length=i∧cs.all NU=true∧(okL cs=true∧cs.all (Ul st)=true)∧cs.map DB=(rot ws sh i).map D.str)∧i≤many∧HandOk m k (n+2*(many-i))∧(∀ j,j≠k->j≠R->m[j]? = mu[j]?)∧m.length=mu.length) (Fz 0 many) 0 [some (.ref k),some a,some (.int b),some (.int c),some nms,some (.lst (ws.map D.str)),some (.lst (st.map D.str)),some fnd,some nm1,some (.int many),some (.int sh),some (.ref R),x12,x13,x14,x15] mu
  ⟨⟨x12,x13,x14,x15,rfl⟩,⟨[],hR,rfl,rfl,⟨rfl,rfl⟩,rfl⟩,A3 _,h,λ_ _ _=>rfl,rfl⟩ λj d ro m ed hi=>by
   obtain ⟨⟨y12,y13,y14,y15,rfl⟩,⟨cs,hR',hl,ha,⟨ho,hos⟩,hf⟩,hle,hh,hkeep,hlen⟩:=hi
   obtain ⟨rfl,hj⟩:=NG ed
   obtain ⟨z13,z14,z15,m',vs,e,g1,g2,⟨g3,gs⟩,g4,g5,g6⟩:=Ue (n:=n+2*(many-(0+j+1))) (b:=b) (c:=c) (j:=j) (sh:=sh) (a:=a) (nms:=nms) (fnd:=fnd) (nm1:=nm1) (x9:=.int many) (x13:=y13) (x14:=y14) (x15:=y15) (ws:=ws) hc hc4 hw hs sd sW hR' (by omega) hkR (hh.mono (by omega))
   have wm:=wW _ (Ap (LB hw ((j:Int)+sh)))
   refine ⟨_,m,_,m',rfl,e,⟨_,_,_,_,rfl⟩,⟨_,g1,by simp [hl],?_,?_,?_⟩,by omega,g4,λi hik hiR=>(g5 i hik hiR).trans (hkeep i hik hiR),g6.trans hlen⟩
   ·rw [List.all_append,ha]
    have:NU (.tup [.str (ws.getD (((j:Int)+sh) % (ws.length:Int)).toNat ⟨#[]⟩),.tup vs])=(wB (ws.getD (((j:Int)+sh) % (ws.length:Int)).toNat ⟨#[]⟩)&&Hn (.tup vs)):=rfl
    rw [List.all_cons,this,Df.mpr wm,g2]
    rfl
   ·refine ⟨?_,?_⟩
    ·rw [MS] at ho ⊢
     intro d hd
     rcases AI.mp hd with hd|hd
     ·exact ho d hd
     ·rw [Al.mp hd]
      simp only [okD,okL,g3,List.length_cons,List.length_nil]
      simp only [okD] at g3
      rw [g3]
      rfl
    ·rw [List.all_append,hos,List.all_cons]
     simp only [Ul,gs,List.all_nil,Be]
   ·rw [AW,hf,Nat.zero_add,Uq,AW]
    rfl
 obtain ⟨ro',mu',e,⟨y12,y13,y14,y15,rfl⟩,⟨cs,a2,a3,a4,a5,a6⟩,_,a7,a8,a9⟩:=key
 rw [K7] at a3 a6 a7
 refine ⟨y12,y13,y14,y15,mu',cs,e,a2,by omega,a4,a5,by rw [a6,Nat.zero_add],a7.mono (by omega),a8,a9⟩
noncomputable def Qi:Sx:=(Cn (Qj 9 10 11 (BY (B8 CO (eC (.int 1)) (B7 Cg (BY (B0 0) (BY (B0 2) B5)))) (BY (B7 Cg (BY (B0 0) (BY (eC (.int 3)) B5))) (BY (HM B5) B5)))) (Cn (Lc (iRg (BY (B0 9) B5)) (gNm 12) Mn) (sEx (NR (B0 7) (BY (CL (BY (B0 8) (BY (B7 Fx (BY (B0 11) B5)) (BY (B8 CO (eC (.int 1)) (B7 Cg (BY (B0 0) (BY (B0 9) B5)))) B5)))) B5)))))
theorem RV {R:Nat}{cs:List D}(h:mu[R]? = some (.lst cs)):Fx [.ref R] mu=some (.tup cs,mu):=by
 simp only [Fx,sq1,Im,G6,Du,h,Option.map_some]
theorem Um {k n F b c:Nat}{nm:Str}{ws st:List Str}{a nms:D}{ts:List D}{x9 x10 x11 x12 x13 x14 x15:Option D}(hb:1≤b)(hb4:b≤4)(hc:1≤c)(hc4:c≤4)(hw:ws.length=b+2)(wd:ws.Nodup)(wW:∀ x∈ws,IsW x)(hs:st.length=c+1)(sd:st.Nodup)(sW:∀ x∈st,IsW x)(hW:IsW nm)(hF:mu[F]? = some (.lst ts))(hts:ts.length≤100)(hkF:F≠k)(h:HandOk mu k (n+11)) :
  ∃ y9 y10 y11 y12 y13 y14 y15 m2 cs,∃ q:Nat,Qi [some (.ref k),some a,some (.int b),some (.int c),some nms,some (.lst (ws.map D.str)),some (.lst (st.map D.str)),some (.ref F),some (.str nm),x9,x10,x11,x12,x13,x14,x15] mu=some ((.nx,[some (.ref k),some a,some (.int b),some (.int c),some nms,some (.lst (ws.map D.str)),some (.lst (st.map D.str)),some (.ref F),some (.str nm),y9,y10,y11,y12,y13,y14,y15]),m2) ∧
   m2[F]? = some (.lst (ts++[.tup [.str nm,.tup cs,.int q]]))∧Nn (.tup [.str nm,.tup cs,.int q])=true∧(okD (.tup [.str nm,.tup cs,.int q])=true∧tabS st (.tup [.str nm,.tup cs,.int q])=true)∧HandOk m2 k n∧(∀ j,j<mu.length->j≠k->j≠F->m2[j]? = mu[j]?)∧mu.length≤m2.length:=by
 obtain ⟨_,m1,e1,f1,t1,rfl,a0,a1⟩:=CY (m:=b) (n:=n+10) h (by omega) (by omega)
 obtain ⟨_,m2,e2,f2,t2,rfl,b0,b1⟩:=CY (m:=3) (n:=n+9) f1.hand (by decide) (by decide)
 have fr:=f1.trans f2
 have hkl:=h.lt
 have hFl:F<mu.length:=(Af.mp hF).1
 obtain ⟨q,hq⟩:∃ q:Nat,1+t1=(q:Int):=⟨(1+t1).toNat,by omega⟩
 have hR:(m2++[MO.lst []])[m2.length]? = some (.lst []):=by simp
 have l2:=fr.len
 obtain ⟨y12,y13,y14,y15,m3,cs,e3,g1,g2,g3,⟨g4,gs⟩,g5,g6,g7,g8⟩:=Uc (mu:=m2++[MO.lst []]) (k:=k) (n:=n+1) (R:=m2.length) (b:=b) (c:=c) (many:=q) (sh:=t2) (a:=a) (nms:=nms) (fnd:=.ref F) (nm1:=.str nm) (ws:=ws) (st:=st) hc hc4 (by omega) wW hs sd sW (by omega) hR (by omega) (f2.hand.app.mono (by omega)) (m0:=m2++[MO.lst []]) (x12:=x12) (x13:=x13) (x14:=x14) (x15:=x15)
 have F3:m3[F]? = some (.lst ts):=by
  rw [g7 F hkF (by omega),Av (by omega),fr.keep F hkF,hF]
 obtain ⟨_,m4,e4,f4,t4,rfl,c0,c1⟩:=CY (m:=q) (n:=n) g6 (by omega) (by omega)
 have F4:m4[F]? = some (.lst ts):=(f4.keep F hkF).trans F3
 obtain ⟨p,hp⟩:∃ p:Nat,1+t4=(p:Int):=⟨(1+t4).toNat,by omega⟩
 have ap:=append_at (ro:=[some (.ref k),some a,some (.int b),some (.int c),some nms,some (.lst (ws.map D.str)),some (.lst (st.map D.str)),some (.ref F),some (.str nm),some (.int q),some (.int t2),some (.ref m2.length),y12,y13,y14,y15]) (i:=7) F3 F4 (y:=.tup [.str nm,.tup cs,.int p]) (by rw [AL];omega) rfl (e:=(CL (BY (B0 8) (BY (B7 Fx (BY (B0 11) B5)) (BY (B8 CO (eC (.int 1)) (B7 Cg (BY (B0 0) (BY (B0 9) B5)))) B5))))) (by
  simp_arith only [RV g1,e4,hp])
 have rg:=QJ (mu:=m2++[MO.lst []]) (ro:=[some (.ref k),some a,some (.int b),some (.int c),some nms,some (.lst (ws.map D.str)),some (.lst (st.map D.str)),some (.ref F),some (.str nm),some (.int q),some (.int t2),some (.ref m2.length),x12,x13,x14,x15]) (r:=BY (B0 9) B5) (n:=q) (m:=m2++[MO.lst []]) rfl (by omega) (by rw [AL];omega)
 rw [Int.toNat_natCast] at rg
 refine ⟨some (.int q),some (.int t2),some (.ref m2.length),y12,y13,y14,y15,_,cs,p,?_,JH F4,?_,?_,f4.hand.set hkF,?_,?_⟩
 ·unfold Qi
  simp_arith only [e1,e2,hq,rg,e3,ap]
 ·have T:Nn (.tup [.str nm,.tup cs,.int p])=((wB nm&&((Dg 1 4 (.tup cs)&&cs.all NU)&&ndB (cs.map DB)))&&(decide ((1:Int)≤p)&&decide ((p:Int)≤cs.length))):=rfl
  rw [T,Df.mpr hW,g3,g5]
  have nd:ndB ((rot ws t2 q).map D.str)=true:=by
   unfold ndB
   rw [Ae]
   exact DI.mpr (Si (by omega) wd (by omega))
  rw [nd]
  simp only [Dg,Bq,By,Ab,Ae]
  omega
 ·refine ⟨?_,gs⟩
  simp only [okD,okL,g4,List.length_cons,List.length_nil,Bq,By,Ab,Ae]
  omega
 ·intro i hi hik hiF
  rw [AE (Ne.symm hiF),f4.keep i hik,g7 i hik (by omega),Av (by omega),fr.keep i hik]
 ·rw [List.length_set]
  have:=f4.len
  simp only [Aq,List.length_cons,List.length_nil] at g8
  omega
theorem OM {k n a b c:Nat}(ha:1≤a)(ha4:a≤4)(hb:1≤b)(hb4:b≤4)(hc:1≤c)(hc4:c≤4)(hfl:Flat mu)(h:HandOk mu k (n+60)):Run (Ed [.ref k,.int a,.int b,.int c] mu) k n mu λd=>∃ ds,d=.tup ds∧Vh d=true∧okD d=true∧∃ st:List Str,st.length≤5∧ds.all (tabS st)=true:=by
 obtain ⟨_,m1,e1,f1,t1,rfl,a0,a1⟩:=CY (m:=a) (n:=n+59) h (by omega) (by omega)
 obtain ⟨_,m2,e2,f2,nm,rfl,nl,nd,nW⟩:=J2 (many:=1+t1) (n:=n+54) (by omega) (by omega) f1.hand
 obtain ⟨_,m3,e3,f3,ws,rfl,wl,wd,wW⟩:=J2 (many:=(b:Int)+2) (n:=n+49) (by omega) (by omega) f2.hand
 obtain ⟨_,m4,e4,f4,st,rfl,sl,sd,sW⟩:=J2 (many:=(c:Int)+1) (n:=n+44) (by omega) (by omega) f3.hand
 have fr:=((f1.trans f2).trans f3).trans f4
 have l4:=fr.len
 obtain ⟨us,ue,up⟩:=Me (EL (nm.map D.str))
 have ul:=up.length_eq
 have ud:us.Nodup:=up.nodup_iff.mpr nd
 have hkl:=f4.hand.lt
 have key:=Hm (m0:=m4++[MO.lst []]) (tg:=gNm 8) (body:=Qi) (λi ro m=>(∃ y8 y9 y10 y11 y12 y13 y14 y15,ro=[some (.ref k),some (.int a),some (.int b),some (.int c),some (.lst (us.map D.str)),some (.lst (ws.map D.str)),some (.lst (st.map D.str)),some (.ref m4.length),y8,y9,y10,y11,y12,y13,y14,y15]) ∧
   (∃ ts:List D,m[m4.length]? = some (.lst ts)∧ts.length=i∧ts.all Nn=true∧(okL ts=true∧ts.all (tabS st)=true)∧ts.map DB=(us.take i).map D.str)∧i≤us.length∧HandOk m k (n+11*(us.length-i))∧(∀ j,j<m4.length->j≠k->m[j]? = m4[j]?)∧m4.length<m.length) (us.map D.str) 0
   [some (.ref k),some (.int a),some (.int b),some (.int c),some (.lst (us.map D.str)),some (.lst (ws.map D.str)),some (.lst (st.map D.str)),some (.ref m4.length),none,none,none,none,none,none,none,none] (m4++[MO.lst []])
   ⟨⟨_,_,_,_,_,_,_,_,rfl⟩,⟨[],by simp,rfl,rfl,⟨rfl,rfl⟩,by simp⟩,A3 _,f4.hand.app.mono (by omega),λj hj _=>Av hj,by simp⟩ λj d ro m ed hi=>by
  obtain ⟨⟨y8,y9,y10,y11,y12,y13,y14,y15,rfl⟩,⟨ts,hF,tl,ta,⟨to,tos⟩,tn⟩,hle,hh,hkeep,hlen⟩:=hi
  rw [Au] at ed
  cases q:us[j]? with
  | none=>rw [q] at ed;cases ed
  | some x =>
   rw [q] at ed
   have ed':D.str x=d:=by simpa using ed
   subst ed'
   obtain ⟨hj,ex⟩:=Af.mp q
   have hxm:x∈nm:=up.mem_iff.mp (by rw [← ex];exact BW hj)
   obtain ⟨z9,z10,z11,z12,z13,z14,z15,m',cs,p,g1,g2,g3,⟨g4,gs⟩,g5,g6,g7⟩:=Um (n:=n+11*(us.length-(0+j+1))) (a:=.int a) (b:=b) (c:=c) (nms:=.lst (us.map D.str)) (nm:=x) (x9:=y9) (x10:=y10) (x11:=y11) (x12:=y12) (x13:=y13) (x14:=y14) (x15:=y15) (ws:=ws) (st:=st) hb hb4 hc hc4 (by omega) wd wW (by omega) sd sW (nW x hxm) hF (by omega) (by omega) (hh.mono (by omega))
   refine ⟨_,m,_,m',rfl,g1,⟨_,_,_,_,_,_,_,_,rfl⟩,⟨_,g2,by simp [tl],?_,?_,?_⟩,by omega,g5,λi hi hik=>?_,by omega⟩
   ·rw [List.all_append,ta,List.all_cons,g3]
    rfl
   ·refine ⟨?_,?_⟩
    ·rw [MS] at to ⊢
     intro d hd
     rcases AI.mp hd with hd|hd
     ·exact to d hd
     ·rw [Al.mp hd]
      exact g4
    ·rw [List.all_append,tos,List.all_cons,gs]
     rfl
   ·rw [AW,tn]
    have:=List.take_add_one (l:=us) (i:=0+j)
    rw [this,Nat.zero_add,q,AW]
    rfl
   ·rw [g6 i (by omega) hik (by omega),hkeep i hi hik]
 obtain ⟨ro',m5,e5,⟨_,_,_,_,_,_,_,_,rfl⟩,⟨ts,b1,b2,b3,⟨b4,bs⟩,b5⟩,_,b6,b7,b8⟩:=key
 rw [Ag,Nat.zero_add] at b2 b5 b6
 rw [List.take_length] at b5
 have okT:okD (.tup ts)=true:=by
  simp only [okD,b4,Bq,Ae]
  omega
 have f5:Fr k n mu (m5.take mu.length):=by
  refine ⟨?_,λj hj=>?_,by rw [Bb];omega⟩
  ·obtain ⟨x,y,z,q,r1,r2,r3⟩:=b6
   exact ⟨x,y,z,by rw [Bl (by omega)];exact q,r1,r2,by omega⟩
  ·by_cases hj':j<mu.length
   ·rw [Bl hj',b7 j (by omega) hj,fr.keep j hj]
   ·rw [List.getElem?_eq_none (by rw [Bb];omega),List.getElem?_eq_none (by omega)]
 refine ⟨.tup ts,m5.take mu.length,?_,f5,ts,rfl,?_,okT,st,by omega,bs⟩
 ·have s64:nm.length<64:=by omega
  unfold Qi Mn at e5
  simp_arith only [Ed,HI,e1,e2,Vp s64,ue,e3,e4,e5,RV b1]
  exact NH (Ug okT) (f5.flat hfl)
 ·have W:Vh (.tup ts)=((Dg 1 4 (.tup ts)&&ts.all Nn)&&LU (ts.map DB)):=rfl
  have rs:LU (us.map D.str)=true:=by
   have r:=VE us
   rw [M3 (DI.mpr ud)] at r
   rw [← r,Ae]
   rw [← ue]
   exact (Mb (λd hd=>by
    obtain ⟨x,_,rfl⟩:=Ax.mp hd
    rfl) (EL (nm.map D.str))).symm
  rw [W,b3,b5,rs]
  simp only [Dg,Bq,Ab,Ae]
  omega
end PG
namespace PV
open PySem L2 PyProof.Rows K1
variable {mu:Sto}
theorem TF {m0:Sto}{tg:Gx}{el:Ex}{ro:Ro}(Inv:Nat->Sto->Prop)(P:Nat->D->Prop):∀ (ds:List D) (i:Nat) (mu:Sto),Inv i mu->(∀ j d mu,ds[j]? = some d->Inv (i+j) mu->∃ ro1 y m1,tg d ro mu=some (ro1,mu)∧el ro1 mu=some (y,m1)∧P (i+j) y∧Inv (i+j+1) m1) ->
  ∃ ys mu',FD none m0 tg tY el ro ds mu=some (ys,mu')∧Inv (i+ds.length) mu'∧ys.length=ds.length∧∀ j y,ys[j]? = some y->P (i+j) y
 | [],i,mu,h,_=>⟨[],mu,rfl,h,rfl,λj y e=>by simp at e⟩
 | d::ds,i,mu,h,st=>by
  obtain ⟨ro1,y,m1,e1,e2,p,h2⟩:=st 0 d mu rfl h
  obtain ⟨ys,mu',e3,h3,h4,h5⟩:=TF (m0:=m0) (tg:=tg) (el:=el) (ro:=ro) Inv P ds (i+1) m1 h2 λj d' mu ed hi=>by
   have:=st (j+1) d' mu (by simpa using ed) (by rw [show i+(j+1)=i+1+j by omega];exact hi)
   rw [show i+(j+1)+1=i+1+j+1 by omega,show i+(j+1)=i+1+j by omega] at this
   exact this
  refine ⟨y::ys,mu',?_,by rw [List.length_cons,show i+(ds.length+1)=i+1+ds.length by omega];exact h3,by simp [h4],λj z e=>?_⟩
  ·unfold FD
   rw [e1,FO]
   simp only [Wz,RA,if_true]
   rw [e2,FO,EY,if_pos (show gOk none m0 m1 from True.intro),e3]
   rfl
  ·cases j with
   | zero=>cases e;exact p
   | succ j=>have:=h5 j z (by simpa using e);rw [show i+(j+1)=i+1+j by omega];exact this
theorem Y1 {d e:D}(hd:Es d=true)(he:Es e=true):eqB mu d e=some (decide (d=e)):=by
 have a:=EG hd
 have b:=EG he
 have sd:seen mu d=d:=by cases d<;>first|rfl|(simp [Es,hsh] at hd)
 have se:seen mu e=e:=by cases e<;>first|rfl|(simp [Es,hsh] at he)
 unfold eqB
 rw [sd,se,Jv a.1,Jv b.1,if_pos,ID a.1 b.1]
 rw [Li a.1,Li b.1]
 simp only [By,Ae]
 omega
theorem Wb {d e:D}(hd:Es d=true)(he:Es e=true):eqD d e mu=some (.bl (decide (d=e)),mu):=by unfold eqD;rw [Y1 hd he];rfl
theorem Z9 {d e:D}(hd:Es d=true)(he:Es e=true):neD d e mu=some (.bl (!decide (d=e)),mu):=by unfold neD;rw [Y1 hd he];rfl
theorem Rt (ss:List Str):Ny (ss.map D.str)≤1:=by
 rw [← Nv (N7 ss)]
 exact N5 ss
theorem Gv (ss:List Str):Es (.tup (ss.map D.str))=true:=by
 unfold Es
 rw [Ab,Ae]
 refine ⟨by unfold hsh;exact N7 ss,?_⟩
 have:=Rt ss
 unfold dpt
 omega
end PV
namespace PG
open PySem L2 PV PyProof.Rows K1
variable {mu:Sto}
structure Tb where
 nm:Str
 cs:List (Str×List Str)
 ks:Nat
noncomputable def clD (p:Str×List Str):D:=.tup [.str p.1,.tup (p.2.map D.str)]
noncomputable def tbD (t:Tb):D:=.tup [.str t.nm,.tup (t.cs.map clD),.int t.ks]
structure Abp (t:Tb):Prop where
 c1:1≤t.cs.length
 c4:t.cs.length≤4
 k1:1≤t.ks
 k4:t.ks≤t.cs.length
 vs:∀ p∈t.cs,p.2≠[]∧p.2.length≤4
theorem PH {α:Type}{xs:List α}{j:Nat}(h:j≤xs.length):PV.cutD xs none (some (j:Int))=xs.take j:=by
 unfold PV.cutD
 rw [HT.LA,HT.NB]
 simp [Nat.min_eq_left h]
theorem S3 {α:Type}{xs:List α}{j:Nat}(h:j≤xs.length):PV.cutD xs (some (j:Int)) none=xs.drop j:=by
 unfold PV.cutD
 rw [HT.LA,HT.NB]
 rw [Nat.min_eq_left h]
 apply List.take_of_length_le
 simp
end PG
namespace PV
open PySem L2 PyProof.Rows K1
variable {mu:Sto}
theorem Ow (x:Str)(ss:List Str):((CG (ss.map D.str)).any λy=>PyData.eqv y (toPy (.str x)))=decide (x∈ss):=by
 induction ss with
 | nil=>simp [CG]
 | cons y ys ih =>
  rw [AM,CG,List.any_cons,ih]
  simp only [toPy,PyData.eqv,An]
  by_cases c:x=y
  ·subst c;simp
  ·have:(y==x)=false:=by simpa using λe:y=x=>c e.symm
   simp [c,this]
theorem Qm {x:Str}{ss:List Str}{s:D}(hs:s=.tup (ss.map D.str)∨s=.lst (ss.map D.str)):inB mu (.str x) s=some (decide (x∈ss)):=by
 have p:=Mr ss
 have d:=N5 ss
 rcases hs with rfl|rfl
 ·simp only [inB,seen,CQ,p,Be,By]
  rw [if_pos (by rw [Ae];omega),Ow]
 ·simp only [inB,seen,CQ,p,Be,By]
  rw [if_pos (by rw [Ae];omega),Ow]
theorem OK {x:Str}{ss:List Str}:inG (.str x) (.tup (ss.map D.str)) mu=some (.bl (decide (x∈ss)),mu):=by simp only [inG,inD,Qm (.inl rfl),Option.map_some]
theorem OX {x:Str}{ss:List Str}:Ht (.str x) (.tup (ss.map D.str)) mu=some (.bl (!decide (x∈ss)),mu):=by simp only [Ht,SM,Qm (.inl rfl),Option.map_some]
theorem Jc {x a b:Str}:inG (.str x) (.tup [.str a,.str b]) mu=some (.bl (decide (x∈[a,b])),mu):=OK (ss:=[a,b])
theorem Qf {x a b c:Str}:Ht (.str x) (.tup [.str a,.str b,.str c]) mu=some (.bl (!decide (x∈[a,b,c])),mu):=OX (ss:=[a,b,c])
theorem Ir (x:Str):Es (.str x)=true:=by simp [Es,hsh,dpt]
theorem Y6 {x:Str}{ks ds:List D}:inG (.str x) (.dct ks ds) mu=some (.bl (decide (D.str x∈ks)),mu):=by
 have:inD (.str x) (.dct ks ds) mu=none:=by simp [inD,inB,seen]
 simp only [inG,this,inC,FA,Ir,if_true]
 simp
theorem Aan {x:Str}{ks ds:List D}{v:D}(h:FJ (.str x) ks ds=some v):ixG (.dct ks ds) (.str x) mu=some (v,mu):=by
 have:ixD (.dct ks ds) (.str x) mu=none:=by simp [ixD,Du]
 simp only [ixG,this,ixC,FA,Ir,if_true,h,Option.map_some]
noncomputable def isN:D->Bool
 | .non=>true
 | _=>false
theorem NT {d:D}:isD d .non mu=some (.bl (isN d),mu):=by cases d<;>rfl
theorem OU {d:D}:M0 d .non mu=some (.bl (!isN d),mu):=by cases d<;>rfl
noncomputable def prD (p:Str×Str):D:=.tup [.str p.1,.str p.2]
noncomputable def prK (p:Str×Str):D×D:=(.str p.1,.str p.2)
theorem Ol (ps:List (Str×Str)):pairsOf (ps.map prD)=some (ps.map prK):=by
 induction ps with
 | nil=>rfl
 | cons p ps ih =>
  rw [AM,AM]
  unfold prD
  rw [pairsOf,if_pos (Ir _)]
  unfold prD at ih
  rw [ih]
  rfl
theorem JP:∀ (ps:List (D×D)) (ks vs:List D),ks.length=vs.length->(ks++ps.map (·.1)).Nodup->putAll (ks,vs) ps=(ks++ps.map (·.1),vs++ps.map (·.2))
 | [],ks,vs,_,_=>by simp [putAll]
 | p::ps,ks,vs,l,n=>by
  have h1:p.1∉ks:=λh=>by
   rw [AM,Br] at n
   exact n.2.2 p.1 h p.1 (.head _) rfl
  have:putAll (ks,vs) (p::ps)=putAll (ks++[p.1],vs++[p.2]) ps:=by
   unfold putAll
   rw [List.foldl_cons]
   congr 1
   unfold ER
   rw [if_neg h1]
  rw [this,JP ps (ks++[p.1]) (vs++[p.2]) (by simp [l]) (by simpa using n)]
  simp
noncomputable def EI:List (Str×Str)->Str->Str
 | [],c=>c
 | p::r,c=>if p.1=c then p.2 else EI r c
theorem R0 (ps:List (Str×Str))(c:Str):(FJ (.str c) ((ps.map prK).map (·.1)) ((ps.map prK).map (·.2))).getD (.str c)=.str (EI ps c):=by
 induction ps with
 | nil=>rfl
 | cons p ps ih =>
  rw [AM,AM,AM,FJ]
  unfold EI prK
  dsimp only
  by_cases e:p.1=c
  ·rw [if_pos (by rw [e]),if_pos e]
   rfl
  ·rw [if_neg (λz=>e (by injection z)),if_neg e]
   exact ih
theorem Vn {ps:List (Str×Str)}(h:(ps.map (·.1)).Nodup):(([]:List D)++(ps.map prK).map (·.1)).Nodup:=by
 have e:(ps.map prK).map (·.1)=(ps.map (·.1)).map D.str:=by
  rw [AA,AA]
  rfl
 rw [List.nil_append,e]
 exact DI.mpr h
theorem T5 {ps:List (Str×Str)}{s:D}(hs:s=.tup (ps.map prD)∨s=.lst (ps.map prD))(h:(ps.map (·.1)).Nodup):dctP [s] mu=some (.dct ((ps.map prK).map (·.1)) ((ps.map prK).map (·.2)),mu):=by
 have e:=JP (ps.map prK) [] [] rfl (Vn h)
 rw [List.nil_append,List.nil_append] at e
 rcases hs with rfl|rfl<;>simp only [dctP,sq1,Im,G6,Du,Ol,e]
theorem O3 {ps:List (Str×Str)}{o:Ex}{a:Exs}{ro:Ro}{c:Str}{m1 m2:Sto}(ho:o ro mu=some (.dct ((ps.map prK).map (·.1)) ((ps.map prK).map (·.2)),m1))(ha:a ro m1=some ([.str c,.str c],m2)):JN o a ro mu=some (.str (EI ps c),m2):=by
 simp only [JN,ho,RA,FA,Option.isSome_some,if_true,ha,Qv,Ir,R0]
end PV
namespace PG
open PySem L2 PV PyProof.Rows K1
variable {mu:Sto}
noncomputable def csD (cs:List Str):D:=.tup (cs.map D.str)
noncomputable def DV (cs:List Str):D->Bool
 | .str x=>decide (x∈cs)
 | _=>false
theorem MR (cs ws:List Str):(ws.map D.str).all (DV cs)=ws.all λw=>decide (w∈cs):=by rw [List.all_map];rfl
theorem Jf {cs ws:List Str}{s:D}(hs:s=.lst (ws.map D.str)∨s=.tup (ws.map D.str)):Di [csD cs,s] mu=some (.bl (ws.all λw=>decide (w∈cs)),mu):=by
 have al:=G8 (m0:=mu) (tg:=gNm 0) (el:=B8 inG (B0 0) (B0 1)) (ro:=[none,some (csD cs)]) (mu:=mu) (DV cs) (ws.map D.str) (λd hd=>by
  obtain ⟨w,_,rfl⟩:=Ax.mp hd
  exact ⟨_,rfl,by simp_arith only [csD,OK];rfl⟩)
 rcases hs with rfl|rfl<;>simp_arith only [Di,HK,al,MR]
noncomputable def E8:D->Bool
 | .tup [a,b]=>CD a&&CD b
 | _=>false
theorem Ve (d:D)(h:DF 0 d=true):Gp [d] mu=some (.bl (E8 d),mu):=by
 simp_arith only [Gp,JY,GB d 2 2 (DO h)]
 cases c:Dg 2 2 d with
 | false =>
  have:E8 d=false:=by
   unfold E8
   split
   ·simp [Dg] at c
   ·rfl
  simp_arith only [this]
 | true =>
  obtain ⟨a,b,rfl⟩:=YU c
  have e:E8 (.tup [a,b])=(CD a&&CD b):=rfl
  simp_arith only [JK a (nRs h a (by simp)),e]
  cases c2:CD a with
  | false=>simp_arith only []
  | true=>simp_arith only [JK b (nRs h b (by simp))]
theorem En {d:D}(h:CD d=true):∃ x,d=.str x∧IsW x:=by
 cases d with
 | str x=>exact ⟨x,rfl,Df.mp h⟩
 | _=>cases h
theorem L5 {ds:List D}(h:ds.all E8=true):∃ ps:List (Str×Str),ds=ps.map prD∧∀ p∈ps,IsW p.1∧IsW p.2:=by
 induction ds with
 | nil=>exact ⟨[],rfl,λ_ h=>nomatch h⟩
 | cons d ds ih =>
  rw [List.all_cons,Ab] at h
  obtain ⟨ps,rfl,hp⟩:=ih h.2
  have h1:=h.1
  unfold E8 at h1
  split at h1
  ·rename_i a b
   rw [Ab] at h1
   obtain ⟨x,rfl,hx⟩:=En h1.1
   obtain ⟨y,rfl,hy⟩:=En h1.2
   refine ⟨(x,y)::ps,rfl,λp hp'=>?_⟩
   rcases An.mp hp' with rfl|hp'
   ·exact ⟨hx,hy⟩
   ·exact hp p hp'
  ·cases h1
theorem Nd (ps:List (Str×Str)):(ps.map prD).map DB=(ps.map (·.1)).map D.str:=by
 rw [AA,AA]
 rfl
noncomputable def JI (cs:List Str):D->Bool
 | .tup ds=>(Dg 1 cs.length (.tup ds)&&ds.all E8)&&(ndB (ds.map DB)&&(ds.map DB).all (DV cs))
 | _=>false
theorem Sr {d:D}(h:E8 d=true):∃ a ds,d=.tup (a::ds)∧CD a=true:=by
 unfold E8 at h
 split at h
 ·rename_i a b
  rw [Ab] at h
  exact ⟨a,[b],rfl,h.1⟩
 ·cases h
theorem So {cs:List Str}:DZ [csD cs] mu=some (.int cs.length,mu):=by
 unfold csD
 rw [Tt,Ag]
theorem QW (cs:List Str)(hc:cs.length≤2000)(d:D)(h:DF 0 d=true):FR [csD cs,d] mu=some (.bl (JI cs d),mu):=by
 simp_arith only [FR,Ib,So,GB d 1 cs.length (DO h)]
 cases d with
 | tup ds =>
  have e:JI cs (.tup ds)=((Dg 1 cs.length (.tup ds)&&ds.all E8)&&(ndB (ds.map DB)&&(ds.map DB).all (DV cs))):=rfl
  rw [e]
  cases c:Dg 1 cs.length (.tup ds) with
  | false=>simp_arith only []
  | true =>
   have al:=G8 (m0:=mu) (tg:=gNm 0) (el:=B7 Gp (BY (B0 0) B5)) (ro:=[none]) (mu:=mu) E8 ds (λd hd=>⟨_,rfl,by simp_arith only [Ve d (lows h d hd)]⟩)
   simp_arith only [al]
   cases c2:ds.all E8 with
   | false=>simp_arith only []
   | true =>
    obtain ⟨ps,rfl,_⟩:=L5 c2
    have l4:(ps.map (·.1)).length<4000:=by
     simp only [Dg,Ag,Ab,Ae] at c
     rw [Ag]
     omega
    simp_arith only [WS (λd=>Sr) c2,Nd,UP l4]
    cases c3:ndB ((ps.map (·.1)).map D.str) with
    | false=>simp_arith only []
    | true=>simp_arith only [Jf (.inl rfl),MR]
 | ref k=>cases DO h
 | _=>simp_arith only [Dg,JI]
theorem Pr {cs:List Str}{ps:List (Str×Str)}(h:(ps.map (·.1)).Nodup):D7 [csD cs,.tup (ps.map prD)] mu=some (csD (cs.map (EI ps)),mu):=by
 have al:=GV (m0:=mu) (tg:=gNm 0) (el:=JN (B0 1) (BY (B0 0) (BY (B0 0) B5))) (ro:=[none,some (.dct ((ps.map prK).map (·.1)) ((ps.map prK).map (·.2)))]) (mu:=mu) (λd=>match d with|.str c=>.str (EI ps c)|_=>.non) (cs.map D.str) (λd hd=>by
  obtain ⟨c,_,rfl⟩:=Ax.mp hd
  exact ⟨_,rfl,O3 rfl rfl⟩)
 have e:(cs.map D.str).map (λd=>match d with|.str c=>D.str (EI ps c)|_=>.non)=(cs.map (EI ps)).map D.str:=by
  rw [AA,AA]
  rfl
 rw [e] at al
 simp_arith only [D7,FI,csD,T5 (.inl rfl) h,al]
noncomputable def wsB (hi:Int)(d:D):Bool:=Dg 1 hi d&&(MN d&&match d with|.tup ds=>ndB ds|_=>false)
theorem PD (hi:Int)(h4:hi≤2000)(d:D)(h:DF 0 d=true):EC [d,.int 1,.int hi] mu=some (.bl (wsB hi d),mu):=by
 unfold wsB
 simp_arith only [EC,GS,GB d 1 hi (DO h)]
 cases c:Dg 1 hi d with
 | false=>simp_arith only []
 | true =>
  simp_arith only [Sv d h]
  cases c2:MN d with
  | false=>simp_arith only []
  | true =>
   cases d with
   | tup ds =>
    obtain ⟨ss,rfl,_⟩:=IE c2
    have l4:ss.length<4000:=by
     simp only [Dg,Ag,Ab,Ae] at c
     omega
    simp_arith only [MT l4]
   | _=>simp [MN] at c2
noncomputable def HV (cs:List Str):D->Bool
 | .tup [a,b,c]=>(CD a&&(CD b&&CD c))&&(if DV ["is","not"] a=true then DV cs b else DV ["like","unlike"] a&&(DV cs b&&DV cs c))
 | _=>false
theorem VG (cs:List Str)(d:D)(h:DF 0 d=true):Gq [csD cs,d] mu=some (.bl (HV cs d),mu):=by
 simp_arith only [Gq,J5,GB d 3 3 (DO h)]
 cases c:Dg 3 3 d with
 | false =>
  have:HV cs d=false:=by
   unfold HV
   split
   ·simp [Dg] at c
   ·rfl
  simp_arith only [this]
 | true =>
  obtain ⟨a,b,e,rfl⟩:=AaR c
  have al:=G8 (m0:=mu) (tg:=gNm 0) (el:=B7 Dq (BY (B0 0) B5)) (ro:=[none]) (mu:=mu) CD [a,b,e] (λd hd=>⟨_,rfl,by simp_arith only [JK d (nRs h d hd)]⟩)
  have a3:GX [.lst [.bl (CD a),.bl (CD b),.bl (CD e)]] mu=some (.bl (CD a&&(CD b&&CD e)),mu):=by
   have:=O0 (mu:=mu) (ds:=[a,b,e]) (g:=CD)
   simpa using this
  have E:HV cs (.tup [a,b,e])=((CD a&&(CD b&&CD e))&&(if DV ["is","not"] a=true then DV cs b else DV ["like","unlike"] a&&(DV cs b&&DV cs e))):=rfl
  rw [E]
  simp_arith only [al,a3]
  cases c2:(CD a&&(CD b&&CD e)) with
  | false=>simp_arith only []
  | true =>
   rw [Ab,Ab] at c2
   obtain ⟨x,rfl,_⟩:=En c2.1
   obtain ⟨y,rfl,_⟩:=En c2.2.1
   obtain ⟨z,rfl,_⟩:=En c2.2.2
   have wi:=Jf (mu:=mu) (cs:=cs) (ws:=[y,z]) (.inr rfl)
   have wi':Di [csD cs,.tup [.str y,.str z]] mu=some (.bl (DV cs (.str y)&&DV cs (.str z)),mu):=by
    have:(DV cs (.str y)&&DV cs (.str z))=[y,z].all λw=>decide (w∈cs):=by simp [DV]
    rw [this]
    exact wi
   have i1:inG (.str y) (csD cs) mu=some (.bl (DV cs (.str y)),mu):=OK
   have i2:inG (.str x) (.tup [.str "is",.str "not"]) mu=some (.bl (DV ["is","not"] (.str x)),mu):=Jc
   have i3:inG (.str x) (.tup [.str "like",.str "unlike"]) mu=some (.bl (DV ["like","unlike"] (.str x)),mu):=Jc
   simp_arith only [i2]
   cases c3:DV ["is","not"] (.str x) with
   | true=>simp_arith only [i1]
   | false =>
    simp_arith only [i3]
    cases c4:DV ["like","unlike"] (.str x) with
    | false=>simp_arith only []
    | true=>simp_arith only [wi']
noncomputable def LJ (cs:List Str):D->Bool
 | .tup ds=>Dg 1 4 (.tup ds)&&ds.all (HV cs)
 | _=>false
theorem RC (cs:List Str)(d:D)(h:DF 0 d=true):FX [csD cs,d] mu=some (.bl (LJ cs d),mu):=by
 simp_arith only [FX,Ie,GB d 1 4 (DO h)]
 cases d with
 | tup ds =>
  have e:LJ cs (.tup ds)=(Dg 1 4 (.tup ds)&&ds.all (HV cs)):=rfl
  rw [e]
  cases c:Dg 1 4 (.tup ds) with
  | false=>simp_arith only []
  | true =>
   have al:=G8 (m0:=mu) (tg:=gNm 0) (el:=B7 Gq (BY (B0 1) (BY (B0 0) B5))) (ro:=[none,some (csD cs)]) (mu:=mu) (HV cs) ds (λd hd=>⟨_,rfl,by simp_arith only [VG cs d (lows h d hd)]⟩)
   simp_arith only [al]
 | ref k=>cases DO h
 | _=>simp_arith only [Dg,LJ]
noncomputable def Dr:Option (List Str)->D
 | none=>.non
 | some cs=>csD cs
noncomputable def LO:D->List Str
 | .tup ds=>(strsOf ds).getD []
 | _=>[]
noncomputable def VW:List D->List (Str×Str)
 | .tup [.str a,.str b]::r=>(a,b)::VW r
 | _=>[]
theorem Ta (ps:List (Str×Str)):VW (ps.map prD)=ps:=by
 induction ps with
 | nil=>rfl
 | cons p ps ih =>
  rw [AM]
  unfold prD
  unfold prD at ih
  rw [VW,ih]
noncomputable def prT:D->List (Str×Str)
 | .tup ds=>VW ds
 | _=>[]
noncomputable def GI (cs:List Str)(w:Str)(d:D):Option (List Str):=
 if w="rows" then (if LJ cs d=true then some cs else none)
 else if w="columns" then (if (wsB cs.length d&&(LO d).all λx=>decide (x∈cs))=true then some (LO d) else none)
 else if w="called" then (if JI cs d=true then (if (cs.map (EI (prT d))).Nodup then some (cs.map (EI (prT d))) else none) else none)
 else none
theorem Ks {hi:Int}{d:D}(h:wsB hi d=true):∃ ss:List Str,d=csD ss∧LO d=ss∧ss.Nodup∧1≤ss.length∧(ss.length:Int)≤hi∧∀ x∈ss,IsW x:=by
 unfold wsB at h
 rw [Ab,Ab] at h
 cases d with
 | tup ds =>
  obtain ⟨ss,rfl,hw⟩:=IE (show ds.all CD=true from h.2.1)
  have:=h.1
  simp only [Dg,Ag,Ab,Ae] at this
  refine ⟨ss,rfl,by simp [LO,PV.strs_map],?_,by omega,by omega,hw⟩
  have n:=h.2.2
  simp only [ndB,Ae] at n
  exact DI.mp n
 | _=>simp [Dg] at h
theorem KU {cs:List Str}{d:D}(h:JI cs d=true):∃ ps:List (Str×Str),d=.tup (ps.map prD)∧prT d=ps∧(ps.map (·.1)).Nodup∧1≤ps.length∧(∀ p∈ps,IsW p.1∧IsW p.2)∧∀ p∈ps,p.1∈cs:=by
 cases d with
 | tup ds =>
  have e:((Dg 1 cs.length (.tup ds)&&ds.all E8)&&(ndB (ds.map DB)&&(ds.map DB).all (DV cs)))=true:=h
  rw [Ab,Ab,Ab] at e
  obtain ⟨ps,rfl,hw⟩:=L5 e.1.2
  have l:=e.1.1
  simp only [Dg,Ag,Ab,Ae] at l
  have n:=e.2.1
  rw [Nd] at n
  simp only [ndB,Ae] at n
  have al:=e.2.2
  rw [Nd,MR,Ao] at al
  refine ⟨ps,rfl,Ta ps,DI.mp n,by omega,hw,λp hp=>?_⟩
  simpa using al p.1 (Ax.mpr ⟨p,hp,rfl⟩)
 | _=>simp [JI] at h
theorem O4 {cs:List Str}(hc:cs.length≤2000){w:Str}{d:D}(h:DF 0 d=true):DE [csD cs,.str w,d] mu=some (Dr (GI cs w d),mu):=by
 unfold GI
 simp_arith only [DE,EO]
 by_cases c1:w="rows"
 ·simp_arith only [c1,RC cs d h]
  cases LJ cs d with
  | true=>simp_arith only [Dr]
  | false=>simp_arith only [Dr]
 ·simp_arith only [c1]
  by_cases c2:w="columns"
  ·simp_arith only [c2,So,PD cs.length (by omega) d h]
   cases c:wsB cs.length d with
   | false=>simp_arith only [Dr]
   | true =>
    obtain ⟨ss,rfl,e,_⟩:=Ks c
    have wi:=Jf (mu:=mu) (cs:=cs) (ws:=ss) (.inr rfl)
    have wi':Di [csD cs,csD ss] mu=some (.bl (ss.all λw=>decide (w∈cs)),mu):=wi
    simp_arith only [wi',e]
    cases ss.all λw=>decide (w∈cs) with
    | true=>simp_arith only [Dr]
    | false=>simp_arith only [Dr]
  ·simp_arith only [c2]
   by_cases c3:w="called"
   ·simp_arith only [c3,QW cs hc d h]
    cases c:JI cs d with
    | false=>simp_arith only [Dr]
    | true =>
     obtain ⟨ps,rfl,e,nd,_⟩:=KU c
     have ul:Dc [csD (cs.map (EI ps))] mu=some (.bl (ndB ((cs.map (EI ps)).map D.str)),mu):=MT (by rw [Ag];omega)
     simp_arith only [Pr nd,e,ul]
     by_cases c4:(cs.map (EI ps)).Nodup
     ·have:ndB ((cs.map (EI ps)).map D.str)=true:=by simp only [ndB,Ae];exact DI.mpr c4
      simp_arith only [this,c4,Dr]
     ·have:ndB ((cs.map (EI ps)).map D.str)=false:=by simp only [ndB,decide_eq_false_iff_not];exact λz=>c4 (DI.mp z)
      simp_arith only [this,c4,Dr]
   ·simp_arith only [c3,Dr]
noncomputable def KO (one other:List Str):List Str:=one++other.filter λc=>!decide (c∈one)
theorem MI {m0:Sto}(one other:List Str):FD none m0 (gNm 0) (tV (B8 Ht (B0 0) (B0 1))) (B0 0) [none,some (csD one)] (other.map D.str) mu=some ((other.filter λc=>!decide (c∈one)).map D.str,mu):=by
 have:=JJ (m0:=m0) (tg:=gNm 0) (tt:=tV (B8 Ht (B0 0) (B0 1))) (el:=B0 0) (ro:=[none,some (csD one)]) (mu:=mu) (λd=>!DV one d) id (other.map D.str) (λd hd=>by
  obtain ⟨c,_,rfl⟩:=Ax.mp hd
  refine ⟨_,rfl,?_,λ_=>rfl⟩
  have i:Ht (.str c) (csD one) mu=some (.bl (!DV one (.str c)),mu):=OX
  simp_arith only [i])
 rw [this,List.map_id,List.filter_map]
 rfl
theorem OR {one other:List Str}(h:one.length+other.length≤4000):Ea [csD one,csD other] mu=some (csD (KO one other),mu):=by
 have l:=List.length_filter_le (λc=>!decide (c∈one)) other
 have za:CO (.tup (one.map D.str)) (.tup ((other.filter λc=>!decide (c∈one)).map D.str)) mu=some (csD (KO one other),mu):=by
  unfold CO
  dsimp only
  rw [if_pos (by simp only [Ag,AL];omega)]
  simp [csD,KO]
 have lc:=MI (m0:=mu) (mu:=mu) one other
 unfold csD at lc ⊢
 unfold csD at za
 simp_arith only [Ea,FK,lc,za]
noncomputable def Lp (one:List Str)(w:Str)(other:List Str):Option (List Str):=if w="join" then some (KO one other) else if one=other then some one else none
theorem str_inj:∀ {a b:List Str},a.map D.str=b.map D.str->a=b
 | [],[],_=>rfl
 | [],_::_,h=>by cases h
 | _::_,[],h=>by cases h
 | x::a,y::b,h=>by
  rw [AM,AM] at h
  injection h with h1 h2
  injection h1 with h1
  rw [h1,str_inj h2]
theorem PQ {a b:List Str}:csD a=csD b ↔ a=b:=by
 unfold csD
 constructor
 ·intro h
  injection h with h
  exact str_inj h
 ·intro h;rw [h]
theorem Pw {one other:List Str}{w:Str}(h:one.length+other.length≤4000):DC [csD one,.str w,csD other] mu=some (Dr (Lp one w other),mu):=by
 unfold Lp
 have eq:eqD (csD one) (csD other) mu=some (.bl (decide (csD one=csD other)),mu):=Wb (Gv one) (Gv other)
 simp_arith only [DC,EM]
 by_cases c1:w="join"
 ·simp_arith only [c1,OR h,Dr]
 ·simp_arith only [c1,eq]
  by_cases c2:one=other
  ·subst c2;simp_arith only [Dr]
  ·have:¬ csD one=csD other:=λz=>c2 (PQ.mp z)
   simp_arith only [this,c2,Dr]
noncomputable abbrev Kn:=List (Str×List Str)
noncomputable def knD (kn:Kn):D:=.dct (kn.map λp=>.str p.1) (kn.map λp=>csD p.2)
noncomputable def FC:Kn->Str->Option (List Str)
 | [],_=>none
 | p::r,x=>if p.1=x then some p.2 else FC r x
theorem U8 (kn:Kn)(x:Str):FJ (.str x) (kn.map λp=>.str p.1) (kn.map λp=>csD p.2)=(FC kn x).map csD:=by
 induction kn with
 | nil=>rfl
 | cons p r ih =>
  rw [AM,AM,FJ,FC]
  by_cases c:p.1=x
  ·rw [if_pos (by rw [c]),if_pos c];rfl
  ·rw [if_neg (λz=>c (by injection z)),if_neg c,ih]
theorem SH (kn:Kn)(x:Str):decide (D.str x∈kn.map λp=>D.str p.1)=(FC kn x).isSome:=by
 induction kn with
 | nil=>simp [FC]
 | cons p r ih =>
  rw [FC,AM]
  by_cases c:p.1=x
  ·rw [if_pos c];simp [c]
  ·rw [if_neg c,← ih]
   have:¬ D.str x=D.str p.1:=λz=>c (by injection z with z;exact z.symm)
   simp [this]
theorem Qr {kn:Kn}{x:Str}{cs:List Str}(h:FC kn x=some cs):(x,cs)∈kn:=by
 induction kn with
 | nil=>cases h
 | cons p r ih =>
  rw [FC] at h
  by_cases c:p.1=x
  ·rw [if_pos c] at h
   cases h
   rw [← c]
   exact .head _
  ·rw [if_neg c] at h
   exact .tail _ (ih h)
noncomputable def ofC (kn:Kn)(w:Str)(b:D):Option (List Str):=if (decide (w="of")&&CD b)=true then (match b with|.str x=>FC kn x|_=>none) else none
noncomputable def Cj (kn:Kn):Nat->D->Option (List Str)
 | 0,_=>none
 | n+1,d=>match d with
  | .tup [.str w,b]=>ofC kn w b
  | .tup [.str w,a,b]=>if w="of" then none else match Cj kn n a with
   | none=>none
   | some one=>if w∈(["join","union","gap"]:List Str) then (match Cj kn n b with
    | none=>none
    | some other=>Lp one w other) else GI one w b
  | _=>none
theorem Ft {kn:Kn}(hk:∀ p∈kn,p.2.length≤4):∀ (n:Nat) (d:D) (cs:List Str),Cj kn n d=some cs->cs.length≤4*2 ^ n
 | 0,_,_,h=>by cases h
 | n+1,d,cs,h=>by
  have two:2 ^ (n+1)=2*2 ^ n:=by rw [Nat.pow_succ];omega
  have pos:0<2 ^ n:=Nat.two_pow_pos n
  unfold Cj at h
  split at h
  ·unfold ofC at h
   split at h
   ·split at h
    ·have:=hk _ (Qr h)
     dsimp only at this
     omega
    ·cases h
   ·cases h
  ·split at h
   ·cases h
   ·split at h
    ·cases h
    ·rename_i one e1
     have l1:=Ft hk n _ _ e1
     split at h
     ·split at h
      ·cases h
      ·rename_i other e2
       have l2:=Ft hk n _ _ e2
       unfold Lp at h
       split at h
       ·cases h
        unfold KO
        have:=List.length_filter_le (λc=>!decide (c∈one)) other
        rw [Aq]
        omega
       ·split at h
        ·cases h;omega
        ·cases h
     ·unfold GI at h
      split at h
      ·split at h
       ·cases h;omega
       ·cases h
      ·split at h
       ·split at h
        ·rename_i c
         cases h
         rw [Ab] at c
         obtain ⟨ss,_,e,_,_,l,_⟩:=Ks c.1
         rw [e]
         omega
        ·cases h
       ·split at h
        ·split at h
         ·split at h
          ·cases h;rw [Ag];omega
          ·cases h
         ·cases h
        ·cases h
  ·cases h
theorem Hs (o:Option (List Str)):isN (Dr o)=o.isNone:=by cases o<;>rfl
theorem QM {kn:Kn}{a b:D}(h:DF 0 b=true):E1 [knD kn,.tup [a,b]] mu=some (.bl (CD b&&match b with|.str x=>(FC kn x).isSome|_=>false),mu):=by
 simp_arith only [E1,HD,JK b (DO h)]
 cases c:CD b with
 | false=>simp [c]
 | true =>
  obtain ⟨x,rfl,_⟩:=En c
  have i:inG (.str x) (knD kn) mu=some (.bl (FC kn x).isSome,mu):=by rw [← SH];exact Y6
  simp [c,i]
theorem YB {kn:Kn}{a b c:D}:E1 [knD kn,.tup [a,b,c]] mu=some (.bl false,mu):=by
 simp [E1,HD,Wn]
theorem Lw {kn:Kn}(hk:∀ p∈kn,p.2.length≤4):∀ (f:Nat) {n:Nat} (d:D) {mu:Sto},n≤f->n≤8->DF 0 d=true->CI (f+1) [knD kn,d,.int n] mu=some (Dr (Cj kn n d),mu)
 | f,0,d,mu,_,_,_=>by
  simp_arith only [CI,Eg,Int.natCast_zero,Cj,Dr]
 | 0,n+1,_,_,h,_,_=>by omega
 | f+1,n+1,d,mu,hf,h8,h=>by
  have n0:¬ (((n+1:Nat):Int)=0):=by omega
  have n1:((n+1:Nat):Int)-1=(n:Int):=by omega
  rw [CI]
  simp_arith only [Eg,n0,GB d 2 3 (DO h)]
  cases c:Dg 2 3 d with
  | false =>
   have:Cj kn (n+1) d=none:=by
    unfold Cj
    split
    ·simp [Dg] at c
    ·simp [Dg] at c
    ·rfl
   simp_arith only [this,Dr]
  | true =>
   cases d with
   | tup ds =>
    simp only [Dg,Ab,Ae] at c
    match ds,c,h with
    | [],c,h=>simp at c
    | [a],c,h=>simp at c
    | a::b::e::g::r,c,h=>simp at c;omega
    | [a,b],c,h =>
     have hb:=lows h b (by simp)
     cases a with
     | str w =>
      simp_arith only []
      by_cases cw:w="of"
      ·simp_arith only [cw,QM hb]
       cases cb:CD b with
       | false =>
        have:Cj kn (n+1) (.tup [.str "of",b])=none:=by
         simp only [Cj,ofC,cb,BL,AH,A4]
        simp_arith only [this,Dr]
       | true =>
        obtain ⟨x,rfl,wx⟩:=En cb
        have e:Cj kn (n+1) (.tup [.str "of",.str x])=FC kn x:=by
         have wb:CD (.str x)=true:=Df.mpr wx
         simp only [Cj,ofC,wb,decide_true,Be,if_true]
        rw [e]
        cases el:FC kn x with
        | none=>simp_arith only [el,Option.isSome_none,Dr]
        | some cs =>
         have ix:ixG (knD kn) (.str x) mu=some (csD cs,mu):=Aan (by rw [U8,el];rfl)
         simp_arith only [el,Option.isSome_some,ix,Dr]
      ·have:Cj kn (n+1) (.tup [.str w,b])=none:=by
        simp only [Cj,ofC,cw,decide_false,BA,AH,A4]
       have d23:decide (((2:Nat):Int)=3)=false:=rfl
       simp_arith only [cw,this,Dr,NT,isN,d23]
     | ref k=>cases DO (lows h (.ref k) (by simp))
     | _=>simp_arith only [Cj,Dr]
    | [a,b,e],c,h =>
     have hb:=lows h b (by simp)
     have he:=lows h e (by simp)
     cases a with
     | str w =>
      simp_arith only []
      by_cases cw:w="of"
      ·have:Cj kn (n+1) (.tup [.str "of",b,e])=none:=by
        simp only [Cj,if_true]
       simp_arith only [cw,YB,this,Dr]
      ·have r1:=Lw hk f (n:=n) b (mu:=mu) (by omega) (by omega) hb
       have E:Cj kn (n+1) (.tup [.str w,b,e])=match Cj kn n b with
         | none=>none
         | some one=>if w∈(["join","union","gap"]:List Str) then (match Cj kn n e with
          | none=>none
          | some other=>Lp one w other) else GI one w e:=by
        conv=>lhs;unfold Cj
        dsimp only
        rw [if_neg cw]
       rw [E]
       have d33:decide (((3:Nat):Int)=3)=true:=rfl
       simp_arith only [cw,n1,r1,d33,NT,Hs]
       cases eo:Cj kn n b with
       | none=>simp_arith only [Dr,Option.isNone_none]
       | some one =>
        have lo:=Ft hk n _ _ eo
        have p8:2 ^ n≤2 ^ 7:=Bx (by decide) (by omega)
        simp_arith only [Dr,Option.isNone_some,Qf]
        by_cases cm:w∈(["join","union","gap"]:List Str)
        ·have r2:=Lw hk f (n:=n) e (mu:=mu) (by omega) (by omega) he
         simp_arith only [cm,n1,r2,NT,Hs]
         cases eo2:Cj kn n e with
         | none=>simp_arith only [Dr,Option.isNone_none]
         | some other =>
          have lo2:=Ft hk n _ _ eo2
          simp_arith only [Dr,Option.isNone_some,Pw (one:=one) (other:=other) (w:=w) (mu:=mu) (by omega)]
        ·simp_arith only [cm,O4 (cs:=one) (w:=w) (mu:=mu) (by omega) he]
         rfl
     | ref k=>cases DO (lows h (.ref k) (by simp))
     | _=>simp_arith only [Cj,Dr]
   | _=>simp [Dg] at c
end PG
namespace PV
open PySem L2 PyProof.Rows K1
variable {mu:Sto}
theorem Abs {β:Type}{i:Ix}{nc:Nat}{fvs:List Nat}{tg:Gx}{tt:Tx}{st:Mx β}{b0:β}{fin:β->Sto->D×Sto}{ro:Ro}:eCo i nc fvs tg tt st b0 fin ro mu=bM (i ro mu) λp m1=>bM (cGo p.2 m1 tg tt st (r0 nc fvs ro) p.1 b0 m1) λb m2=>some (fin b m2):=rfl
theorem TZ (k v:D)(ks ds:List D):(ER k v ks ds).1.length≤ks.length+1:=by
 unfold ER
 split
 ·exact Bc _
 ·rw [Aq];exact Ah _
theorem OH {m0:Sto}{tg:Gx}{kk vv:Ex}{ro:Ro}(g:D->D×D):∀ (ds:List D) (p:List D×List D),(∀ d∈ds,∃ ro1,tg d ro mu=some (ro1,mu)∧kk ro1 mu=some ((g d).1,mu)∧vv ro1 mu=some ((g d).2,mu)∧Es (g d).1=true)->p.1.length+ds.length≤sizeLine->cGo none m0 tg tY (stD kk vv) ro ds p mu=some (putAll p (ds.map g),mu)
 | [],p,_,_=>rfl
 | d::ds,p,h,l=>by
  obtain ⟨ro1,e1,e2,e3,e4⟩:=h d (.head _)
  rw [List.length_cons] at l
  have ih:=OH (m0:=m0) (tg:=tg) (kk:=kk) (vv:=vv) (ro:=ro) g ds (ER (g d).1 (g d).2 p.1 p.2) (λd' hd=>h d' (.tail _ hd)) (by have:=TZ (g d).1 (g d).2 p.1 p.2;omega)
  unfold cGo
  rw [e1,FO]
  simp only [Wz,RA,if_true,stD,e2,e3]
  rw [if_pos ⟨e4,by omega⟩,FO,EY,if_pos (show gOk none m0 mu from True.intro),ih]
  rfl
end PV
namespace PG
open PySem L2 PV PyProof.Rows K1
variable {mu:Sto}
structure TbK (t:Tb):Prop where
 ok:Abp t
 nw:IsW t.nm
 cw:∀ p∈t.cs,IsW p.1
 cn:(t.cs.map (·.1)).Nodup
 vw:∀ p∈t.cs,∀ x∈p.2,IsW x
theorem ON {d:D}(h:Hn d=true):∃ ss:List Str,d=.tup (ss.map D.str)∧ss≠[]∧ss.length≤4∧∀ x∈ss,IsW x:=by
 unfold Hn at h
 rw [Ab,Ab] at h
 cases d with
 | tup ds =>
  obtain ⟨ss,rfl,hw⟩:=IE (show ds.all CD=true from h.2.1)
  have:=h.1
  simp only [Dg,Ag,Ab,Ae] at this
  exact ⟨ss,rfl,λe=>by rw [e] at this;simp at this,by omega,hw⟩
 | _=>simp [Dg] at h
theorem Q2 {ds:List D}(h:ds.all NU=true):∃ cs:List (Str×List Str),ds=cs.map clD∧∀ p∈cs,(p.2≠[]∧p.2.length≤4)∧IsW p.1∧∀ x∈p.2,IsW x:=by
 induction ds with
 | nil=>exact ⟨[],rfl,λ_ h=>nomatch h⟩
 | cons d ds ih =>
  rw [List.all_cons,Ab] at h
  obtain ⟨cs,rfl,hc⟩:=ih h.2
  have h1:=h.1
  unfold NU at h1
  split at h1
  ·rename_i a b
   rw [Ab] at h1
   obtain ⟨ss,rfl,l1,l2,l3⟩:=ON h1.2
   obtain ⟨x,rfl,hx⟩:=En h1.1
   refine ⟨(x,ss)::cs,rfl,λq hq=>?_⟩
   rcases An.mp hq with rfl|hq
   ·exact ⟨⟨l1,l2⟩,hx,l3⟩
   ·exact hc q hq
  ·cases h1
theorem Ub {d:D}(h:Nn d=true):∃ t,d=tbD t∧TbK t:=by
 unfold Nn at h
 split at h
 ·rename_i n c k
  rw [Ab,Ab] at h
  obtain ⟨⟨h1,h2⟩,h3⟩:=h
  obtain ⟨x,rfl,hx⟩:=En h1
  cases c with
  | tup ds =>
   have h2':((Dg 1 4 (.tup ds)&&ds.all NU)&&ndB (ds.map DB))=true:=h2
   rw [Ab,Ab] at h2'
   obtain ⟨cs,rfl,hv⟩:=Q2 h2'.1.2
   have hl:=h2'.1.1
   simp only [Dg,Ag,Ab,Ae] at hl
   cases k with
   | int i =>
    simp only [WR,ZR,Ag,Ab,Ae] at h3
    have nd:=h2'.2
    have e:(cs.map clD).map DB=(cs.map (·.1)).map D.str:=by
     rw [AA,AA]
     rfl
    rw [e] at nd
    simp only [ndB,Ae] at nd
    refine ⟨⟨x,cs,i.toNat⟩,?_,⟨⟨by show 1≤cs.length;omega,by show cs.length≤4;omega,by show 1≤i.toNat;omega,by show i.toNat≤cs.length;omega,λp hp=>(hv p hp).1⟩,hx,λp hp=>(hv p hp).2.1,DI.mp nd,λp hp=>(hv p hp).2.2⟩⟩
    unfold tbD
    rw [Int.toNat_of_nonneg (by omega)]
   | _=>simp [WR] at h3
  | _=>simp [Wm] at h2
 ·cases h
theorem Rz {ds:List D}(h:ds.all Nn=true):∃ ts:List Tb,ds=ts.map tbD∧∀ t∈ts,TbK t:=by
 induction ds with
 | nil=>exact ⟨[],rfl,λ_ h=>nomatch h⟩
 | cons d ds ih =>
  rw [List.all_cons,Ab] at h
  obtain ⟨ts,rfl,hc⟩:=ih h.2
  obtain ⟨t,rfl,h1⟩:=Ub h.1
  refine ⟨t::ts,rfl,λq hq=>?_⟩
  rcases An.mp hq with rfl|hq
  ·exact h1
  ·exact hc q hq
structure SK (ts:List Tb):Prop where
 l1:1≤ts.length
 l4:ts.length≤4
 ok:∀ t∈ts,TbK t
 nd:(ts.map Tb.nm).Nodup
noncomputable def scD (ts:List Tb):D:=.tup (ts.map tbD)
theorem S7 {d:D}(h:Vh d=true):∃ ts,d=scD ts∧SK ts:=by
 cases d with
 | tup ds =>
  have h':((Dg 1 4 (.tup ds)&&ds.all Nn)&&LU (ds.map DB))=true:=h
  rw [Ab,Ab] at h'
  obtain ⟨ts,rfl,ho⟩:=Rz h'.1.2
  have hl:=h'.1.1
  simp only [Dg,Ag,Ab,Ae] at hl
  refine ⟨ts,rfl,by omega,by omega,ho,?_⟩
  have e:(ts.map tbD).map DB=(ts.map Tb.nm).map D.str:=by
   rw [AA,AA]
   rfl
  have r:=h'.2
  rw [e,O6] at r
  exact Tz r
 | _=>simp [Vh] at h
noncomputable def tcs (t:Tb):List Str:=t.cs.map (·.1)
noncomputable def DS (ts:List Tb):Kn:=ts.map λt=>(t.nm,tcs t)
theorem JV {ts:List Tb}(h:SK ts):∀ p∈DS ts,p.2.length≤4:=by
 intro p hp
 obtain ⟨t,ht,rfl⟩:=Ax.mp hp
 show (t.cs.map (·.1)).length≤4
 rw [Ag]
 exact (h.ok t ht).ok.c4
theorem Vm {ts:List Tb}(h:SK ts):∀ p∈DS ts,IsW p.1∧p.2≠[]∧p.2.Nodup∧∀ x∈p.2,IsW x:=by
 intro p hp
 obtain ⟨t,ht,rfl⟩:=Ax.mp hp
 have k:=h.ok t ht
 refine ⟨k.nw,λe=>?_,k.cn,λx hx=>?_⟩
 ·have:=congrArg List.length e
  have c1:=k.ok.c1
  simp [tcs] at this
  rw [this] at c1
  simp at c1
 ·obtain ⟨q,hq,rfl⟩:=Ax.mp hx
  exact k.cw q hq
theorem Ph {ts:List Tb}(h:SK ts):DQ [scD ts] mu=some (knD (DS ts),mu):=by
 have lc:∀ t:Tb,FD none mu (gNm 0) tY (B8 ixG (B0 0) (eC (.int 0))) [none] (t.cs.map clD) mu=some ((tcs t).map D.str,mu):=λt=>by
  have:=GV (m0:=mu) (tg:=gNm 0) (el:=B8 ixG (B0 0) (eC (.int 0))) (ro:=[none]) (mu:=mu) DB (t.cs.map clD) (λd hd=>by
   obtain ⟨p,_,rfl⟩:=Ax.mp hd
   exact ⟨_,rfl,by simp_arith only [clD,DB]⟩)
  rw [this,AA]
  unfold tcs
  rw [AA]
  rfl
 have cg:=OH (m0:=mu) (mu:=mu) (tg:=gNm 0) (kk:=B8 ixG (B0 0) (eC (.int 0))) (vv:=B7 Fx (BY (eLC (D0 (B8 ixG (B0 0) (eC (.int 1)))) 1 [] (gNm 0) (tY) (B8 ixG (B0 0) (eC (.int 0)))) B5)) (ro:=[none]) (λd=>match d with
   | .tup [.str n,.tup cs,_]=>(.str n,.tup (cs.map DB))
   | _=>(.non,.non)) (ts.map tbD) ([],[]) (λd hd=>by
  obtain ⟨t,_,rfl⟩:=Ax.mp hd
  refine ⟨_,rfl,by simp_arith only [tbD],?_,Ir _⟩
  have e:(t.cs.map clD).map DB=(tcs t).map D.str:=by
   unfold tcs
   rw [AA,AA]
   rfl
  simp_arith only [tbD,lc,e]) (by rw [Ag,AL];have:=h.l4;simp;omega)
 have ee:(ts.map tbD).map (λd=>match d with
   | .tup [.str n,.tup cs,_]=>(.str n,.tup (cs.map DB))
   | _=>((.non:D),(.non:D)))=(DS ts).map λp=>(.str p.1,csD p.2):=by
  unfold DS
  rw [AA,AA]
  refine List.map_congr_left λt _=>?_
  have e:(t.cs.map clD).map DB=(tcs t).map D.str:=by
   unfold tcs
   rw [AA,AA]
   rfl
  show (D.str t.nm,D.tup ((t.cs.map clD).map DB))=_
  rw [e]
  rfl
 rw [ee] at cg
 have nd:(([]:List D)++((DS ts).map λp=>(D.str p.1,csD p.2)).map (·.1)).Nodup:=by
  have e:((DS ts).map λp=>(D.str p.1,csD p.2)).map (·.1)=(ts.map Tb.nm).map D.str:=by
   unfold DS
   rw [AA,AA,AA]
   rfl
  rw [List.nil_append,e]
  exact DI.mpr h.nd
 rw [JP _ [] [] rfl nd] at cg
 unfold scD
 simp_arith only [DQ,Fq,Abs,cg,Ur,knD,AA]
 rfl
theorem K2 {ts:List Tb}(h:SK ts)(d:D)(hd:DF 0 d=true):D4 [scD ts,d] mu=some (.bl (Cj (DS ts) 8 d).isSome,mu):=by
 have r:=Lw (JV h) 9 (n:=8) d (mu:=mu) (by decide) (by decide) hd
 have r':CI 10 [knD (DS ts),d,.int 8] mu=some (Dr (Cj (DS ts) 8 d),mu):=r
 simp_arith only [D4,J1,Ph h,r',OU,Hs]
 cases Cj (DS ts) 8 d<;>rfl
end PG
namespace PV
open PySem L2 PyProof.Rows K1
variable {mu:Sto}
mutual
noncomputable def okB (n:Nat):D->Bool
 | .ref _=>false
 | .set _=>false
 | .tup ds=>decide (ds.length≤n)&&HR n ds
 | .lst ds=>HR n ds
 | .dct ks ds=>HR n ks&&HR n ds
 | _=>true
noncomputable def HR (n:Nat):List D->Bool
 | []=>true
 | d::ds=>okB n d&&HR n ds
end
theorem Gy {n:Nat}{ds:List D}:HR n ds=true ↔ ∀ d∈ds,okB n d=true:=by
 induction ds with
 | nil=>simp [HR]
 | cons d ds ih=>simp [HR,ih]
mutual
theorem FP {n:Nat}:∀ {d:D},okB n d=true->DF 0 d=true
 | .non,_=>rfl
 | .bl _,_=>rfl
 | .int _,_=>rfl
 | .str _,_=>rfl
 | .ref k,e=>by simp [okB] at e
 | .set k,e=>by simp [okB] at e
 | .tup ds,e=>by
  simp only [okB,Ab] at e
  simp only [DF]
  exact HZ e.2
 | .lst ds,e=>by
  simp only [okB] at e
  simp only [DF]
  exact HZ e
 | .dct ks ds,e=>by
  simp only [okB,Ab] at e
  simp only [DF,Ab]
  exact ⟨HZ e.1,HZ e.2⟩
theorem HZ {n:Nat}:∀ {ds:List D},HR n ds=true->Gm 0 ds=true
 | [],_=>rfl
 | d::ds,e=>by
  simp only [HR,Ab] at e
  simp only [Gm,Ab]
  exact ⟨FP e.1,HZ e.2⟩
end
mutual
theorem Hz {n m:Nat}(h:n≤m):∀ {d:D},okB n d=true->okB m d=true
 | .non,_=>rfl
 | .bl _,_=>rfl
 | .int _,_=>rfl
 | .str _,_=>rfl
 | .ref k,e=>by simp [okB] at e
 | .set k,e=>by simp [okB] at e
 | .tup ds,e=>by
  simp only [okB,Ab,Ae] at e ⊢
  exact ⟨by omega,Jt h e.2⟩
 | .lst ds,e=>by
  simp only [okB] at e ⊢
  exact Jt h e
 | .dct ks ds,e=>by
  simp only [okB,Ab] at e ⊢
  exact ⟨Jt h e.1,Jt h e.2⟩
theorem Jt {n m:Nat}(h:n≤m):∀ {ds:List D},HR n ds=true->HR m ds=true
 | [],_=>rfl
 | d::ds,e=>by
  simp only [HR,Ab] at e ⊢
  exact ⟨Hz h e.1,Jt h e.2⟩
end
theorem GK {n:Nat}{ds:List D}(h:okB n (.tup ds)=true):∀ d∈ds,okB n d=true:=by
 simp only [okB,Ab] at h
 exact Gy.mp h.2
theorem R7 (n:Nat)(ss:List Str):HR n (ss.map D.str)=true:=by
 rw [Gy]
 intro d hd
 obtain ⟨x,_,rfl⟩:=Ax.mp hd
 rfl
noncomputable def eqS (x:Str):D->Bool
 | .str y=>decide (x=y)
 | _=>false
theorem Xm {n:Nat}{x:Str}{d:D}(h:okB n d=true):eqG (.str x) d mu=some (.bl (eqS x d),mu):=by
 have pu:∀ e:D,CQ e=true->seen mu e=e->PyData.eqv (toPy (.str x)) (toPy e)=eqS x e->eqG (.str x) e mu=some (.bl (eqS x e),mu):=λe p s q=>by
  have:eqB mu (.str x) e=some (eqS x e):=by
   unfold eqB
   rw [s,p]
   simp only [seen,CQ,Be,By]
   rw [if_pos (by simp [toPy,PyData.depth]),q]
  unfold eqG eqD
  rw [this]
  rfl
 cases d with
 | non=>exact pu _ rfl rfl rfl
 | bl b=>exact pu _ rfl rfl rfl
 | int i=>exact pu _ rfl rfl rfl
 | str y=>exact pu _ rfl rfl rfl
 | tup ds =>
  by_cases p:CQ (.tup ds)=true
  ·exact pu _ p rfl rfl
  ·have:eqD (.str x) (.tup ds) mu=none:=by
    unfold eqD eqB
    simp only [seen,p,BL,BA,AH,A4]
    rfl
   unfold eqG
   rw [this]
   rfl
 | lst ds =>
  by_cases p:CQ (.lst ds)=true
  ·exact pu _ p rfl rfl
  ·have:eqD (.str x) (.lst ds) mu=none:=by
    unfold eqD eqB
    simp only [seen,p,BL,BA,AH,A4]
    rfl
   unfold eqG
   rw [this]
   rfl
 | dct ks ds =>
  have:eqD (.str x) (.dct ks ds) mu=none:=by
   unfold eqD eqB
   simp only [seen,CQ,BL,BA,AH,A4]
   rfl
  unfold eqG
  rw [this]
  rfl
 | _=>simp [okB] at h
theorem Xn {ds:List D}:eqG (.tup ds) (.tup []) mu=some (.bl (ds.length==0),mu):=by
 by_cases p:CQ (.tup ds)=true
 ·have:eqB mu (.tup ds) (.tup [])=some (ds.length==0):=by
   unfold eqB
   simp only [seen,p,CQ,Em,Be,By]
   rw [if_pos (by simp [toPy,CG,PyData.depth,PyData.depthAll])]
   cases ds with
   | nil=>rfl
   | cons d ds=>rfl
  unfold eqG eqD
  rw [this]
  rfl
 ·have:eqD (.tup ds) (.tup []) mu=none:=by
   unfold eqD eqB
   simp only [seen,p,BL,BA,AH,A4]
   rfl
  unfold eqG
  rw [this]
  rfl
theorem Kg {i j:Int}:eqG (.int i) (.int j) mu=some (.bl (decide (i=j)),mu):=by unfold eqG;rw [R9]
theorem MX {d e:D}{r:D×Sto}(h:eqD d e mu=some r):eqG d e mu=some r:=by unfold eqG;rw [h]
theorem NC:∀ {ss cs:List Str},ss.Nodup->(∀ x∈ss,x∈cs)->ss.length≤cs.length
 | [],_,_,_=>A3 _
 | x::ss,cs,n,h=>by
  rw [Bo] at n
  have hx:x∈cs:=h x (.head _)
  have ih:=NC (ss:=ss) (cs:=cs.erase x) n.2 (λy hy=>(List.mem_erase_of_ne (λe:y=x=>n.1 (by rw [← e];exact hy))).mpr (h y (.tail _ hy)))
  rw [List.length_erase_of_mem hx] at ih
  have:=List.length_pos_of_mem hx
  rw [List.length_cons]
  omega
end PV
namespace PG
open PySem L2 PV PyProof.Rows K1
variable {mu:Sto}
noncomputable def CsW (cs:List Str):Prop:=∀ x∈cs,IsW x
noncomputable def ltB (cs:List Str):D->Bool
 | .tup [.str a,.str b,.str c]=>decide (b∈cs)&&(if a∈(["is","not"]:List Str) then wB c else decide (a∈(["like","unlike"]:List Str))&&decide (c∈cs))
 | _=>false
theorem Sw:IsW "is":=Df.mp (by decide +kernel)
theorem QE:IsW "not":=Df.mp (by decide +kernel)
theorem NI:IsW "like":=Df.mp (by decide +kernel)
theorem Lb:IsW "unlike":=Df.mp (by decide +kernel)
theorem SS {cs:List Str}(hw:CsW cs)(d:D):ltB cs d=HV cs d:=by
 by_cases c:∃ a b e,d=.tup [.str a,.str b,.str e]
 ·obtain ⟨a,b,e,rfl⟩:=c
  have E:HV cs (.tup [.str a,.str b,.str e])=((wB a&&(wB b&&wB e))&&(if decide (a∈(["is","not"]:List Str))=true then decide (b∈cs) else decide (a∈(["like","unlike"]:List Str))&&(decide (b∈cs)&&decide (e∈cs)))):=rfl
  have E2:ltB cs (.tup [.str a,.str b,.str e])=(decide (b∈cs)&&(if a∈(["is","not"]:List Str) then wB e else decide (a∈(["like","unlike"]:List Str))&&decide (e∈cs))):=rfl
  rw [E,E2]
  by_cases hb:b∈cs
  ·have wb:wB b=true:=Df.mpr (hw b hb)
   by_cases h1:a∈(["is","not"]:List Str)
   ·have wa:wB a=true:=by
     simp only [An,AR,BG] at h1
     rcases h1 with rfl|rfl
     ·exact Df.mpr Sw
     ·exact Df.mpr QE
    simp [h1,hb,wa,wb]
   ·by_cases h2:a∈(["like","unlike"]:List Str)
    ·have wa:wB a=true:=by
      simp only [An,AR,BG] at h2
      rcases h2 with rfl|rfl
      ·exact Df.mpr NI
      ·exact Df.mpr Lb
     by_cases he:e∈cs
     ·have we:wB e=true:=Df.mpr (hw e he)
      simp [h1,h2,hb,he,wa,wb,we]
     ·simp [h1,h2,hb,he]
    ·simp [h1,h2]
  ·by_cases h1:a∈(["is","not"]:List Str)
   ·simp [h1,hb]
   ·simp [h1,hb]
 ·have e1:ltB cs d=false:=by
   unfold ltB
   split
   ·exact absurd ⟨_,_,_,rfl⟩ c
   ·rfl
  rw [e1]
  unfold HV
  split
  ·rename_i a b e
   by_cases w:(CD a&&(CD b&&CD e))=true
   ·rw [Ab,Ab] at w
    obtain ⟨x,rfl,_⟩:=En w.1
    obtain ⟨y,rfl,_⟩:=En w.2.1
    obtain ⟨z,rfl,_⟩:=En w.2.2
    exact absurd ⟨_,_,_,rfl⟩ c
   ·rw [Bool.not_eq_true] at w
    rw [w]
    rfl
  ·rfl
noncomputable def KN:D->Bool
 | .str _=>true
 | _=>false
theorem UG (d:D)(h:nR d=true):HS "str" d mu=some (.bl (KN d),mu):=by
 cases d<;>first|(cases h;done)|simp [KN]
theorem S8 {ds:List D}(h:ds.all KN=true):∃ ss:List Str,ds=ss.map D.str:=by
 induction ds with
 | nil=>exact ⟨[],rfl⟩
 | cons d ds ih =>
  rw [List.all_cons,Ab] at h
  obtain ⟨ss,rfl⟩:=ih h.2
  cases d with
  | str x=>exact ⟨x::ss,rfl⟩
  | _=>simp [KN] at h
theorem LQ {cs:List Str}(d:D)(h:DF 0 d=true):Dy [csD cs,d] mu=some (.bl (ltB cs d),mu):=by
 cases d with
 | tup ds =>
  simp_arith only [Dy,EX]
  by_cases l3:(ds.length:Int)=3
  ·match ds,l3,h with
   | [a,b,e],_,h =>
    have al:=G8 (m0:=mu) (tg:=gNm 0) (el:=GH "str" (B0 0)) (ro:=[none]) (mu:=mu) KN [a,b,e] (λd hd=>⟨_,rfl,by simp_arith only [UG d (nRs h d hd)]⟩)
    have a3:GX [.lst [.bl (KN a),.bl (KN b),.bl (KN e)]] mu=some (.bl ([a,b,e].all KN),mu):=by
     have:=O0 (mu:=mu) (ds:=[a,b,e]) (g:=KN)
     simpa using this
    have d33:decide (((3:Nat):Int)=3)=true:=rfl
    simp_arith only [d33,al,a3]
    cases c:[a,b,e].all KN with
    | false =>
     have:ltB cs (.tup [a,b,e])=false:=by
      cases q:ltB cs (.tup [a,b,e]) with
      | false=>rfl
      | true =>
       unfold ltB at q
       split at q
       ·rename_i e1
        simp only [D.tup.injEq,List.cons.injEq,and_true] at e1
        obtain ⟨rfl,rfl,rfl⟩:=e1
        simp [KN] at c
       ·cases q
     simp_arith only [this]
    | true =>
     obtain ⟨ss,es⟩:=S8 c
     match ss,es with
     | [x,y,z],es =>
      simp only [AM,List.map_nil,List.cons.injEq,and_true] at es
      obtain ⟨rfl,rfl,rfl⟩:=es
      have i1:Ht (.str y) (csD cs) mu=some (.bl (!decide (y∈cs)),mu):=OX
      have i4:inG (.str z) (csD cs) mu=some (.bl (decide (z∈cs)),mu):=OK
      have E2:ltB cs (.tup [.str x,.str y,.str z])=(decide (y∈cs)&&(if x∈(["is","not"]:List Str) then wB z else decide (x∈(["like","unlike"]:List Str))&&decide (z∈cs))):=rfl
      rw [E2]
      simp_arith only [i1]
      by_cases hy:y∈cs
      ·simp_arith only [hy,Jc]
       by_cases hx:x∈(["is","not"]:List Str)
       ·simp_arith only [hx,Ky (.str z) rfl,CD]
       ·simp_arith only [hx]
        by_cases hx2:x∈(["like","unlike"]:List Str)
        ·simp_arith only [Jc,hx2,i4]
        ·simp_arith only [Jc,hx2]
      ·simp_arith only [hy]
     | [],es=>simp at es
     | [_],es=>simp at es
     | [_,_],es=>simp at es
     | _::_::_::_::_,es=>simp at es
   | [],l3,_=>simp at l3
   | [_],l3,_=>simp at l3
   | [_,_],l3,_=>simp at l3
   | _::_::_::_::_,l3,_=>simp at l3;omega
  ·have:ltB cs (.tup ds)=false:=by
    unfold ltB
    split
    ·rename_i e
     injection e with e
     subst e
     simp at l3
    ·rfl
   simp_arith only [l3,this]
 | ref k=>cases DO h
 | _=>simp_arith only [Dy,EX,ltB]
noncomputable def N0 (cs:List Str):D->Bool
 | .tup ds=>!(ds.length==0)&&(ds.all (DV cs)&&ndB ds)
 | _=>false
theorem Pn {cs:List Str}{ds:List D}(h:ds.all (DV cs)=true):∃ ss:List Str,ds=ss.map D.str∧∀ x∈ss,x∈cs:=by
 induction ds with
 | nil=>exact ⟨[],rfl,λ_ h=>nomatch h⟩
 | cons d ds ih =>
  rw [List.all_cons,Ab] at h
  obtain ⟨ss,rfl,hs⟩:=ih h.2
  cases d with
  | str x =>
   refine ⟨x::ss,rfl,λy hy=>?_⟩
   rcases An.mp hy with rfl|hy
   ·simpa [DV] using h.1
   ·exact hs y hy
  | _=>simp [DV] at h
theorem Jp {cs:List Str}(d:D)(h:okB 1002 d=true):Dw [csD cs,d] mu=some (.bl (N0 cs d),mu):=by
 have hl:=FP h
 cases d with
 | tup ds =>
  have E:N0 cs (.tup ds)=(!(ds.length==0)&&(ds.all (DV cs)&&ndB ds)):=rfl
  rw [E]
  simp_arith only [Dw,Fw,Xn]
  cases c:(ds.length==0) with
  | true=>simp_arith only []
  | false =>
   have al:=G8 (m0:=mu) (tg:=gNm 0) (el:=eAn (GH "str" (B0 0)) (B8 inG (B0 0) (B0 1))) (ro:=[none,some (csD cs)]) (mu:=mu) (DV cs) ds (λd hd=>⟨_,rfl,by
    have hn:=nRs hl d hd
    cases d with
    | str x =>
     have i:inG (.str x) (csD cs) mu=some (.bl (DV cs (.str x)),mu):=OK
     simp_arith only [i]
    | ref k=>cases hn
    | _=>simp_arith only [DV]⟩)
   simp_arith only [al]
   cases c2:ds.all (DV cs) with
   | false=>simp_arith only []
   | true =>
    obtain ⟨ss,rfl,_⟩:=Pn c2
    have l4:ss.length<4000:=by
     simp only [okB,Ag,Ab,Ae] at h
     omega
    simp_arith only [OO l4,Kg]
    exact M8
 | ref k=>cases DO hl
 | _=>simp_arith only [Dw,Fw,N0]
theorem TX {cs:List Str}(hw:CsW cs)(d:D):N0 cs d=(wsB cs.length d&&(LO d).all λx=>decide (x∈cs)):=by
 cases d with
 | tup ds =>
  have E:N0 cs (.tup ds)=(!(ds.length==0)&&(ds.all (DV cs)&&ndB ds)):=rfl
  rw [E]
  by_cases c:ds.all (DV cs)=true
  ·obtain ⟨ss,rfl,hs⟩:=Pn c
   have e2:LO (.tup (ss.map D.str))=ss:=by simp [LO,PV.strs_map]
   have e3:(ss.all λx=>decide (x∈cs))=true:=by rw [Ao];intro x hx;simpa using hs x hx
   have e4:(ss.map D.str).all CD=true:=by
    rw [List.all_map,Ao]
    intro x hx
    exact Df.mpr (hw x (hs x hx))
   have W:wsB cs.length (.tup (ss.map D.str))=(Dg 1 cs.length (.tup (ss.map D.str))&&((ss.map D.str).all CD&&ndB (ss.map D.str))):=rfl
   rw [c,e2,e3,W,e4]
   simp only [By,Bq]
   by_cases n:ss.Nodup
   ·have l:=NC n hs
    have nb:ndB (ss.map D.str)=true:=by simp only [ndB,Ae];exact DI.mpr n
    rw [nb]
    simp only [Bq,Dg,Ag]
    cases ss with
    | nil=>simp
    | cons x xs =>
     simp only [List.length_cons] at l ⊢
     have a1:decide ((1:Int)≤((xs.length+1:Nat):Int))=true:=by rw [Ae];omega
     have a2:decide (((xs.length+1:Nat):Int)≤(cs.length:Int))=true:=by rw [Ae];omega
     rw [a1,a2]
     rfl
   ·have nb:ndB (ss.map D.str)=false:=by simp only [ndB,decide_eq_false_iff_not];exact λz=>n (DI.mp z)
    rw [nb]
    simp
  ·rw [Bool.not_eq_true] at c
   rw [c]
   simp only [BA,BL]
   cases w:wsB cs.length (.tup ds) with
   | false=>rfl
   | true =>
    obtain ⟨ss,e,e2,_,_,_,hw'⟩:=Ks w
    rw [e2]
    unfold csD at e
    injection e with e
    subst e
    rw [MR] at c
    rw [c]
    rfl
 | _=>rfl
end PG
namespace PV
open PySem L2 PyProof.Rows K1
variable {mu:Sto}
theorem XZ {i:Int}:Ht (.int i) (.tup [.int 2,.int 3]) mu=some (.bl (!(decide (i=2)||decide (i=3))),mu):=by
 have:inB mu (.int i) (.tup [.int 2,.int 3])=some (decide (i=2)||decide (i=3)):=by
  simp only [inB,seen,CQ,Em,Be,By]
  rw [if_pos (by simp [toPy,CG,PyData.depth,PyData.depthAll])]
  simp only [CG,toPy,List.any_cons,List.any_nil,Bool.or_false,PyData.eqv]
  congr 2
  ·by_cases c:i=2
   ·subst c;rfl
   ·have:((2:Int)==i)=false:=by simpa using λe:2=i=>c e.symm
    rw [this];simp [c]
  ·by_cases c:i=3
   ·subst c;rfl
   ·have:((3:Int)==i)=false:=by simpa using λe:3=i=>c e.symm
    rw [this];simp [c]
 simp only [Ht,SM,this,Option.map_some]
theorem Pm {xs:List D}(h:Em xs=true):neD (.lst xs) (.lst []) mu=some (.bl (!(xs.length==0)),mu):=by
 have:eqB mu (.lst xs) (.lst [])=some (xs.length==0):=by
  unfold eqB
  simp only [seen,CQ,Em,h,Be,By]
  rw [if_pos (by simp [toPy,CG,PyData.depth,PyData.depthAll])]
  cases xs<;>rfl
 unfold neD
 rw [this]
 rfl
end PV
namespace PG
open PySem L2 PV PyProof.Rows K1
variable {mu:Sto}
noncomputable def YD (cs:List Str)(d:D):Option (List Str):=if JI cs d=true then (if (cs.map (EI (prT d))).Nodup then some (cs.map (EI (prT d))) else none) else none
noncomputable def p2B:D->Bool
 | .tup ds=>decide ((ds.length:Int)=2)
 | _=>false
noncomputable def RG:D->D
 | .tup [_,b]=>b
 | _=>.non
theorem LF {d:D}(h:p2B d=true):∃ a b,d=.tup [a,b]:=by
 cases d with
 | tup ds =>
  match ds,h with
  | [a,b],_=>exact ⟨a,b,rfl⟩
  | [],h=>simp [p2B] at h
  | [_],h=>simp [p2B] at h
  | _::_::_::_,h=>simp [p2B] at h;omega
 | _=>simp [p2B] at h
theorem OC {cs:List Str}(hw:CsW cs)(ds:List D):JI cs (.tup ds)=(ds.all p2B&&(N0 cs (.tup (ds.map DB))&&ds.all λd=>CD (RG d))):=by
 have E:JI cs (.tup ds)=((Dg 1 cs.length (.tup ds)&&ds.all E8)&&(ndB (ds.map DB)&&(ds.map DB).all (DV cs))):=rfl
 have C:N0 cs (.tup (ds.map DB))=(!((ds.map DB).length==0)&&((ds.map DB).all (DV cs)&&ndB (ds.map DB))):=rfl
 rw [E,C]
 rw [Bool.eq_iff_iff]
 simp only [Ab,Ao,Bool.not_eq_true',BR,Dg,Ae,Ag]
 constructor
 ·rintro ⟨⟨⟨l1,l2⟩,pa⟩,nd,al⟩
  refine ⟨λd hd=>?_,⟨⟨by omega,al,nd⟩,λd hd=>?_⟩⟩
  ·have:=pa d hd
   unfold E8 at this
   split at this
   ·simp [p2B]
   ·cases this
  ·have:=pa d hd
   unfold E8 at this
   split at this
   ·rw [Ab] at this;exact this.2
   ·cases this
 ·rintro ⟨p2,⟨l0,al,nd⟩,ws⟩
  have fw:∀ d∈ds,CD (DB d)=true:=λd hd=>by
   have:=al (DB d) (Ax.mpr ⟨d,hd,rfl⟩)
   cases e:DB d with
   | str x=>rw [e] at this;exact Df.mpr (hw x (by simpa [DV] using this))
   | _=>rw [e] at this;simp [DV] at this
  have pa:∀ d∈ds,E8 d=true:=λd hd=>by
   obtain ⟨a,b,rfl⟩:=LF (p2 d hd)
   have h1:=fw _ hd
   have h2:=ws _ hd
   simp only [DB] at h1
   simp only [RG] at h2
   simp [E8,h1,h2]
  obtain ⟨ss,es,hs⟩:=Pn (cs:=cs) (ds:=ds.map DB) (Ao.mpr al)
  have n2:ss.Nodup:=by
   simp only [ndB,Ae] at nd
   rw [es] at nd
   exact DI.mp nd
  have l:=NC n2 hs
  have l':=congrArg List.length es
  simp only [Ag] at l'
  exact ⟨⟨⟨by omega,by omega⟩,pa⟩,nd,al⟩
theorem Tf {n:Nat}{ds:List D}(h:okB n (.tup ds)=true)(p:ds.all p2B=true):okB n (.tup (ds.map DB))=true∧∀ d∈ds,okB n (RG d)=true:=by
 rw [Ao] at p
 have hm:=GK h
 simp only [okB,Ab,Ae] at h
 refine ⟨?_,λd hd=>?_⟩
 ·simp only [okB,Ab,Ae,Ag]
  refine ⟨h.1,Gy.mpr λx hx=>?_⟩
  obtain ⟨d,hd,rfl⟩:=Ax.mp hx
  obtain ⟨a,b,rfl⟩:=LF (p d hd)
  exact GK (hm _ hd) a (by simp)
 ·obtain ⟨a,b,rfl⟩:=LF (p d hd)
  exact GK (hm _ hd) b (by simp)
theorem LY {cs:List Str}(hw:CsW cs)(hc:cs.length≤2000)(d:D)(h:okB 1002 d=true):DP [csD cs,d] mu=some (Dr (YD cs d),mu):=by
 have hl:=FP h
 unfold YD
 cases d with
 | tup ds =>
  have al:=G8 (m0:=mu) (tg:=gNm 0) (el:=eAn (GH "tuple" (B0 0)) (B8 eqD (B7 DZ (BY (B0 0) B5)) (eC (.int 2)))) (ro:=[none]) (mu:=mu) p2B ds (λd hd=>⟨_,rfl,by
   have hn:=nRs hl d hd
   cases d with
   | ref k=>cases hn
   | _=>simp_arith only [p2B]⟩)
  rw [OC hw]
  simp_arith only [DP,EW,al]
  cases c:ds.all p2B with
  | false=>simp_arith only [Dr]
  | true =>
   obtain ⟨ok1,ok2⟩:=Tf h c
   have c':=Ao.mp c
   have lf:=GV (m0:=mu) (tg:=gNm 0) (el:=B8 ixG (B0 0) (eC (.int 0))) (ro:=[none]) (mu:=mu) DB ds (λd hd=>by
    obtain ⟨a,b,rfl⟩:=LF (c' d hd)
    exact ⟨_,rfl,by simp_arith only [DB]⟩)
   simp_arith only [lf,Jp (cs:=cs) (mu:=mu) _ ok1]
   cases c2:N0 cs (.tup (ds.map DB)) with
   | false=>simp_arith only [Dr]
   | true =>
    have lw:=G8 (m0:=mu) (tg:=gNm 0) (el:=B7 Dt (BY (B8 ixG (B0 0) (eC (.int 1))) B5)) (ro:=[none]) (mu:=mu) (λd=>CD (RG d)) ds (λd hd=>by
     have:=ok2 d hd
     obtain ⟨a,b,rfl⟩:=LF (c' d hd)
     exact ⟨_,rfl,by simp_arith only [RG,Ky b (DO (FP this))]⟩)
    simp_arith only [lw]
    cases c3:ds.all λd=>CD (RG d) with
    | false=>simp_arith only [Dr]
    | true =>
     have P:JI cs (.tup ds)=true:=by rw [OC hw,c,c2,c3];rfl
     obtain ⟨ps,e,e2,nd,_⟩:=KU P
     injection e with e
     subst e
     have ga:=GV (m0:=mu) (tg:=gNm 0) (el:=JN (B0 1) (BY (B0 0) (BY (B0 0) B5))) (ro:=[none,some (.dct ((ps.map prK).map (·.1)) ((ps.map prK).map (·.2)))]) (mu:=mu) (λd=>match d with|.str c=>.str (EI ps c)|_=>.non) (cs.map D.str) (λd hd=>by
      obtain ⟨c,_,rfl⟩:=Ax.mp hd
      exact ⟨_,rfl,O3 rfl rfl⟩)
     have e4:(cs.map D.str).map (λd=>match d with|.str c=>D.str (EI ps c)|_=>.non)=(cs.map (EI ps)).map D.str:=by
      rw [AA,AA]
      rfl
     rw [e4] at ga
     have st:=OO (mu:=mu) (ss:=cs.map (EI ps)) (by rw [Ag];omega)
     have zl:Ls [.tup (ps.map prD)] mu=some (.lst (ps.map prD),mu):=rfl
     simp_arith only [zl,T5 (.inr rfl) nd,csD,ga,st,M8,e2]
     by_cases c4:(cs.map (EI ps)).Nodup
     ·have:ndB ((cs.map (EI ps)).map D.str)=true:=by simp only [ndB,Ae];exact DI.mpr c4
      simp_arith only [this,c4,Dr,csD]
     ·have:ndB ((cs.map (EI ps)).map D.str)=false:=by simp only [ndB,decide_eq_false_iff_not];exact λz=>c4 (DI.mp z)
      simp_arith only [this,c4,Dr,csD]
 | ref k=>cases DO hl
 | _=>simp_arith only [DP,EW,JI,Dr]
structure Nu (cs:List Str):Prop where
 w:CsW cs
 ne:cs≠[]
 nd:cs.Nodup
noncomputable def Aaq (kn:Kn):Prop:=∀ p∈kn,Nu p.2
theorem Wc {ts:List Tb}(h:SK ts):Aaq (DS ts):=λp hp=>by
 obtain ⟨_,b,c,d⟩:=Vm h p hp
 exact ⟨d,b,c⟩
theorem XG {one other:List Str}(a:Nu one)(b:Nu other):Nu (KO one other):=by
 unfold KO
 refine ⟨λx hx=>?_,λe=>a.ne (List.append_eq_nil_iff.mp e).1,Br.mpr ⟨a.nd,b.nd.filter _,λx hx y hy e=>?_⟩⟩
 ·rcases AI.mp hx with hx|hx
  ·exact a.w x hx
  ·exact b.w x (List.mem_filter.mp hx).1
 ·subst e
  have:=(List.mem_filter.mp hy).2
  simp [hx] at this
theorem Sy (ps:List (Str×Str))(c:Str):EI ps c=c∨∃ p∈ps,EI ps c=p.2:=by
 induction ps with
 | nil=>exact .inl rfl
 | cons p ps ih =>
  unfold EI
  by_cases e:p.1=c
  ·rw [if_pos e];exact .inr ⟨p,.head _,rfl⟩
  ·rw [if_neg e]
   rcases ih with h|⟨q,hq,h⟩
   ·exact .inl h
   ·exact .inr ⟨q,.tail _ hq,h⟩
theorem XQ {one:List Str}(a:Nu one){w:Str}{d:D}{cs:List Str}(h:GI one w d=some cs):Nu cs:=by
 unfold GI at h
 split at h
 ·split at h
  ·cases h;exact a
  ·cases h
 ·split at h
  ·split at h
   ·rename_i c
    cases h
    rw [Ab] at c
    obtain ⟨ss,_,e,nd,l,_,hw⟩:=Ks c.1
    rw [e]
    exact ⟨hw,λz=>by rw [z] at l;simp at l,nd⟩
   ·cases h
  ·split at h
   ·split at h
    ·rename_i c
     split at h
     ·rename_i n
      cases h
      obtain ⟨ps,_,e,_,_,hw,_⟩:=KU c
      rw [e] at n ⊢
      refine ⟨λx hx=>?_,λz=>a.ne (List.map_eq_nil_iff.mp z),n⟩
      obtain ⟨y,hy,rfl⟩:=Ax.mp hx
      rcases Sy ps y with q|⟨p,hp,q⟩
      ·rw [q];exact a.w y hy
      ·rw [q];exact (hw p hp).2
     ·cases h
    ·cases h
   ·cases h
theorem KY {kn:Kn}(hk:Aaq kn):∀ (n:Nat) (d:D) (cs:List Str),Cj kn n d=some cs->Nu cs
 | 0,_,_,h=>by cases h
 | n+1,d,cs,h=>by
  unfold Cj at h
  split at h
  ·unfold ofC at h
   split at h
   ·split at h
    ·exact hk _ (Qr h)
    ·cases h
   ·cases h
  ·split at h
   ·cases h
   ·split at h
    ·cases h
    ·rename_i one e1
     have l1:=KY hk n _ _ e1
     split at h
     ·split at h
      ·cases h
      ·rename_i other e2
       have l2:=KY hk n _ _ e2
       unfold Lp at h
       split at h
       ·cases h;exact XG l1 l2
       ·split at h
        ·cases h;exact l1
        ·cases h
     ·exact XQ l1 h
  ·cases h
noncomputable def fnd (ts:List Tb)(b:D):List (List Str):=(ts.filter λt=>eqS t.nm b).map tcs
theorem T8 {ts:List Tb}(h:∀ t∈ts,IsW t.nm)(b:D):ofC (DS ts) "of" b=(fnd ts b).head?:=by
 induction ts with
 | nil =>
  unfold ofC fnd DS
  simp only [List.map_nil,List.filter_nil,List.head?_nil]
  split
  ·cases b<;>rfl
  ·rfl
 | cons t ts ih =>
  have ih':=ih λt ht=>h t (.tail _ ht)
  unfold ofC fnd at ih' ⊢
  unfold DS at ih' ⊢
  rw [AM]
  by_cases e:eqS t.nm b=true
  ·simp only [List.filter_cons,e,if_true]
   cases b with
   | str y =>
    have e':t.nm=y:=by simpa [eqS] using e
    subst e'
    have w:CD (.str t.nm)=true:=Df.mpr (h t (.head _))
    simp only [w,decide_true,Be,if_true,AM,List.head?_cons,FC]
   | _=>simp [eqS] at e
  ·rw [List.filter_cons,if_neg e,← ih']
   cases b with
   | str y =>
    have e':¬ t.nm=y:=by simpa [eqS] using e
    simp only [FC,e',A4]
   | _=>rfl
theorem SU (xs:List (List Str)):Em (xs.map csD)=true:=by
 induction xs with
 | nil=>rfl
 | cons x xs ih =>
  rw [AM,Em,ih,Bq]
  unfold csD CQ
  exact Mr x
theorem Tu {m0:Sto}(t:Tb):FD none m0 (gTp 2 (Cy (gNm 0) (Cy (gNm 1) EB))) tY (B0 0) [none,none] (t.cs.map clD) mu=some ((tcs t).map D.str,mu):=by
 have:=GV (m0:=m0) (tg:=gTp 2 (Cy (gNm 0) (Cy (gNm 1) EB))) (el:=B0 0) (ro:=[none,none]) (mu:=mu) DB (t.cs.map clD) (λd hd=>by
  obtain ⟨p,_,rfl⟩:=Ax.mp hd
  exact ⟨_,rfl,rfl⟩)
 rw [this,AA]
 unfold tcs
 rw [AA]
 rfl
noncomputable def Sg:D->Str
 | .tup (.str n::_)=>n
 | _=>""
noncomputable def U3:D->D
 | .tup [_,.tup cs,_]=>.tup (cs.map DB)
 | _=>.non
theorem MZ (t:Tb):U3 (tbD t)=csD (tcs t):=by
 have e:(t.cs.map clD).map DB=(tcs t).map D.str:=by
  unfold tcs
  rw [AA,AA]
  rfl
 show D.tup ((t.cs.map clD).map DB)=_
 rw [e]
 rfl
theorem P6 (ts:List Tb)(b:D):((ts.map tbD).filter λd=>eqS (Sg d) b).map U3=(fnd ts b).map csD:=by
 unfold fnd
 rw [List.filter_map,AA,AA]
 refine List.map_congr_left λt _=>?_
 exact MZ t
theorem YN {ts:List Tb}{a b:D}(h:okB 1002 b=true):FD none mu (gNm 0) (tV (B8 eqG (B8 ixG (B0 0) (eC (.int 0))) (B8 ixG (B0 1) (eC (.int 1))))) (B7 Fx (BY (eLC (D0 (B8 ixG (B0 0) (eC (.int 1)))) 2 [] (gTp 2 (Cy (gNm 0) (Cy (gNm 1) EB))) (tY) (B0 0)) B5)) [none,some (.tup [a,b])] (ts.map tbD) mu=some ((fnd ts b).map csD,mu):=by
 have:=JJ (m0:=mu) (tg:=gNm 0) (tt:=tV (B8 eqG (B8 ixG (B0 0) (eC (.int 0))) (B8 ixG (B0 1) (eC (.int 1))))) (el:=B7 Fx (BY (eLC (D0 (B8 ixG (B0 0) (eC (.int 1)))) 2 [] (gTp 2 (Cy (gNm 0) (Cy (gNm 1) EB))) (tY) (B0 0)) B5)) (ro:=[none,some (.tup [a,b])]) (mu:=mu) (λd=>eqS (Sg d) b) U3 (ts.map tbD) (λd hd=>by
  obtain ⟨t,_,rfl⟩:=Ax.mp hd
  refine ⟨_,rfl,?_,λ_=>?_⟩
  ·simp_arith only [tbD,Xm h,Sg]
  ·rw [MZ]
   simp_arith only [tbD,Tu,csD])
 rw [this,P6]
theorem Q7 {cs:List Str}(hw:CsW cs)(ds:List D):ds.all (ltB cs)=ds.all (HV cs):=by
 congr 1
 funext d
 exact SS hw d set_option maxHeartbeats 1000000 in
theorem Jw {ts:List Tb}(H:SK ts):∀ (f:Nat) {n:Nat} (d:D) {mu:Sto},n≤f->n≤8->okB 1002 d=true->DA (f+1) [scD ts,d,.int n] mu=some (Dr (Cj (DS ts) n d),mu)
 | f,0,d,mu,_,_,_=>by
  simp_arith only [DA,FZ,Kg,Int.natCast_zero,Cj,Dr]
 | 0,n+1,_,_,h,_,_=>by omega
 | f+1,n+1,d,mu,hf,h8,h=>by
  have n0:¬ (((n+1:Nat):Int)=0):=by omega
  have n1:((n+1:Nat):Int)-1=(n:Int):=by omega
  have hl:=FP h
  rw [DA]
  cases d with
  | tup ds =>
   simp_arith only [FZ,Kg,n0,XZ]
   by_cases l:(decide ((ds.length:Int)=2)||decide ((ds.length:Int)=3))=true
   ·rw [Bool.or_eq_true,Ae,Ae] at l
    match ds,l,h,hl with
    | [],l,_,_=>simp at l
    | [a],l,_,_=>simp at l
    | a::b::e::g::r,l,_,_=>simp at l;omega
    | [a,b],l,h,hl =>
     have hb:=GK h b (by simp)
     have d22:decide (((2:Nat):Int)=2)=true:=rfl
     have d22':decide ((2:Int)=2)=true:=rfl
     cases a with
     | str w =>
      have ew:eqG (.str w) (.str "of") mu=some (.bl (decide (w="of")),mu):=MX P0
      simp_arith only [d22,ew,Kg,d22']
      by_cases cw:w="of"
      ·have e:Cj (DS ts) (n+1) (.tup [.str "of",b])=(fnd ts b).head?:=T8 (λt ht=>(H.ok t ht).nw) b
       have lc:=YN (mu:=mu) (ts:=ts) (a:=.str "of") hb
       subst cw
       rw [e]
       have ew':∀ m:Sto,eqG (.str (Str.ofString "of")) (.str (Str.ofString "of")) m=some (.bl true,m):=λm=>by
        have:=MX (P0 (mu:=m) (i:="of") (j:="of"))
        simpa using this
       simp_arith only [bne_self_eq_false,ew',scD,lc,Pm (SU _),Ag]
       cases fnd ts b with
       | nil=>simp [Dr]
       | cons x xs =>
        have:(xs.length+1==0)=false:=by simp
        simp_arith only [this,Dr,List.head?_cons]
      ·have:Cj (DS ts) (n+1) (.tup [.str w,b])=none:=by
        simp only [Cj,ofC,cw,decide_false,BA,AH,A4]
       simp_arith only [cw,ew,this,Dr]
       rfl
     | ref k=>cases DO (lows hl (.ref k) (by simp))
     | _=>simp_arith only [d22,Cj,Dr]
    | [a,b,e],l,h,hl =>
     have hb:=GK h b (by simp)
     have he:=GK h e (by simp)
     have hle:=FP he
     have d32:decide (((3:Nat):Int)=2)=false:=rfl
     have d32':decide ((3:Int)=2)=false:=rfl
     have d33:decide (((3:Nat):Int)=3)=true:=rfl
     cases a with
     | str w =>
      have ew:∀ x:Str,eqG (.str w) (.str x) mu=some (.bl (decide (w=x)),mu):=λx=>MX P0
      simp_arith only [d32,d33,ew,Kg,d32']
      by_cases cw:w="of"
      ·have:Cj (DS ts) (n+1) (.tup [.str "of",b,e])=none:=by
        simp only [Cj,if_true]
       simp_arith only [cw,ew,this,Dr]
       rfl
      ·have r1:=Jw H f (n:=n) b (mu:=mu) (by omega) (by omega) hb
       have E:Cj (DS ts) (n+1) (.tup [.str w,b,e])=match Cj (DS ts) n b with
         | none=>none
         | some one=>if w∈(["join","union","gap"]:List Str) then (match Cj (DS ts) n e with
          | none=>none
          | some other=>Lp one w other) else GI one w e:=by
        conv=>lhs;unfold Cj
        dsimp only
        rw [if_neg cw]
        all_goals rfl
       rw [E]
       have b0:((false != false):Bool)=false:=rfl
       simp_arith only [cw,ew,b0,n1,r1,NT,Hs]
       cases eo:Cj (DS ts) n b with
       | none=>simp_arith only [Dr,Option.isNone_none]
       | some one =>
        have lo:=Ft (JV H) n _ _ eo
        have oo:=KY (Wc H) n _ _ eo
        have p8:2 ^ n≤2 ^ 7:=Bx (by decide) (by omega)
        simp_arith only [ew,Dr,Option.isNone_some]
        by_cases c1:w="columns"
        ·subst c1
         have nm:¬ ((Str.ofString "columns")∈(["join","union","gap"]:List Str)):=by decide +kernel
         have nr:¬ (Str.ofString "columns"=Str.ofString "rows"):=by decide +kernel
         simp_arith only [ew,Jp (cs:=one) (mu:=mu) e (Hz (by decide) he),nm,GI,nr,TX oo.w]
         cases c:(wsB one.length e&&(LO e).all λx=>decide (x∈one)) with
         | false=>simp_arith only []
         | true =>
          rw [Ab] at c
          obtain ⟨ss,rfl,e2,_⟩:=Ks c.1
          simp_arith only [e2]
        ·by_cases c2:w="called"
         ·subst c2
          have nm:¬ ((Str.ofString "called")∈(["join","union","gap"]:List Str)):=by decide +kernel
          have nr:¬ (Str.ofString "called"=Str.ofString "rows"):=by decide +kernel
          have nc:¬ (Str.ofString "called"=Str.ofString "columns"):=by decide +kernel
          simp_arith only [ew,nc,LY oo.w (by omega) e (Hz (by decide) he),nm,GI,nr]
          rfl
         ·by_cases c3:w="rows"
          ·subst c3
           have nm:¬ ((Str.ofString "rows")∈(["join","union","gap"]:List Str)):=by decide +kernel
           simp_arith only [ew,c1,c2,nm,GI]
           cases e with
           | tup es =>
            have al:=G8 (m0:=mu) (tg:=gNm 0) (el:=B7 Dy (BY (B0 1) (BY (B0 0) B5))) (ro:=[none,some (csD one)]) (mu:=mu) (ltB one) es (λd hd=>⟨_,rfl,by simp_arith only [LQ d (lows hle d hd)]⟩)
            have T:LJ one (.tup es)=(Dg 1 4 (.tup es)&&es.all (HV one)):=rfl
            have T2:Dg 1 4 (.tup es)=(decide ((1:Int)≤es.length)&&decide ((es.length:Int)≤4)):=rfl
            rw [T,T2,← Q7 oo.w]
            simp_arith only []
            cases c:(decide ((1:Int)≤es.length)&&decide ((es.length:Int)≤4)) with
            | false=>simp_arith only []
            | true =>
             simp_arith only [al]
             cases es.all (ltB one) with
             | false=>simp_arith only []
             | true=>simp_arith only []
           | ref k=>cases DO hle
           | _=>simp_arith only [LJ]
          ·have r2:=Jw H f (n:=n) e (mu:=mu) (by omega) (by omega) he
           simp_arith only [ew,c1,c2,c3,n1,r2,NT,Hs,Qf]
           by_cases cm:w∈(["join","union","gap"]:List Str)
           ·cases eo2:Cj (DS ts) n e with
            | none=>simp_arith only [cm,Dr,Option.isNone_none]
            | some other =>
             have lo2:=Ft (JV H) n _ _ eo2
             simp_arith only [ew,cm,Dr,Option.isNone_some,Lp]
             by_cases cj:w="join"
             ·have l:=List.length_filter_le (λc=>!decide (c∈one)) other
              have za:CO (.tup (one.map D.str)) (.tup ((other.filter λc=>!decide (c∈one)).map D.str)) mu=some (csD (KO one other),mu):=by
               unfold CO
               dsimp only
               rw [if_pos (by simp only [Ag,AL];omega)]
               simp [csD,KO]
              have lc:=MI (m0:=mu) (mu:=mu) one other
              unfold csD at lc ⊢
              unfold csD at za
              simp_arith only [ew,cj,lc,za]
             ·have eq:eqG (csD one) (csD other) mu=some (.bl (decide (csD one=csD other)),mu):=MX (Wb (Gv one) (Gv other))
              simp_arith only [ew,cj,eq]
              by_cases c2:one=other
              ·subst c2;simp_arith only []
              ·have:¬ csD one=csD other:=λz=>c2 (PQ.mp z)
               simp_arith only [this,c2]
           ·have:GI one w e=none:=by simp only [GI,c1,c2,c3,A4]
            cases eo2:Cj (DS ts) n e with
            | none=>simp_arith only [cm,Dr,Option.isNone_none,this]
            | some other=>simp_arith only [cm,Dr,Option.isNone_some,this]
     | ref k=>cases DO (lows hl (.ref k) (by simp))
     | _=>simp_arith only [d32,d33,Cj,Dr]
   ·have:Cj (DS ts) (n+1) (.tup ds)=none:=by
     unfold Cj
     split
     ·rename_i e;injection e with e;subst e;simp at l
     ·rename_i e;injection e with e;subst e;simp at l
     ·rfl
    rw [Bool.not_eq_true] at l
    simp_arith only [l,this,Dr]
  | ref k=>cases DO hl
  | _=>simp_arith only [FZ,Kg,n0,Cj,Dr]
end PG
namespace PV
open PySem L2 PyProof.Rows K1
variable {mu:Sto}
theorem WK {r:Nat}{ds ys:List D}(h:mu[r]? = some (.lst ds))(hl:ds.length+ys.length≤sizeLine){ro:Ro}{i:Nat}{e:Ex}(h1:B0 i ro mu=some (.ref r,mu))(h2:e ro mu=some (.lst ys,mu)):TK (B0 i) (BY e B5) ro mu=some (.non,mu.set r (.lst (ds++ys))):=by
 have ok:EF mu (.ref r)=true:=by simp [EF,h]
 have sq:sq1 [.lst ys] mu=some ys:=rfl
 simp only [TK,h1,RA,ok,if_true,Yc,Yh,h2,sq,h,hl]
theorem RF (L:List Str):∃ L':List Str,Fp (L.map D.str)=L'.map D.str∧L'.Nodup∧∀ x,x∈L' ↔ x∈L:=by
 have e:=Kl L []
 refine ⟨L.foldl Hy [],e.symm,?_,λx=>?_⟩
 ·have:=Ov (L.map D.str) [] List.nodup_nil
  rw [← show (L.foldl Hy []).map D.str=(L.map D.str).foldl E9 [] from e] at this
  exact DI.mp this
 ·have:=Mk (L.map D.str) [] (.str x)
  rw [← show (L.foldl Hy []).map D.str=(L.map D.str).foldl E9 [] from e] at this
  simp only [Ax,D.str.injEq,exists_eq_right,AR,false_or] at this
  exact this
theorem Vs {ss:List Str}(h:ss.length<64):Pf [.set (ss.map D.str)] mu=some (.lst (G2 (ss.map D.str)),mu):=by
 unfold Pf
 rw [Xg h]
end PV
namespace PG
open PySem L2 PV PyProof.Rows K1
variable {mu:Sto}
structure Sch (ts:List Tb):Prop where
 k:SK ts
 st:∃ st:List Str,st.length≤5∧∀ t∈ts,∀ p∈t.cs,∀ x∈p.2,x∈st
theorem Sm {st:List Str}{ts:List Tb}(h:(ts.map tbD).all (tabS st)=true):∀ t∈ts,∀ p∈t.cs,∀ x∈p.2,x∈st:=by
 rw [List.all_map,Ao] at h
 intro t ht p hp x hx
 have h1:(t.cs.map clD).all (Ul st)=true:=h t ht
 rw [List.all_map,Ao] at h1
 have h2:(p.2.map D.str).all (inS st)=true:=h1 p hp
 rw [List.all_map,Ao] at h2
 simpa [inS] using h2 x hx
noncomputable def OD:Sx:=(sEx (TK (B0 1) (BY (B7 Ls (BY (B0 6) B5)) B5)))
theorem SW {st:List Str}{t:Tb}(hk:TbK t)(hs:∀ p∈t.cs,∀ x∈p.2,x∈st){m0:Sto}{sc a b c:D}{x5 x6:Option D}{L:List Str}(hL:L.length≤1000)(hLs:∀ x∈L,x∈st∧IsW x) :
  ∃ y5 y6,∃ L':List Str,Hc none m0 (gTp 2 (Cy (gNm 5) (Cy (gNm 6) EB))) OD (t.cs.map clD) [some sc,some (.ref mu.length),some a,some b,some c,x5,x6] (mu++[.lst (L.map D.str)])=some ((.nx,[some sc,some (.ref mu.length),some a,some b,some c,y5,y6]),mu++[.lst (L'.map D.str)])∧L'.length≤L.length+16∧(∀ x∈L',x∈st∧IsW x)∧L'≠[]:=by
 obtain ⟨ro',m',e,⟨y5,y6,rfl⟩,L',rfl,b1,b2,b3⟩:=Hm (m0:=m0) (tg:=gTp 2 (Cy (gNm 5) (Cy (gNm 6) EB))) (body:=OD) (λi ro m=>(∃ y5 y6,ro=[some sc,some (.ref mu.length),some a,some b,some c,y5,y6])∧∃ L':List Str,m=mu++[.lst (L'.map D.str)]∧L'.length≤L.length+4*i∧(∀ x∈L',x∈st∧IsW x)∧(i≠0->L'≠[])) (t.cs.map clD) 0 _ _
  ⟨⟨x5,x6,rfl⟩,L,rfl,by omega,hLs,λh=>absurd rfl h⟩ λj d ro m ed hi=>by
   obtain ⟨⟨y5,y6,rfl⟩,L',rfl,b1,b2,b3⟩:=hi
   rw [Au] at ed
   cases q:t.cs[j]? with
   | none=>rw [q] at ed;cases ed
   | some p =>
    rw [q] at ed
    have ed':clD p=d:=AJ ed
    subst ed'
    have hj:=(Af.mp q).1
    have hm:p∈t.cs:=Ap q
    have c4:=hk.ok.c4
    have v4:=hk.ok.vs p hm
    have ex:=WK (mu:=mu++[.lst (L'.map D.str)]) (r:=mu.length) (ds:=L'.map D.str) (ys:=p.2.map D.str) (by simp) (by simp only [Ag,AL];omega) (ro:=[some sc,some (.ref mu.length),some a,some b,some c,some (.str p.1),some (.tup (p.2.map D.str))]) (i:=1) (e:=B7 Ls (BY (B0 6) B5)) rfl rfl
    refine ⟨[some sc,some (.ref mu.length),some a,some b,some c,some (.str p.1),some (.tup (p.2.map D.str))],mu++[.lst (L'.map D.str)],_,mu++[.lst ((L'++p.2).map D.str)],?_,?_,⟨some (.str p.1),some (.tup (p.2.map D.str)),rfl⟩,L'++p.2,rfl,?_,?_,?_⟩
    ·simp_arith only [clD]
    ·unfold OD
     simp_arith only [ex,AW]
     simp
    ·rw [Aq];omega
    ·intro x hx
     rcases AI.mp hx with hx|hx
     ·exact b2 x hx
     ·exact ⟨hs p hm x hx,hk.vw p hm x hx⟩
    ·intro _ z
     exact v4.1 (List.append_eq_nil_iff.mp z).2
 have c1:=hk.ok.c1
 have c4:=hk.ok.c4
 rw [Ag] at b1 b3
 exact ⟨y5,y6,L',e,by omega,b2,b3 (by omega)⟩
theorem Q3 {ts:List Tb}(H:Sch ts)(hf:Flat mu):∃ ws:List Str,FU [scD ts] mu=some (.lst (ws.map D.str),mu)∧ws≠[]∧ws.length≤5∧∀ x∈ws,IsW x:=by
 obtain ⟨st,s5,hs⟩:=H.st
 obtain ⟨ro',m',e,⟨y2,y3,y4,y5,y6,rfl⟩,L,rfl,b1,b2,b3⟩:=Hm (m0:=mu++[.lst []]) (tg:=gTp 3 (Cy (gNm 2) (Cy (gNm 3) (Cy (gNm 4) EB)))) (body:=Lc (D0 (B0 3)) (gTp 2 (Cy (gNm 5) (Cy (gNm 6) EB))) OD) (λi ro m=>(∃ y2 y3 y4 y5 y6,ro=[some (scD ts),some (.ref mu.length),y2,y3,y4,y5,y6])∧∃ L:List Str,m=mu++[.lst (L.map D.str)]∧L.length≤16*i∧(∀ x∈L,x∈st∧IsW x)∧(i≠0->L≠[])) (ts.map tbD) 0 [some (scD ts),some (.ref mu.length),none,none,none,none,none] (mu++[.lst []])
  ⟨⟨_,_,_,_,_,rfl⟩,[],rfl,by simp,(λ_ h=>nomatch h),λh=>absurd rfl h⟩ λj d ro m ed hi=>by
   obtain ⟨⟨y2,y3,y4,y5,y6,rfl⟩,L,rfl,b1,b2,b3⟩:=hi
   rw [Au] at ed
   cases q:ts[j]? with
   | none=>rw [q] at ed;cases ed
   | some t =>
    rw [q] at ed
    have ed':tbD t=d:=AJ ed
    subst ed'
    have hj:=(Af.mp q).1
    have ht:t∈ts:=Ap q
    have l4:=H.k.l4
    obtain ⟨z5,z6,L',e,l1,l2,l3⟩:=SW (mu:=mu) (H.k.ok t ht) (hs t ht) (m0:=mu++[.lst (L.map D.str)]) (sc:=scD ts) (a:=.str t.nm) (b:=.tup (t.cs.map clD)) (c:=.int t.ks) (x5:=y5) (x6:=y6) (L:=L) (by omega) b2
    refine ⟨[some (scD ts),some (.ref mu.length),some (.str t.nm),some (.tup (t.cs.map clD)),some (.int t.ks),y5,y6],mu++[.lst (L.map D.str)],[some (scD ts),some (.ref mu.length),some (.str t.nm),some (.tup (t.cs.map clD)),some (.int t.ks),z5,z6],mu++[.lst (L'.map D.str)],?_,?_,⟨_,_,_,_,_,rfl⟩,L',rfl,by omega,l2,λ_=>l3⟩
    ·simp_arith only [tbD]
    ·simp_arith only [e]
 have l1:=H.k.l1
 have l4:=H.k.l4
 rw [Ag] at b1 b3
 obtain ⟨L',o1,o2,o3⟩:=RF L
 have l5:L'.length≤5:=AK (NC o2 λx hx=>(b2 x ((o3 x).mp hx)).1) s5
 obtain ⟨us,ue,up⟩:=Me (EL (L'.map D.str))
 refine ⟨us,?_,λz=>?_,by rw [up.length_eq];exact l5,λx hx=>(b2 x ((o3 x).mp (up.mem_iff.mp hx))).2⟩
 ·have sf:J8 [.ref mu.length] (mu++[.lst (L.map D.str)])=some (.set (L'.map D.str),mu++[.lst (L.map D.str)]):=by
   have g:(mu++[MO.lst (L.map D.str)])[mu.length]? = some (.lst (L.map D.str)):=by simp
   have l:(L.map D.str).length<4000:=by rw [Ag];omega
   simp only [J8,sq1,Im,G6,Du,g,PV.strs_map,l,if_true,o1]
  have so:=Vs (mu:=mu++[.lst (L.map D.str)]) (ss:=L') (by omega)
  unfold scD at e ⊢
  unfold OD at e
  simp_arith only [FU,H0,e,sf,so,ue]
  have ok:DF 0 (.lst (us.map D.str))=true:=by
   simp only [DF]
   exact Hq (P5 us)
  have ft:Flat ((mu++[MO.lst (L.map D.str)]).take mu.length):=by
   rw [List.take_left']
   ·exact hf
   ·rfl
  rw [NH ok ft,List.take_left']
  rfl
 ·have:L=[]:=by
   cases L with
   | nil=>rfl
   | cons x r =>
    have:x∈us:=up.mem_iff.mpr ((o3 x).mpr (.head _))
    rw [z] at this
    cases this
  exact b3 (by omega) this
theorem Ig {k n:Nat}{s:D}{ss:List Str}(hs:s=.lst (ss.map D.str)∨s=.tup (ss.map D.str))(hn:ss≠[])(hl:ss.length<5000)(h:HandOk mu k (n+1)):∃ x mu',CA [.ref k,s] mu=some (.str x,mu')∧Fr k n mu mu'∧x∈ss:=by
 obtain ⟨d,mu',e,fr,hd⟩:=pick_run (ds:=ss.map D.str) hs (by simpa using hn) (by rw [Ag];omega) h
 obtain ⟨x,hx,rfl⟩:=Ax.mp hd
 exact ⟨x,mu',e,fr,hx⟩
theorem NN {k n:Nat}{cs ws:List Str}(hc:Nu cs)(hl:cs.length≤2000)(hw:ws≠[])(hwl:ws.length≤5)(hww:∀ x∈ws,IsW x)(h:HandOk mu k (n+3)):Run (Ei [.ref k,csD cs,.lst (ws.map D.str)] mu) k n mu λd=>HV cs d=true∧okB 10 d=true:=by
 obtain ⟨a,m1,e1,f1,ha⟩:=Ig (s:=.lst ((["is","not","like","unlike","is"]:List Str).map D.str)) (n:=n+2) (.inl rfl) (by simp) (by decide) h
 obtain ⟨b,m2,e2,f2,hb⟩:=Ig (s:=csD cs) (n:=n+1) (.inr rfl) hc.ne (by omega) f1.hand
 have wb:=Df.mpr (hc.w b hb)
 have e1':CA [.ref k,.lst [.str "is",.str "not",.str "like",.str "unlike",.str "is"]] mu=some (.str a,m1):=e1
 have E:∀ c,HV cs (.tup [.str a,.str b,.str c])=((wB a&&(wB b&&wB c))&&(if decide (a∈(["is","not"]:List Str))=true then decide (b∈cs) else decide (a∈(["like","unlike"]:List Str))&&(decide (b∈cs)&&decide (c∈cs)))):=λc=>rfl
 by_cases c1:a∈(["is","not"]:List Str)
 ·obtain ⟨c,m3,e3,f3,hc3⟩:=Ig (s:=.lst (ws.map D.str)) (n:=n) (.inl rfl) hw (by omega) f2.hand
  refine ⟨.tup [.str a,.str b,.str c],m3,?_,(f1.trans f2).trans f3,?_,rfl⟩
  ·simp_arith only [Ei,HC,e1',e2,Jc,c1,e3]
  ·have wa:wB a=true:=by
    simp only [An,AR,BG] at c1
    rcases c1 with rfl|rfl
    ·exact Df.mpr Sw
    ·exact Df.mpr QE
   rw [E,wa,wb,Df.mpr (hww c hc3)]
   simp [c1,hb]
 ·obtain ⟨c,m3,e3,f3,hc3⟩:=Ig (s:=csD cs) (n:=n) (.inr rfl) hc.ne (by omega) f2.hand
  have c2:a∈(["like","unlike"]:List Str):=by
   simp only [An,AR,BG,not_or] at ha c1 ⊢
   rcases ha with h|h|h|h|h
   ·exact absurd h c1.1
   ·exact absurd h c1.2
   ·exact .inl h
   ·exact .inr h
   ·exact absurd h c1.1
  refine ⟨.tup [.str a,.str b,.str c],m3,?_,(f1.trans f2).trans f3,?_,rfl⟩
  ·simp_arith only [Ei,HC,e1',e2,Jc,c1,e3]
  ·have wa:wB a=true:=by
    simp only [An,AR,BG] at c2
    rcases c2 with rfl|rfl
    ·exact Df.mpr NI
    ·exact Df.mpr Lb
   rw [E,wa,wb,Df.mpr (hc.w c hc3)]
   simp [c1,c2,hb,hc3]
theorem Kp {kn:Kn}:∀ (n:Nat) (d:D) (cs:List Str),Cj kn n d=some cs->Cj kn (n+1) d=some cs
 | 0,_,_,h=>by cases h
 | n+1,d,cs,h=>by
  unfold Cj at h ⊢
  split at h
  ·exact h
  ·rename_i w a b
   split at h
   ·cases h
   ·rename_i cw
    rw [if_neg cw]
    split at h
    ·cases h
    ·rename_i one e1
     rw [Kp n _ _ e1]
     dsimp only
     split at h
     ·rename_i cm
      rw [if_pos cm]
      split at h
      ·cases h
      ·rename_i other e2
       rw [Kp n _ _ e2]
       exact h
     ·rename_i cm
      rw [if_neg cm]
      exact h
  ·cases h
theorem MJ {kn:Kn}{n m:Nat}{d:D}{cs:List Str}(h:Cj kn n d=some cs)(l:n≤m):Cj kn m d=some cs:=by
 induction m with
 | zero =>
  have:n=0:=by omega
  subst this
  exact h
 | succ m ih =>
  by_cases c:n=m+1
  ·subst c;exact h
  ·exact Kp m d cs (ih (by omega))
theorem WL {ts:List Tb}{a:D}{x:Str}:FD none mu (gNm 0) (tV (B8 eqD (B8 ixG (B0 0) (eC (.int 0))) (B8 ixG (B0 1) (eC (.int 1))))) (B7 Fx (BY (eLC (D0 (B8 ixG (B0 0) (eC (.int 1)))) 2 [] (gTp 2 (Cy (gNm 0) (Cy (gNm 1) EB))) (tY) (B0 0)) B5)) [none,some (.tup [a,.str x])] (ts.map tbD) mu=some ((fnd ts (.str x)).map csD,mu):=by
 have:=JJ (m0:=mu) (tg:=gNm 0) (tt:=tV (B8 eqD (B8 ixG (B0 0) (eC (.int 0))) (B8 ixG (B0 1) (eC (.int 1))))) (el:=B7 Fx (BY (eLC (D0 (B8 ixG (B0 0) (eC (.int 1)))) 2 [] (gTp 2 (Cy (gNm 0) (Cy (gNm 1) EB))) (tY) (B0 0)) B5)) (ro:=[none,some (.tup [a,.str x])]) (mu:=mu) (λd=>eqS (Sg d) (.str x)) U3 (ts.map tbD) (λd hd=>by
  obtain ⟨t,_,rfl⟩:=Ax.mp hd
  refine ⟨_,rfl,?_,λ_=>?_⟩
  ·simp_arith only [tbD,Sg,eqS]
   first|rfl|(congr;done)|trace_state
  ·rw [MZ]
   simp_arith only [tbD,Tu,csD])
 rw [this,P6]
theorem UB {kn:Kn}{w:Str}{b:D}{cs:List Str}(h:ofC kn w b=some cs):w="of"∧∃ x,b=.str x:=by
 unfold ofC at h
 split at h
 ·rename_i c
  rw [Ab,Ae] at c
  split at h
  ·exact ⟨c.1,_,rfl⟩
  ·cases h
 ·cases h
theorem IG {ts:List Tb}(H:SK ts):∀ (f:Nat) {n:Nat} {d:D} {cs:List Str} {mu:Sto},n≤f->n≤8->Cj (DS ts) n d=some cs->Ds f [scD ts,d] mu=some (csD cs,mu)
 | f,0,d,cs,mu,_,_,h=>by cases h
 | 0,n+1,_,_,_,h,_,_=>by omega
 | f+1,n+1,d,cs,mu,hf,h8,h=>by
  rw [Ds]
  unfold Cj at h
  split at h
  ·rename_i w b
   obtain ⟨rfl,x,rfl⟩:=UB h
   have lc:=WL (mu:=mu) (ts:=ts) (a:=.str "of") (x:=x)
   rw [T8 (λt ht=>(H.ok t ht).nw)] at h
   unfold scD
   simp_arith only [Fy,lc]
   cases e:fnd ts (.str x) with
   | nil=>rw [e] at h;cases h
   | cons y ys =>
    rw [e] at h
    cases h
    simp_arith only []
  ·rename_i w a b
   split at h
   ·cases h
   ·rename_i cw
    split at h
    ·cases h
    ·rename_i one e1
     have r1:=IG H f (mu:=mu) (by omega) (by omega) e1
     have lo:=Ft (JV H) n _ _ e1
     have p8:2 ^ n≤2 ^ 7:=Bx (by decide) (by omega)
     simp_arith only [Fy,cw,r1]
     split at h
     ·rename_i cm
      split at h
      ·cases h
      ·rename_i other e2
       have r2:=IG H f (mu:=mu) (by omega) (by omega) e2
       have lo2:=Ft (JV H) n _ _ e2
       have n1:¬ (w="columns"):=by rintro rfl;revert cm;decide +kernel
       have n2:¬ (w="called"):=by rintro rfl;revert cm;decide +kernel
       unfold Lp at h
       split at h
       ·rename_i cj
        cases h
        subst cj
        have l:=List.length_filter_le (λc=>!decide (c∈one)) other
        have za:CO (.tup (one.map D.str)) (.tup ((other.filter λc=>!decide (c∈one)).map D.str)) mu=some (csD (KO one other),mu):=by
         unfold CO
         dsimp only
         rw [if_pos (by simp only [Ag,AL];omega)]
         simp [csD,KO]
        have lc:=MI (m0:=mu) (mu:=mu) one other
        unfold csD at lc r2 ⊢
        unfold csD at za
        simp_arith only [n1,n2,r2,lc,za]
       ·rename_i cj
        split at h
        ·cases h
         simp_arith only [n1,n2,cj]
        ·cases h
     ·rename_i cm
      unfold GI at h
      split at h
      ·rename_i c1
       split at h
       ·cases h
        have n1:¬ (w="columns"):=by rw [c1];decide +kernel
        have n2:¬ (w="called"):=by rw [c1];decide +kernel
        have n3:¬ (w="join"):=by rw [c1];decide +kernel
        simp_arith only [n1,n2,n3]
       ·cases h
      ·split at h
       ·rename_i c1 c2
        split at h
        ·rename_i c
         cases h
         rw [Ab] at c
         obtain ⟨ss,rfl,e,_⟩:=Ks c.1
         rw [e]
         simp_arith only [c2]
        ·cases h
       ·split at h
        ·rename_i c1 c2 c3
         split at h
         ·rename_i c
          split at h
          ·cases h
           obtain ⟨ps,rfl,e2,nd,_⟩:=KU c
           rw [e2]
           have ga:=GV (m0:=mu) (tg:=gNm 0) (el:=JN (B0 1) (BY (B0 0) (BY (B0 0) B5))) (ro:=[none,some (.dct ((ps.map prK).map (·.1)) ((ps.map prK).map (·.2)))]) (mu:=mu) (λd=>match d with|.str c=>.str (EI ps c)|_=>.non) (one.map D.str) (λd hd=>by
            obtain ⟨c,_,rfl⟩:=Ax.mp hd
            exact ⟨_,rfl,O3 rfl rfl⟩)
           have e4:(one.map D.str).map (λd=>match d with|.str c=>D.str (EI ps c)|_=>.non)=(one.map (EI ps)).map D.str:=by
            rw [AA,AA]
            rfl
           rw [e4] at ga
           have zl:Ls [.tup (ps.map prD)] mu=some (.lst (ps.map prD),mu):=rfl
           subst c3
           simp_arith only [c2,zl,T5 (.inr rfl) nd,csD,ga]
          ·cases h
         ·cases h
        ·cases h
  ·cases h
structure Bg (n:Nat) (d:D) (b:Int):Prop where
 lo:0≤b
 hi:b≤300*2 ^ n
 run:∀ (m:Nat) (mu:Sto),n≤m->DL m [d] mu=some (.int b,mu)
structure Good (kn:Kn) (n:Nat) (d:D):Prop where
 ok:okB 1000 d=true
 cs:∃ cs,Cj kn n d=some cs
 bg:∃ b,Bg n d b
theorem MW {n m:Nat}(l:n≤m):(2:Int) ^ n≤2 ^ m:=by
 have:=Bx (n:=2) (by decide) l
 exact_mod_cast this
theorem Good.up {kn:Kn}{n m:Nat}{d:D}(h:Good kn n d)(l:n≤m):Good kn m d:=by
 obtain ⟨a,⟨cs,b⟩,⟨x,c1,c2,c3⟩⟩:=h
 refine ⟨a,⟨cs,MJ b l⟩,x,c1,?_,λm' mu h=>c3 m' mu (by omega)⟩
 have:=MW l
 omega
theorem UL {kn:Kn}{x:Str}{cs:List Str}(h:FC kn x=some cs)(hx:IsW x):Good kn 1 (.tup [.str "of",.str x]):=by
 refine ⟨rfl,⟨cs,?_⟩,6,by decide,by decide,λm mu l=>?_⟩
 ·have wb:CD (.str x)=true:=Df.mpr hx
  simp only [Cj,ofC,wb,decide_true,Be,if_true,h]
 ·match m,l with
  | m+1,_=>simp_arith only [DL,E5]
theorem ok3 {w:Str}{a b:D}(ha:okB 1000 a=true)(hb:okB 1000 b=true):okB 1000 (.tup [.str w,a,b])=true:=by
 simp only [okB,HR,ha,hb,List.length_cons,List.length_nil,Bq,Be]
 rfl
theorem JL {kn:Kn}{n:Nat}{w:Str}{a b:D}{one cs:List Str}(h:Good kn n a)(e:Cj kn n a=some one)(hb:okB 1000 b=true)(hw:w="rows"∨w="columns"∨w="called")(hs:GI one w b=some cs):Good kn (n+1) (.tup [.str w,a,b]):=by
 obtain ⟨b0,c1,c2,c3⟩:=h.bg
 have n1:¬ (w="of"):=by rcases hw with rfl|rfl|rfl<;>decide +kernel
 have n2:¬ (w="join"):=by rcases hw with rfl|rfl|rfl<;>decide +kernel
 have n3:¬ (w="union"):=by rcases hw with rfl|rfl|rfl<;>decide +kernel
 have n4:¬ (w∈(["join","union","gap"]:List Str)):=by rcases hw with rfl|rfl|rfl<;>decide +kernel
 refine ⟨ok3 h.ok hb,⟨cs,?_⟩,b0,c1,?_,λm mu l=>?_⟩
 ·simp only [Cj,n1,A4,e,n4,hs]
 ·have:=MW (Bc n)
  have h2:(2:Int) ^ (n+1)=2 ^ n*2:=Int.pow_succ 2 n
  have h3:(0:Int)<2 ^ n:=Int.pow_pos (by decide)
  omega
 ·match m,l with
  | m+1,l=>simp_arith only [DL,E5,n1,n2,n3,c3 m mu (by omega),Int.add_zero]
theorem LL {kn:Kn}{n:Nat}{w:Str}{a b:D}{cs:List Str}(h:Good kn n a)(h':Good kn n b)(e:Cj kn n a=some cs)(e':Cj kn n b=some cs)(hw:w="union"∨w="gap"):Good kn (n+1) (.tup [.str w,a,b]):=by
 obtain ⟨b0,c1,c2,c3⟩:=h.bg
 obtain ⟨b1,d1,d2,d3⟩:=h'.bg
 have n1:¬ (w="of"):=by rcases hw with rfl|rfl<;>decide +kernel
 have n2:¬ (w="join"):=by rcases hw with rfl|rfl<;>decide +kernel
 have n4:w∈(["join","union","gap"]:List Str):=by rcases hw with rfl|rfl<;>decide +kernel
 have h2:(2:Int) ^ (n+1)=2 ^ n*2:=Int.pow_succ 2 n
 have h3:(0:Int)<2 ^ n:=Int.pow_pos (by decide)
 have hc:∃ cs,Cj kn (n+1) (.tup [.str w,a,b])=some cs:=⟨cs,by simp only [Cj,n1,A4,e,n4,if_true,e',Lp,n2]⟩
 by_cases u:w="union"
 ·refine ⟨ok3 h.ok h'.ok,hc,b0+b1,by omega,by omega,λm mu l=>?_⟩
  match m,l with
  | m+1,l =>
   subst u
   simp_arith only [DL,E5,n1,n2,c3 m mu (by omega),d3 m mu (by omega)]
 ·refine ⟨ok3 h.ok h'.ok,hc,b0,by omega,by omega,λm mu l=>?_⟩
  match m,l with
  | m+1,l=>simp_arith only [DL,E5,n1,n2,u,c3 m mu (by omega),Int.add_zero]
theorem QX {kn:Kn}{n:Nat}{a b:D}{c1 c2:Int}(h:Good kn n a)(h':Good kn n b)(hn:n≤12)(g:Bg n a c1)(g':Bg n b c2)(l:c1*c2<300):Good kn (n+1) (.tup [.str "join",a,b]):=by
 obtain ⟨x1,e1⟩:=h.cs
 obtain ⟨x2,e2⟩:=h'.cs
 have n1:¬ (Str.ofString "join"=Str.ofString "of"):=by decide +kernel
 have n4:(Str.ofString "join")∈(["join","union","gap"]:List Str):=by decide +kernel
 have h2:(2:Int) ^ (n+1)=2 ^ n*2:=Int.pow_succ 2 n
 have h3:(0:Int)<2 ^ n:=Int.pow_pos (by decide)
 have t12:=MW hn
 refine ⟨ok3 h.ok h'.ok,⟨KO x1 x2,?_⟩,c1*c2,Int.mul_nonneg g.lo g'.lo,by omega,λm mu l=>?_⟩
 ·simp only [Cj,n1,A4,e1,n4,if_true,e2,Lp]
 ·have cm:CMul c1 c2:=.inl ⟨by have:=g.lo;omega,by have:=g.hi;have:(2:Int) ^ 12=4096:=(by decide);omega⟩
  match m,l with
  | m+1,l=>simp_arith only [DL,E5,n1,g.run m mu (by omega),g'.run m mu (by omega),Lj cm]
noncomputable def dB (deep:Nat):Nat:=if deep≤2 then deep else 2*deep-2
theorem YF {hi:Int}{ss:List Str}(h0:ss≠[])(h4:(ss.length:Int)≤hi)(hd:ss.Nodup)(hw:∀ x∈ss,IsW x):wsB hi (csD ss)=true:=by
 have W:wsB hi (csD ss)=(Dg 1 hi (.tup (ss.map D.str))&&((ss.map D.str).all CD&&ndB (ss.map D.str))):=rfl
 have p:0<ss.length:=List.length_pos_iff.mpr h0
 rw [W]
 simp only [Ab,Dg,Ag,Ae,Ao,ndB]
 refine ⟨⟨by omega,by omega⟩,λd hd=>?_,DI.mpr hd⟩
 obtain ⟨x,hx,rfl⟩:=Ax.mp hd
 exact Df.mpr (hw x hx)
theorem XR {ts:List Tb}{t:Tb}(ht:t∈ts):∃ cs,FC (DS ts) t.nm=some cs:=by
 induction ts with
 | nil=>cases ht
 | cons u ts ih =>
  unfold DS
  rw [AM,FC]
  by_cases c:u.nm=t.nm
  ·rw [if_pos c];exact ⟨_,rfl⟩
  ·rw [if_neg c]
   rcases An.mp ht with rfl|ht
   ·exact absurd rfl c
   ·exact ih ht
theorem RH {k n:Nat}{cs ws:List Str}(hc:Nu cs)(hl:cs.length≤2000)(hw:ws≠[])(hwl:ws.length≤5)(hww:∀ x∈ws,IsW x){j:Nat}(hj:j≤2)(h:HandOk mu k (n+6)){m0:Sto}:∃ ys mu',FD none m0 (gNm 0) tY (B7 Ei (BY (B0 1) (BY (B0 2) (BY (B0 3) B5)))) [none,some (.ref k),some (csD cs),some (.lst (ws.map D.str))] (Fz 0 j) mu=some (ys,mu')∧Fr k n mu mu'∧ys.length=j∧∀ d∈ys,HV cs d=true∧okB 10 d=true:=by
 obtain ⟨ys,mu',e,fr,l,hp⟩:=TF (m0:=m0) (tg:=gNm 0) (el:=B7 Ei (BY (B0 1) (BY (B0 2) (BY (B0 3) B5)))) (ro:=[none,some (.ref k),some (csD cs),some (.lst (ws.map D.str))]) (λi m=>Fr k (n+6-3*i) mu m) (λ_ d=>HV cs d=true∧okB 10 d=true) (Fz 0 j) 0 mu (.refl h) λi d m ed fr=>by
  obtain ⟨rfl,hi⟩:=NG ed
  obtain ⟨y,m1,e1,f1,hy⟩:=NN (n:=n+6-3*(0+i+1)) hc hl hw hwl hww (fr.hand.mono (by omega))
  exact ⟨_,y,m1,rfl,by simp_arith only [e1],hy,fr.trans f1⟩
 rw [K7] at l
 refine ⟨ys,mu',e,fr.mono (by rw [K7];omega),l,λd hd=>?_⟩
 obtain ⟨i,hi⟩:=A7.mp hd
 exact hp i d hi
theorem Sn {cs:List Str}{ys:List D}(l1:1≤ys.length)(l4:ys.length≤4)(h:∀ d∈ys,HV cs d=true):LJ cs (.tup ys)=true:=by
 have e:LJ cs (.tup ys)=(Dg 1 4 (.tup ys)&&ys.all (HV cs)):=rfl
 rw [e]
 simp only [Dg,Ab,Ae,Ao]
 exact ⟨⟨by omega,by omega⟩,h⟩
theorem Xe {cs:List Str}{c w:Str}(nd:cs.Nodup)(hw:w∉cs):(cs.map (EI [(c,w)])).Nodup:=by
 rw [AX,List.pairwise_map]
 refine List.Pairwise.imp_of_mem (λ{a b} ha hb hne e=>hne ?_) (AX.mp nd)
 unfold EI EI at e
 dsimp only at e
 by_cases c1:c=a
 ·by_cases c2:c=b
  ·rw [← c1,← c2]
  ·rw [if_pos c1,if_neg c2] at e
   rw [e] at hw
   exact absurd hb hw
 ·by_cases c2:c=b
  ·rw [if_neg c1,if_pos c2] at e
   rw [← e] at hw
   exact absurd ha hw
  ·rw [if_neg c1,if_neg c2] at e
   exact e
theorem TY (ps:List (Str×Str)):Em (ps.map prD)=true:=by
 induction ps with
 | nil=>rfl
 | cons p ps ih=>rw [AM,Em,ih];rfl
theorem UE (ss:List Str):LO (csD ss)=ss:=by simp [LO,csD,PV.strs_map]
noncomputable def frees:List Str:=["z9","y8","x7","w6"]
theorem UJ:∀ x∈frees,IsW x:=by
 intro x hx
 have:frees.all wB=true:=by decide +kernel
 exact Df.mp (Ao.mp this x hx)
set_option maxHeartbeats 4000000 in
theorem Kd {ts:List Tb}(H:Sch ts){k:Nat}:∀ (f:Nat) {n deep:Nat} {mu:Sto},1≤deep->deep≤f->deep≤5->Flat mu->HandOk mu k (n+20*3 ^ deep)->Run (Ef f [.ref k,scD ts,.int deep] mu) k n mu λd=>Good (DS ts) (dB deep) d
 | 0,n,deep,mu,h1,hf,_,_,_=>by omega
 | f+1,n,deep,mu,h1,hf,h5,hfl,hh=>by
  have p3:20≤20*3 ^ deep:=by have:=Nat.pos_of_ne_zero (n:=3 ^ deep) (by simp);omega
  have p3':60≤20*3 ^ deep:=by
   have:=Bx (n:=3) (by decide) h1
   omega
  obtain ⟨_,m1,e1,f1,way,rfl,a0,a1⟩:=CY (m:=8) (n:=n+20*3 ^ deep-1) (hh.mono (by omega)) (by decide) (by decide)
  have mk:∀ d:D,Good (DS ts) 1 d->Good (DS ts) (dB deep) d:=λd g=>g.up (by unfold dB;split<;>omega)
  rw [Ef]
  by_cases c0:(decide ((deep:Int)<2)||decide (way=0))=true
  ·obtain ⟨d,m2,e2,f2,hd⟩:=pick_run (s:=scD ts) (ds:=ts.map tbD) (n:=n) (.inr rfl) (λz=>by have l:=congrArg List.length z;rw [Ag,List.length_nil] at l;have:=H.k.l1;omega) (by rw [Ag];have:=H.k.l4;omega) (f1.hand.mono (by omega))
   obtain ⟨t,ht,rfl⟩:=Ax.mp hd
   obtain ⟨cs,hcs⟩:=XR ht
   refine ⟨_,m2,?_,f1.trans f2,mk _ (UL hcs (H.k.ok t ht).nw)⟩
   rw [Bool.or_eq_true,Ae,Ae] at c0
   rcases c0 with c0|c0
   ·simp_arith only [CU,e1,c0,e2,tbD]
   ·by_cases c:(deep:Int)<2
    ·simp_arith only [CU,e1,c,e2,tbD]
    ·simp_arith only [CU,e1,c,c0,e2,tbD]
  ·rw [Bool.or_eq_true,Ae,Ae,not_or] at c0
   obtain ⟨c1,c2⟩:=c0
   have d2:2≤deep:=by omega
   have dd:(deep:Int)-1=((deep-1:Nat):Int):=by omega
   have pw:3 ^ deep=3*3 ^ (deep-1):=by
    have:deep=(deep-1)+1:=by omega
    rw [this,Nat.pow_succ]
    simp
    omega
   have p1:1≤3 ^ (deep-1):=Nat.pos_of_ne_zero (by simp)
   obtain ⟨one,m2,e2,f2,g1⟩:=Kd H f (n:=n+20*3 ^ (deep-1)+15) (deep:=deep-1) (mu:=m1) (by omega) (by omega) (by omega) (f1.flat hfl) (f1.hand.mono (by omega))
   have fr2:=f1.trans f2
   obtain ⟨cs,ec⟩:=g1.cs
   have dl:dB (deep-1)+1≤dB deep:=by unfold dB;split<;>split<;>omega
   have d7:dB (deep-1)≤6:=by unfold dB;split<;>omega
   have lc:=IG H.k 10 (n:=dB (deep-1)) (mu:=m2) (by omega) (by omega) ec
   obtain ⟨ws,es,w1,w2,w3⟩:=Q3 H (fr2.flat hfl)
   have co:=KY (Wc H.k) _ _ _ ec
   have cl:=Ft (JV H.k) _ _ _ ec
   have c6:2 ^ dB (deep-1)≤2 ^ 6:=Bx (by decide) d7
   have cl2:cs.length≤2000:=by omega
   have cp:0<cs.length:=List.length_pos_iff.mpr co.ne
   have up1:∀ d:D,Good (DS ts) (dB (deep-1)+1) d->Good (DS ts) (dB deep) d:=λd g=>g.up dl
   by_cases w3':way<3
   ·-- rows
    obtain ⟨_,m3,e3,f3,t3,rfl,b0,b1⟩:=CY (m:=2) (n:=n+20*3 ^ (deep-1)+14) f2.hand (by decide) (by decide)
    obtain ⟨j,hj⟩:∃ j:Nat,1+t3=(j:Int):=⟨(1+t3).toNat,by omega⟩
    obtain ⟨ys,m4,e4,f4,l4,hy⟩:=RH (m0:=m3) (n:=n) (k:=k) (mu:=m3) (j:=j) co cl2 w1 w2 w3 (by omega) (f3.hand.mono (by omega))
    have ts1:LJ cs (.tup ys)=true:=Sn (by omega) (by omega) λd hd=>(hy d hd).1
    have oy:okB 1000 (.tup ys)=true:=by
     simp only [okB,Ab,Ae]
     exact ⟨by omega,Gy.mpr λd hd=>Hz (by decide) (hy d hd).2⟩
    refine ⟨.tup [.str "rows",one,.tup ys],m4,?_,(fr2.trans f3).trans f4,up1 _ (JL (cs:=cs) g1 ec oy (.inl rfl) (by simp only [GI,if_true,ts1]))⟩
    have rg:=QJ (mu:=m2) (ro:=[some (.ref k),some (scD ts),some (.int deep),some (.int way),some one,some (csD cs),some (.lst (ws.map D.str)),none,none,none,none]) (r:=BY (B8 CO (eC (.int 1)) (B7 Cg (BY (B0 0) (BY (eC (.int 2)) B5)))) B5) (n:=j) (m:=m3) (by simp_arith only [e3,hj]) (by omega) (by rw [AL];omega)
    rw [Int.toNat_natCast] at rg
    simp_arith only [CU,e1,c1,c2,dd,e2,lc,es,w3',rg,e4]
   ·by_cases w3e:way=3
    ·-- columns
     subst w3e
     obtain ⟨_,m3,e3,f3,at',rfl,b0,b1⟩:=CY (m:=cs.length) (n:=n+20*3 ^ (deep-1)+14) f2.hand (by omega) (by omega)
     obtain ⟨_,m4,e4,f4,t4,rfl,b2,b3⟩:=CY (m:=cs.length) (n:=n) (f3.hand.mono (by omega)) (by omega) (by omega)
     obtain ⟨a,ha⟩:∃ a:Nat,at'=(a:Int):=⟨at'.toNat,by omega⟩
     obtain ⟨j,hj⟩:∃ j:Nat,1+t4=(j:Int):=⟨(1+t4).toNat,by omega⟩
     subst ha
     have pm:(cs.drop a++cs.take a).Perm cs:=by
      have:=List.perm_append_comm (l₁:=cs.drop a) (l₂:=cs.take a)
      rw [List.take_append_drop] at this
      exact this
     have sub:((cs.drop a++cs.take a).take j).Sublist (cs.drop a++cs.take a):=List.take_sublist _ _
     have ndS:((cs.drop a++cs.take a).take j).Nodup:=(pm.nodup_iff.mpr co.nd).sublist sub
     have inS':∀ x∈(cs.drop a++cs.take a).take j,x∈cs:=λx hx=>pm.mem_iff.mp (sub.subset hx)
     have lenS:((cs.drop a++cs.take a).take j).length=j:=by
      rw [Bb,pm.length_eq]
      omega
     have neS:(cs.drop a++cs.take a).take j≠[]:=λz=>by rw [z] at lenS;simp at lenS;omega
     have sg:GI cs "columns" (csD ((cs.drop a++cs.take a).take j))=some ((cs.drop a++cs.take a).take j):=by
      have nr:¬ (Str.ofString "columns"=Str.ofString "rows"):=by decide +kernel
      have e2:=UE ((cs.drop a++cs.take a).take j)
      have w:=YF (hi:=cs.length) neS (by omega) ndS (λx hx=>co.w x (inS' x hx))
      have al:(((cs.drop a++cs.take a).take j).all λx=>decide (x∈cs))=true:=by
       rw [Ao]
       intro x hx
       simpa using inS' x hx
      simp only [GI,nr,A4,if_true,e2,w,al,Be]
     refine ⟨.tup [.str "columns",one,csD ((cs.drop a++cs.take a).take j)],m4,?_,(fr2.trans f3).trans f4,up1 _ (JL g1 ec ?_ (.inr (.inl rfl)) sg)⟩
     ·have s1:cutD (cs.map D.str) (some (a:Int)) none=(cs.drop a).map D.str:=by rw [S3 (by rw [Ag];omega),List.map_drop]
      have s2:cutD (cs.map D.str) none (some (a:Int))=(cs.take a).map D.str:=by rw [PH (by rw [Ag];omega),List.map_take]
      have za:CO (.tup ((cs.drop a).map D.str)) (.tup ((cs.take a).map D.str)) m3=some (csD (cs.drop a++cs.take a),m3):=by
       unfold CO
       dsimp only
       have l1:(cs.drop a).length≤cs.length:=by rw [List.length_drop];omega
       have l2:(cs.take a).length≤cs.length:=by rw [Bb];omega
       rw [if_pos (by simp only [Ag,AL];omega)]
       simp [csD]
      have s3:cutD ((cs.drop a++cs.take a).map D.str) none (some (j:Int))=((cs.drop a++cs.take a).take j).map D.str:=by
       rw [PH (by rw [Ag,pm.length_eq];omega),List.map_take]
      unfold csD at za lc ⊢
      simp_arith only [CU,e1,c1,c2,dd,e2,lc,es,w3',Ag,e3,s1,s2,za,e4,hj,s3]
     ·simp only [csD,okB,R7,Bq,Ae,Ag]
      omega
    ·by_cases w4:way=4
     ·-- called
      subst w4
      have lf:=MI (m0:=m2) (mu:=m2) cs frees
      have lf':FD none m2 (gNm 0) (tV (B8 Ht (B0 0) (B0 1))) (B0 0) [none,some (csD cs)] [.str "z9",.str "y8",.str "x7",.str "w6"] m2=some ((frees.filter λc=>!decide (c∈cs)).map D.str,m2):=lf
      cases ef:(frees.filter λc=>!decide (c∈cs)) with
      | nil =>
       refine ⟨one,m2,?_,fr2.mono (by omega),up1 _ (g1.up (Bc _))⟩
       have n0:=Pm (mu:=m2) (xs:=[]) rfl
       have ct:cutD ([]:List D) none (some 1)=[]:=rfl
       have l0:((0:Nat)==0)=true:=rfl
       have lz:FD none m2 (gNm 0) tY (CL (BY (B7 CA (BY (B0 1) (BY (B0 2) B5))) (BY (B0 0) B5))) [none,some (.ref k),some (csD cs)] [] m2=some ([],m2):=rfl
       simp_arith only [CU,e1,c1,c2,dd,e2,lc,es,w3',w3e,lf',ef,ct,lz,n0,l0]
      | cons w r =>
       have hw:w∈frees.filter λc=>!decide (c∈cs):=by rw [ef];exact .head _
       have hw1:=UJ w (List.mem_filter.mp hw).1
       have hw2:w∉cs:=by simpa using (List.mem_filter.mp hw).2
       obtain ⟨c,m3,e3,f3,hc3⟩:=Ig (s:=csD cs) (n:=n) (.inr rfl) co.ne (by omega) (f2.hand.mono (by omega))
       have ct:cutD (D.str w::r.map D.str) none (some 1)=[.str w]:=by
        have:=PH (xs:=D.str w::r.map D.str) (j:=1) (by simp)
        simpa using this
       have lz:FD none m2 (gNm 0) tY (CL (BY (B7 CA (BY (B0 1) (BY (B0 2) B5))) (BY (B0 0) B5))) [none,some (.ref k),some (csD cs)] [.str w] m2=some ([prD (c,w)],m3):=by
        unfold FD
        simp_arith only [e3,PC,FD,prD]
       have n0:=Pm (mu:=m3) (xs:=[prD (c,w)]) (TY [(c,w)])
       have l0:((1:Nat)==0)=false:=rfl
       have P:JI cs (.tup [prD (c,w)])=true:=by
        have E:JI cs (.tup [prD (c,w)])=((Dg 1 cs.length (.tup [prD (c,w)])&&[prD (c,w)].all E8)&&(ndB ([prD (c,w)].map DB)&&([prD (c,w)].map DB).all (DV cs))):=rfl
        have p1:E8 (prD (c,w))=(wB c&&wB w):=rfl
        rw [E]
        simp only [Dg,List.all_cons,List.all_nil,p1,Df.mpr (co.w c hc3),Df.mpr hw1,Be,Bq,AM,List.map_nil,ndB,Ab,Ae,List.length_cons,List.length_nil]
        refine ⟨⟨by omega,by omega⟩,by simp,?_⟩
        simpa [DV,prD,DB] using hc3
       have T:prT (.tup [prD (c,w)])=[(c,w)]:=rfl
       have sg:GI cs "called" (.tup [prD (c,w)])=some (cs.map (EI [(c,w)])):=by
        have nr:¬ (Str.ofString "called"=Str.ofString "rows"):=by decide +kernel
        have nc:¬ (Str.ofString "called"=Str.ofString "columns"):=by decide +kernel
        simp only [GI,nr,nc,A4,if_true,P,T,Xe co.nd hw2]
       refine ⟨.tup [.str "called",one,.tup [prD (c,w)]],m3,?_,fr2.trans f3,up1 _ (JL g1 ec rfl (.inr (.inr rfl)) sg)⟩
       simp_arith only [CU,e1,c1,c2,dd,e2,lc,es,w3',w3e,lf',ef,ct,lz,n0,l0]
     ·-- two looks
      obtain ⟨other,m3,e3,f3,g2⟩:=Kd H f (n:=n+3) (deep:=deep-1) (mu:=m2) (by omega) (by omega) (by omega) (fr2.flat hfl) (f2.hand.mono (by omega))
      have fr3:=fr2.trans f3
      by_cases w5:way=5
      ·subst w5
       obtain ⟨b1,B1⟩:=g1.bg
       obtain ⟨b2,B2⟩:=g2.bg
       have r1:=B1.run 10 m3 (by omega)
       have r2:=B2.run 10 m3 (by omega)
       have t6:=MW d7
       have e64:(2:Int) ^ 6=64:=by decide
       have h0:=B1.lo
       have h9:=B1.hi
       have cm:CMul b1 b2:=.inl ⟨by omega,by omega⟩
       by_cases lt:b1*b2<300
       ·refine ⟨.tup [.str "join",one,other],m3,?_,fr3.mono (by omega),up1 _ (QX g1 g2 (by omega) B1 B2 lt)⟩
        simp_arith only [CU,e1,c1,c2,dd,e2,lc,es,w3',w3e,w4,e3,r1,r2,Lj cm,lt]
       ·refine ⟨one,m3,?_,fr3.mono (by omega),up1 _ (g1.up (Bc _))⟩
        simp_arith only [CU,e1,c1,c2,dd,e2,lc,es,w3',w3e,w4,e3,r1,r2,Lj cm,lt]
      ·obtain ⟨cs2,ec2⟩:=g2.cs
       have lc3:=IG H.k 10 (n:=dB (deep-1)) (mu:=m3) (by omega) (by omega) ec2
       have ne:neD (csD cs2) (csD cs) m3=some (.bl (!decide (csD cs2=csD cs)),m3):=Z9 (Gv cs2) (Gv cs)
       obtain ⟨u,hu,eu⟩:∃ u:Str,(u="union"∨u="gap")∧∀ m:Sto,ixG (.lst [.str "union",.str "gap"]) (.int (way-6)) m=some (.str u,m):=by
        have:way=6∨way=7:=by omega
        rcases this with rfl|rfl
        ·exact ⟨"union",.inl rfl,λm=>L9 (ds:=[.str "union",.str "gap"]) _ (.inl rfl) (by decide) rfl⟩
        ·exact ⟨"gap",.inr rfl,λm=>L9 (ds:=[.str "union",.str "gap"]) _ (.inl rfl) (by decide) rfl⟩
       by_cases same:cs2=cs
       ·subst same
        refine ⟨.tup [.str u,one,other],m3,?_,fr3.mono (by omega),up1 _ (LL g1 g2 ec ec2 hu)⟩
        simp_arith only [CU,e1,c1,c2,dd,e2,lc,es,w3',w3e,w4,w5,e3,lc3,ne,eu]
       ·have sm:¬ csD cs2=csD cs:=λz=>same (PQ.mp z)
        by_cases d3:(2:Int)<deep
        ·obtain ⟨y,m4,e4,f4,hy⟩:=NN (n:=n) co cl2 w1 w2 w3 (f3.hand.mono (by omega))
         have ts1:LJ cs (.tup [y])=true:=Sn (by simp) (by simp) λd hd=>by rw [Al.mp hd];exact hy.1
         have oy:okB 1000 (.tup [y])=true:=by
          simp only [okB,HR,Hz (show 10≤1000 by decide) hy.2,List.length_cons,List.length_nil,Be]
          rfl
         have sg:GI cs "rows" (.tup [y])=some cs:=by simp only [GI,if_true,ts1]
         have g3:=JL g1 ec oy (.inl rfl) sg
         obtain ⟨x3,ec3⟩:=g3.cs
         have ec3':Cj (DS ts) (dB (deep-1)+1) (.tup [.str "rows",one,.tup [y]])=some cs:=by
          have n1:¬ (Str.ofString "rows"=Str.ofString "of"):=by decide +kernel
          have n4:¬ (Str.ofString "rows"∈(["join","union","gap"]:List Str)):=by decide +kernel
          simp only [Cj,n1,A4,ec,n4,sg]
         have g4:=LL (g1.up (Bc _)) g3 (MJ ec (Bc _)) ec3' hu
         refine ⟨.tup [.str u,one,.tup [.str "rows",one,.tup [y]]],m4,?_,fr3.trans f4,g4.up (by unfold dB;split<;>split<;>omega)⟩
         simp_arith only [CU,e1,c1,c2,dd,e2,lc,es,w3',w3e,w4,w5,e3,lc3,ne,sm,d3,e4,eu]
        ·refine ⟨.tup [.str u,one,one],m3,?_,fr3.mono (by omega),up1 _ (LL g1 g1 ec ec hu)⟩
         simp_arith only [CU,e1,c1,c2,dd,e2,lc,es,w3',w3e,w4,w5,e3,lc3,ne,sm,d3,eu]
end PG
namespace PV
open PySem L2 PyProof.Rows K1
variable {mu:Sto}
theorem W6 {r:Nat}{ds:List D}(h:mu[r]? = some (.lst ds)):DZ [.ref r] mu=some (.int ds.length,mu):=by
 simp only [DZ,Ux,XU,Du,h,Option.map_some]
 rfl
theorem Lz {xs:List MO}{i:Nat}{zs ys:List D}{r:Nat}(hr:r=mu.length+i)(hi:i<xs.length)(h:xs[i]? = some (.lst zs))(l:zs.length+ys.length≤1000):Nc (.ref r) (.lst ys) (mu++xs)=some (.ref (mu.length+xs.length),mu++(xs++[.lst (zs++ys)])):=by
 subst hr
 have e:(mu++xs)[mu.length+i]? = some (.lst zs):=by
  rw [AS (by omega),BP]
  exact h
 have l':zs.length+ys.length≤sizeLine:=by rw [AL];omega
 simp only [Nc,Du,e,l',if_true,Aq,List.append_assoc]
theorem X6 {x:D}{n:Int}(h1:1≤n)(h2:n≤100):S4 (.tup [x]) (.int n) mu=some (.tup (List.replicate n.toNat [x]).flatten,mu):=by
 have:F6 (.tup [x]) (.int n) mu=none:=rfl
 simp only [S4,this,US]
 rw [if_pos ⟨h1,by omega,by simp;omega⟩]
end PV
namespace PG
open PySem L2 PV PyProof.Rows K1
variable {mu:Sto}
theorem QL {k n r:Nat}{ds:List D}(hr:mu[r]? = some (.lst ds))(hrk:r≠k)(hn:ds≠[])(hl:ds.length<1073741824)(h:HandOk mu k (n+1)):Run (CA [.ref k,.ref r] mu) k n mu λd=>d∈ds:=by
 have pos:0<ds.length:=List.length_pos_iff.mpr hn
 obtain ⟨_,mu',e,fr,t,rfl,t0,t1⟩:=CY (m:=ds.length) h (by omega) (by omega)
 obtain ⟨d,hd,ed⟩:=Nt t0 t1
 refine ⟨d,mu',?_,fr,hd⟩
 have ix:ixG (.ref r) (.int t) mu'=some (d,mu'):=by
  have:=N3 (mu:=mu') (k:=r) (j:=t.toNat) ((fr.keep r hrk).trans hr) ed
  rwa [Int.toNat_of_nonneg t0] at this
 simp_arith only [CA,GF,W6 hr,e,ix]
noncomputable def o0 (t:Tb)(p:Str×List Str):List D:=[.non,.bl true,.int 0,.str "",.str "of",.str t.nm,.str p.1,.tup [],.lst [],.dct [] [],.tup [.str "of",.str t.nm],.tup [.str "of",.str "nobody"]]
noncomputable def o1 (t:Tb)(p:Str×List Str):List D:=[.non,.bl true,.int 0,.str "",.str "of",.str t.nm,.str p.1,.tup [],.lst [],.dct [] [],.tup [.str "of",.str t.nm],.tup [.str "of",.str "nobody"],.tup [.str "of"],.lst [.str "of",.str t.nm]]
noncomputable def o2 (t:Tb)(p:Str×List Str):List D:=[.non,.bl true,.int 0,.str "",.str "of",.str t.nm,.str p.1,.tup [],.lst [],.dct [] [],.tup [.str "of",.str t.nm],.tup [.str "of",.str "nobody"],.tup [.str "of"],.lst [.str "of",.str t.nm],.tup [.str p.1],.tup [.tup [.str "is",.str p.1,.str "V"]],.tup [.tup [.str "so",.str p.1,.str p.1]]]
noncomputable def o3 (t:Tb)(p:Str×List Str):List D:=[.non,.bl true,.int 0,.str "",.str "of",.str t.nm,.str p.1,.tup [],.lst [],.dct [] [],.tup [.str "of",.str t.nm],.tup [.str "of",.str "nobody"],.tup [.str "of"],.lst [.str "of",.str t.nm],.tup [.str p.1],.tup [.tup [.str "is",.str p.1,.str "V"]],.tup [.tup [.str "so",.str p.1,.str p.1]],.tup [.str p.1,.str p.1],.tup [.tup [.str "is",.str p.1,.str "v"]],.tup [.tup [.str "is",.str p.1,.str "v"],.tup [.str "is",.str p.1,.str "v"],.tup [.str "is",.str p.1,.str "v"],.tup [.str "is",.str p.1,.str "v"],.tup [.str "is",.str p.1,.str "v"]]]
noncomputable def o4 (t:Tb)(p:Str×List Str):List D:=[.non,.bl true,.int 0,.str "",.str "of",.str t.nm,.str p.1,.tup [],.lst [],.dct [] [],.tup [.str "of",.str t.nm],.tup [.str "of",.str "nobody"],.tup [.str "of"],.lst [.str "of",.str t.nm],.tup [.str p.1],.tup [.tup [.str "is",.str p.1,.str "V"]],.tup [.tup [.str "so",.str p.1,.str p.1]],.tup [.str p.1,.str p.1],.tup [.tup [.str "is",.str p.1,.str "v"]],.tup [.tup [.str "is",.str p.1,.str "v"],.tup [.str "is",.str p.1,.str "v"],.tup [.str "is",.str p.1,.str "v"],.tup [.str "is",.str p.1,.str "v"],.tup [.str "is",.str p.1,.str "v"]],.tup [.tup [.str "like",.str p.1,.str "no"]]]
noncomputable def o5 (t:Tb)(p:Str×List Str):List D:=[.non,.bl true,.int 0,.str "",.str "of",.str t.nm,.str p.1,.tup [],.lst [],.dct [] [],.tup [.str "of",.str t.nm],.tup [.str "of",.str "nobody"],.tup [.str "of"],.lst [.str "of",.str t.nm],.tup [.str p.1],.tup [.tup [.str "is",.str p.1,.str "V"]],.tup [.tup [.str "so",.str p.1,.str p.1]],.tup [.str p.1,.str p.1],.tup [.tup [.str "is",.str p.1,.str "v"]],.tup [.tup [.str "is",.str p.1,.str "v"],.tup [.str "is",.str p.1,.str "v"],.tup [.str "is",.str p.1,.str "v"],.tup [.str "is",.str p.1,.str "v"],.tup [.str "is",.str p.1,.str "v"]],.tup [.tup [.str "like",.str p.1,.str "no"]],.tup [.tup [.str p.1,.str "w"]],.str "join",.str "union",.str "gap"]
noncomputable def o6 (t:Tb)(p:Str×List Str):List D:=[.non,.bl true,.int 0,.str "",.str "of",.str t.nm,.str p.1,.tup [],.lst [],.dct [] [],.tup [.str "of",.str t.nm],.tup [.str "of",.str "nobody"],.tup [.str "of"],.lst [.str "of",.str t.nm],.tup [.str p.1],.tup [.tup [.str "is",.str p.1,.str "V"]],.tup [.tup [.str "so",.str p.1,.str p.1]],.tup [.str p.1,.str p.1],.tup [.tup [.str "is",.str p.1,.str "v"]],.tup [.tup [.str "is",.str p.1,.str "v"],.tup [.str "is",.str p.1,.str "v"],.tup [.str "is",.str p.1,.str "v"],.tup [.str "is",.str p.1,.str "v"],.tup [.str "is",.str p.1,.str "v"]],.tup [.tup [.str "like",.str p.1,.str "no"]],.tup [.tup [.str p.1,.str "w"]],.str "join",.str "union",.str "gap",.str "rows",.str "columns",.str "called"]
theorem Vg {mu xs:Sto}{o:MO}(i:Nat):(mu++xs).set (mu.length+i) o=mu++xs.set i o:=by
 rw [List.set_append_right _ _ (by omega),BP]
theorem XD (t:Tb)(p:Str×List Str):∀ d∈o6 t p,okB 100 d=true:=by
 have:HR 100 (o6 t p)=true:=rfl
 exact Gy.mp this
theorem Nh {ts:List Tb}(H:SK ts){k n:Nat}(hf:Flat mu)(h:HandOk mu k (n+1)):Run (Gs [.ref k,scD ts] mu) k n mu λd=>okB 100 d=true:=by
 obtain ⟨t,r,rfl⟩:∃ t r,ts=t::r:=by
  cases ts with
  | nil=>have:=H.l1;simp at this
  | cons t r=>exact ⟨t,r,rfl⟩
 obtain ⟨p,cr,hc⟩:∃ p cr,t.cs=p::cr:=by
  have c1:=(H.ok t (.head _)).ok.c1
  cases e:t.cs with
  | nil=>rw [e] at c1;simp at c1
  | cons p cr=>exact ⟨p,cr,rfl⟩
 have kl:=h.lt
 have a1:=Lz (mu:=mu) (xs:=[MO.lst (o0 t p)]) (i:=0) (ys:=[.tup [.str "of"],.lst [.str "of",.str t.nm]]) (r:=mu.length) rfl (by simp) rfl (by simp [o0,o1,o2,o3,o4,o5])
 have a2:=Lz (mu:=mu) (xs:=[MO.lst (o0 t p),MO.lst (o1 t p)]) (i:=1) (ys:=[.tup [.str p.1],.tup [.tup [.str "is",.str p.1,.str "V"]],.tup [.tup [.str "so",.str p.1,.str p.1]]]) (r:=mu.length+1) rfl (by simp) rfl (by simp [o0,o1,o2,o3,o4,o5])
 have a3:=Lz (mu:=mu) (xs:=[MO.lst (o0 t p),MO.lst (o1 t p),MO.lst (o2 t p)]) (i:=2) (ys:=[.tup [.str p.1,.str p.1],.tup [.tup [.str "is",.str p.1,.str "v"]],.tup [.tup [.str "is",.str p.1,.str "v"],.tup [.str "is",.str p.1,.str "v"],.tup [.str "is",.str p.1,.str "v"],.tup [.str "is",.str p.1,.str "v"],.tup [.str "is",.str p.1,.str "v"]]]) (r:=mu.length+2) rfl (by simp) rfl (by simp [o0,o1,o2,o3,o4,o5])
 have a4:=Lz (mu:=mu) (xs:=[MO.lst (o0 t p),MO.lst (o1 t p),MO.lst (o2 t p),MO.lst (o4 t p)]) (i:=3) (ys:=[.tup [.tup [.str p.1,.str "w"]],.str "join",.str "union",.str "gap"]) (r:=mu.length+3) rfl (by simp) rfl (by simp [o0,o1,o2,o3,o4,o5])
 have a5:=Lz (mu:=mu) (xs:=[MO.lst (o0 t p),MO.lst (o1 t p),MO.lst (o2 t p),MO.lst (o4 t p),MO.lst (o5 t p)]) (i:=4) (ys:=[.str "rows",.str "columns",.str "called"]) (r:=mu.length+4) rfl (by simp) rfl (by simp [o0,o1,o2,o3,o4,o5])
 have g6:(mu++[MO.lst (o0 t p),MO.lst (o1 t p),MO.lst (o2 t p),MO.lst (o4 t p),MO.lst (o5 t p),MO.lst (o6 t p)])[mu.length+5]? = some (.lst (o6 t p)):=by
  rw [AS (by omega),BP]
  rfl
 obtain ⟨d,m',e,fr,hd⟩:=QL (n:=n) g6 (by omega) (by unfold o6;simp) (by unfold o6;simp) h.app
 have okd:=XD t p d hd
 have f5:Fr k n mu (m'.take mu.length):=by
  refine ⟨?_,λj hj=>?_,by rw [Bb,fr.len,Aq];omega⟩
  ·obtain ⟨x,y,z,q,r⟩:=fr.hand
   exact ⟨x,y,z,by rw [Bl (by omega)];exact q,r⟩
  ·by_cases hj':j<mu.length
   ·rw [Bl hj',fr.keep j hj,Av hj']
   ·rw [List.getElem?_eq_none (by rw [Bb];omega),List.getElem?_eq_none (by omega)]
 refine ⟨d,m'.take mu.length,?_,f5,okd⟩
 have cs:=NH (mu:=mu) (m:=m') (d:=d) (FP okd) (f5.flat hf)
 have ap:=append_at (mu:=mu++[MO.lst (o0 t p),MO.lst (o1 t p),MO.lst (o2 t p),MO.lst (o3 t p)]) (mu':=mu++[MO.lst (o0 t p),MO.lst (o1 t p),MO.lst (o2 t p),MO.lst (o3 t p)]) (r:=mu.length+3) (ds:=(o3 t p)) (ds0:=(o3 t p)) (y:=.tup [.tup [.str "like",.str p.1,.str "no"]]) (by rw [AS (by omega),BP];rfl) (by rw [AS (by omega),BP];rfl) (by rw [AL];simp [o3]) (ro:=[some (.ref k),some (scD (t::r)),some (.str t.nm),some (.str p.1),some (.ref (mu.length+3))]) (i:=4) (e:=(CL (BY (CL (BY (eC (.str "like")) (BY (B0 3) (BY (eC (.str "no")) B5)))) B5))) rfl rfl
 have ap2:(mu++[MO.lst (o0 t p),MO.lst (o1 t p),MO.lst (o2 t p),MO.lst (o3 t p)]).set (mu.length+3) (.lst ((o3 t p)++[.tup [.tup [.str "like",.str p.1,.str "no"]]]))=mu++[MO.lst (o0 t p),MO.lst (o1 t p),MO.lst (o2 t p),MO.lst (o4 t p)]:=by
  rw [Vg]
  rfl
 rw [ap2] at ap
 have mg:S4 (.tup [.tup [.str "is",.str p.1,.str "v"]]) (.int 5) (mu++[MO.lst (o0 t p),MO.lst (o1 t p),MO.lst (o2 t p)])=some (.tup [.tup [.str "is",.str p.1,.str "v"],.tup [.str "is",.str p.1,.str "v"],.tup [.str "is",.str p.1,.str "v"],.tup [.str "is",.str p.1,.str "v"],.tup [.str "is",.str p.1,.str "v"]],mu++[MO.lst (o0 t p),MO.lst (o1 t p),MO.lst (o2 t p)]):=X6 (by decide) (by decide)
 have sc:scD (t::r)=.tup (.tup [.str t.nm,.tup (clD p::cr.map clD),.int t.ks]::r.map tbD):=by
  unfold scD tbD
  rw [AM,hc]
  rfl
 rw [sc] at ap ⊢
 simp only [clD,o0,o1,o2,o3,o4,o5,o6,List.cons_append,List.nil_append,List.length_cons,List.length_nil,Nat.zero_add,Nat.reduceAdd] at a1 a2 a3 a4 a5 ap mg e
 simp_arith only [Gs,Ki,clD,a1,a2,mg,a3,ap,a4,a5,e,cs]
end PG
namespace PV
open PySem L2 PyProof.Rows K1
variable {mu:Sto}
theorem Lr {xs ys:List D}(h:xs.length+ys.length≤sizeLine):CO (.tup xs) (.tup ys) mu=some (.tup (xs++ys),mu):=by
 simp only [CO,h,if_true]
theorem Zr {ds:List D}:VL (.tup ds) mu=some (.tup ds.reverse,mu):=rfl
theorem Th {ds:List D}{a:Int}(h0:0≤a):(cutD ds none (some a)).length≤a.toNat∧(cutD ds (some a) none).length=ds.length-a.toNat:=by
 unfold PV.cutD
 simp only [HT.sIx,Bb,List.length_drop,if_neg (show ¬ a<0 by omega)]
 omega
end PV
namespace PG
open PySem L2 PV PyProof.Rows K1
variable {mu:Sto}
theorem IS {n:Nat}{ds:List D}(lo hi:Option Int)(h:∀ d∈ds,okB n d=true):∀ d∈PV.cutD ds lo hi,okB n d=true:=by
 intro d hd
 unfold PV.cutD at hd
 exact h d (List.mem_of_mem_drop (List.mem_of_mem_take hd))
theorem okT {n:Nat}{ds:List D}(l:ds.length≤n)(h:∀ d∈ds,okB n d=true):okB n (.tup ds)=true:=by
 rw [okB,Gy.mpr h,Bq,Ae]
 exact l
theorem QB {ts:List Tb}(H:SK ts){k:Nat}:∀ (f:Nat) {n deep:Nat} {mu:Sto} {d:D},deep≤f->Flat mu->HandOk mu k (n+5*(f+1))->okB 1000 d=true->Run (CC (f+1) [.ref k,scD ts,d,.int deep] mu) k n mu λd=>okB 1001 d=true
 | f,n,deep,mu,d,hf,fl,h,ok=>by
  have u:∀ d,okB 100 d=true->okB 1001 d=true:=λd h=>Hz (by decide) h
  obtain ⟨od,mo,eo,fo,ho⟩:=Nh H (n:=n) fl (h.mono (by omega))
  cases d with
  | tup ds =>
   have ok1:=Hz (m:=1001) (by decide) ok
   have okm:=GK ok1
   have hl:ds.length≤1000:=by
    rw [okB,Ab,Ae] at ok
    exact ok.1
   by_cases c0:(ds.length:Int)=0
   ·refine ⟨od,mo,?_,fo,u _ ho⟩
    simp_arith only [CC,Dh,c0,eo]
   by_cases c1:(deep:Int)=0
   ·refine ⟨od,mo,?_,fo,u _ ho⟩
    simp_arith only [CC,Dh,c0,c1,eo]
   obtain ⟨_,m1,e1,f1,t1,rfl,a0,a1⟩:=CY (m:=7) (n:=n+5*f+4) (h.mono (by omega)) (by decide) (by decide)
   by_cases c2:t1=0
   ·obtain ⟨od,mo,eo,fo,ho⟩:=Nh H (n:=n) (f1.flat fl) (f1.hand.mono (by omega))
    refine ⟨od,mo,?_,f1.trans fo,u _ ho⟩
    simp_arith only [CC,Dh,c0,c1,e1,c2,eo]
   obtain ⟨_,m2,e2,f2,at',rfl,b0,b1⟩:=CY (m:=ds.length) (n:=n+5*f+3) f1.hand (by omega) (by omega)
   obtain ⟨_,m3,e3,f3,way,rfl,w0,w1⟩:=CY (m:=9) (n:=n+5*f+2) f2.hand (by decide) (by decide)
   have fr:=(f1.trans f2).trans f3
   have l1:=Th (ds:=ds) b0
   have l2:=Th (ds:=ds) (a:=at'+1) (by omega)
   by_cases c3:way=0
   ·refine ⟨_,m3,?_,fr.mono (by omega),okT (ds:=PV.cutD ds none (some at')++PV.cutD ds (some (at'+1)) none) (by rw [Aq];omega) λd hd=>(AI.mp hd).elim (IS _ _ okm d) (IS _ _ okm d)⟩
    simp_arith only [CC,Dh,c0,c1,e1,c2,e2,e3,c3,Lr (show (PV.cutD ds none (some at')).length+(PV.cutD ds (some (at'+1)) none).length≤sizeLine by rw [AL];omega)]
   by_cases c4:way=1
   ·refine ⟨_,m3,?_,fr.mono (by omega),okT (ds:=PV.cutD ds none (some (at'+1))++PV.cutD ds (some at') none) (by rw [Aq];omega) λd hd=>(AI.mp hd).elim (IS _ _ okm d) (IS _ _ okm d)⟩
    simp_arith only [CC,Dh,c0,c1,e1,c2,e2,e3,c3,c4,Int.reduceEq,Lr (show (PV.cutD ds none (some (at'+1))).length+(PV.cutD ds (some at') none).length≤sizeLine by rw [AL];omega)]
   by_cases c5:way=2
   ·obtain ⟨od,mo,eo,fo,ho⟩:=Nh H (n:=n+1) (fr.flat fl) (f3.hand.mono (by omega))
    obtain ⟨_,m4,e4,f4,t4,rfl,d0,d1⟩:=CY (m:=3) (n:=n) fo.hand (by decide) (by decide)
    obtain ⟨x,hx,ex⟩:=Nt (ds:=[.lst ds,.tup ds.reverse,.tup (ds++[od])]) d0 (by simpa using d1)
    have ix:=L9 (mu:=m4) (.lst [.lst ds,.tup ds.reverse,.tup (ds++[od])]) (.inl rfl) d0 ex
    have za:CO (.tup ds) (.tup [od]) mo=some (.tup (ds++[od]),mo):=Lr (by rw [AL];simp;omega)
    refine ⟨x,m4,?_,(fr.trans fo).trans f4,?_⟩
    ·simp_arith only [CC,Dh,c0,c1,e1,c2,e2,e3,c3,c4,c5,Int.reduceEq,Zr,eo,za,e4,ix]
    ·simp only [An,AR,BG] at hx
     rcases hx with rfl|rfl|rfl
     ·rw [okB]
      exact Gy.mpr okm
     ·exact okT (by rw [List.length_reverse];omega) λd hd=>okm d (List.mem_reverse.mp hd)
     ·exact okT (by rw [Aq,List.length_singleton];omega) λd hd=>(AI.mp hd).elim (okm d) λh=>by rw [Al.mp h];exact u _ ho
   ·obtain ⟨y,hy,ey⟩:=Nt (ds:=ds) b0 b1
    have ix:=L9 (mu:=m3) (.tup ds) (.inr rfl) b0 ey
    match f,hf with
    | 0,hf=>omega
    | g+1,hf =>
     obtain ⟨z,m4,e4,f4,lz⟩:=QB H (k:=k) g (n:=n) (deep:=deep-1) (mu:=m3) (d:=y) (by omega) (fr.flat fl) (f3.hand.mono (by omega)) (GK ok y hy)
     have dd:(deep:Int)-1=((deep-1:Nat):Int):=by omega
     have z1:CO (.tup (PV.cutD ds none (some at'))) (.tup [z]) m4=some (.tup (PV.cutD ds none (some at')++[z]),m4):=Lr (by
      rw [AL,List.length_singleton]
      omega)
     have z2:CO (.tup (PV.cutD ds none (some at')++[z])) (.tup (PV.cutD ds (some (at'+1)) none)) m4=some (.tup (PV.cutD ds none (some at')++[z]++PV.cutD ds (some (at'+1)) none),m4):=Lr (by
      rw [AL,Aq,List.length_singleton]
      omega)
     refine ⟨_,m4,?_,fr.trans f4,okT (ds:=PV.cutD ds none (some at')++[z]++PV.cutD ds (some (at'+1)) none) (by rw [Aq,Aq,List.length_singleton];omega) λd hd=>(AI.mp hd).elim (λhd=>(AI.mp hd).elim (IS _ _ okm d) λh=>by rw [Al.mp h];exact lz) (IS _ _ okm d)⟩
     rw [CC]
     simp_arith only [Dh,c0,c1,e1,c2,e2,e3,c3,c4,c5,ix,dd,e4,z1,z2]
  | ref k=>simp [okB] at ok
  | set _=>simp [okB] at ok
  | _ =>
   refine ⟨od,mo,?_,fo,u _ ho⟩
   simp_arith only [CC,Dh,eo]
noncomputable def JC:Sx:=(Cn (CM (B7 (Ef 10) (BY (B0 2) (BY (B0 3) (BY (B8 CO (eC (.int 1)) (B7 Cg (BY (B0 2) (BY (eC (.int 5)) B5)))) B5)))) (gNm 5)) (Cn (CM (B7 (CC 14) (BY (B0 2) (BY (B0 3) (BY (B0 5) (BY (eC (.int 12)) B5))))) (gNm 6)) (Cn (sIf (tV (B8 eqD (B7 Cg (BY (B0 2) (BY (eC (.int 4)) B5))) (eC (.int 0)))) (Cn (CM (B8 ixG (B8 ixG (B8 ixG (B8 ixG (B0 3) (eC (.int 0))) (eC (.int 1))) (eC (.int 0))) (eC (.int 0))) (gNm 7)) (Cn (CM (CL (BY (eC (.str "rows")) (BY (B0 6) (BY (CL (BY (CL (BY (eC (.str "is")) (BY (B0 7) (BY (eC (.str "v")) B5)))) B5)) B5)))) (gNm 6)) (CM (CL (BY (eC (.str "rows")) (BY (B0 6) (BY (CL (BY (CL (BY (eC (.str "like")) (BY (eC (.str "x")) (BY (eC (.str "x")) B5)))) B5)) B5)))) (gNm 6)))) (sNx)) (Cn (VH 8 9 (BY (B7 D4 (BY (B0 3) (BY (B0 6) B5))) (BY (B7 (DA 10) (BY (B0 3) (BY (B0 6) (BY (eC (.int 8)) B5)))) B5))) (Cn (sIf (tO (tNt (tV (GH "bool" (B0 8)))) (tV (B8 neD (B0 8) (B8 M0 (B0 9) (eC .non))))) (sRt (eC (.bl false))) (sNx)) (sIf (tV (B8 M0 (B7 D4 (BY (B0 3) (BY (B0 5) B5))) (eC (.bl true)))) (sRt (eC (.bl false))) (sNx)))))))
noncomputable def P7:Sx:=(Cn (CM (B7 EZ (BY (B0 0) (BY (B0 1) B5))) (gNm 2)) (Cn (CM (B7 Ed (BY (B0 2) (BY (eC (.int 4)) (BY (eC (.int 4)) (BY (eC (.int 4)) B5))))) (gNm 3)) (Cn (Lc (iRg (BY (eC (.int 8)) B5)) (gNm 4) JC) (Cn (CM (GW (BY (eC .non) (BY (eC (.bl true)) (BY (eC (.int 0)) (BY (eC (.str "")) (BY (eC (.str "of")) (BY (CL B5) (BY (GW B5) (BY Oa (BY (CL (BY (CL B5) B5)) (BY (CL (BY (eC .non) (BY (eC .non) B5))) B5))))))))))) (gNm 10)) (sIf (tNt (tV (B7 GX (BY (eLC (D0 (B0 10)) 1 [3] (gNm 0) (tY) (B8 isD (B7 D4 (BY (B0 1) (BY (B0 0) B5))) (eC (.bl false)))) B5)))) (sRt (eC (.bl false))) (sNx))))))
noncomputable def Nw:List D:=[.non,.bl true,.int 0,.str "",.str "of",.tup [],.lst [],.dct [] [],.tup [.tup []],.tup [.non,.non]]
theorem Sd:∀ d∈Nw,DF 0 d=true:=by
 have:Gm 0 Nw=true:=by
  unfold Nw
  simp only [Gm,DF,Be]
 exact P4.mp this
theorem VU (kn:Kn):∀ d∈Nw,(Cj kn 8 d).isSome=false:=by
 intro d hd
 unfold Nw at hd
 simp only [An,AR,BG] at hd
 rcases hd with rfl|rfl|rfl|rfl|rfl|rfl|rfl|rfl|rfl|rfl<;>simp [Cj]
theorem Vb {c:Str}{z:D}(h:okB 1001 z=true):okB 1001 (.tup [.str "rows",.tup [.str "rows",z,.tup [.tup [.str "is",.str c,.str "v"]]],.tup [.tup [.str "like",.str "x",.str "x"]]])=true:=by
 simp only [okB,HR,h,List.length_cons,List.length_nil]
 rfl
theorem Ud {ts:List Tb}(H:Sch ts){k n:Nat}{ns d1:D}{x4 x5 x6 x7 x8 x9 x10:Option D}(hf:Flat mu)(h:HandOk mu k (n+5000)) :
  ∃ y5 y6 y7 y8 y9 m',JC [some ns,some d1,some (.ref k),some (scD ts),x4,x5,x6,x7,x8,x9,x10] mu=some ((.nx,[some ns,some d1,some (.ref k),some (scD ts),x4,y5,y6,y7,y8,y9,x10]),m')∧Fr k n mu m':=by
 obtain ⟨t,r,rfl⟩:∃ t r,ts=t::r:=by
  cases ts with
  | nil=>have:=H.k.l1;simp at this
  | cons t r=>exact ⟨t,r,rfl⟩
 obtain ⟨p,cr,hc⟩:∃ p cr,t.cs=p::cr:=by
  have c1:=(H.k.ok t (.head _)).ok.c1
  cases e:t.cs with
  | nil=>rw [e] at c1;simp at c1
  | cons p cr=>exact ⟨p,cr,rfl⟩
 have sc:scD (t::r)=.tup (.tup [.str t.nm,.tup (.tup [.str p.1,.tup (p.2.map D.str)]::cr.map clD),.int t.ks]::r.map tbD):=by
  unfold scD tbD
  rw [AM,hc]
  rfl
 obtain ⟨_,m1,e1,f1,q,rfl,a0,a1⟩:=CY (m:=5) (n:=n+4999) h (by decide) (by decide)
 obtain ⟨deep,hq,d1',d5⟩:∃ deep:Nat,(1:Int)+q=deep∧1≤deep∧deep≤5:=⟨(1+q).toNat,by omega,by omega,by omega⟩
 have p5:20*3 ^ deep≤4860:=by
  have:=Bx (n:=3) (by decide) d5
  omega
 obtain ⟨l,m2,e2,f2,gl⟩:=Kd H (k:=k) 10 (n:=n+71) (deep:=deep) d1' (by omega) d5 (f1.flat hf) (f1.hand.mono (by omega))
 have fl2:=f2.flat (f1.flat hf)
 obtain ⟨z,m3,e3,f3,oz⟩:=QB H.k (k:=k) 13 (n:=n+1) (deep:=12) (d:=l) (by omega) fl2 f2.hand gl.ok
 have e3':CC 14 [.ref k,scD (t::r),l,.int 12] m2=some (z,m3):=e3
 obtain ⟨_,m4,e4,f4,q4,rfl,b0,b1⟩:=CY (m:=4) (n:=n) f3.hand (by decide) (by decide)
 have fr:=((f1.trans f2).trans f3).trans f4
 have lk:(Cj (DS (t::r)) 8 l).isSome=true:=by
  obtain ⟨cs,hcs⟩:=gl.cs
  rw [MJ hcs (by unfold dB;split<;>omega)]
  rfl
 have il:=λm=>K2 (mu:=m) H.k l (FP gl.ok)
 have bb:∀ b:Bool,(b != !(!b))=false:=λb=>by cases b<;>rfl
 by_cases c:q4=0
 ·have ow:=Vb (c:=p.1) oz
  have fw:=λm=>Jw (mu:=m) H.k 9 (n:=8) _ (by omega) (by omega) (Hz (show 1001≤1002 by decide) ow)
  have fw':∀ m,DA 10 [scD (t::r),_,.int 8] m=_:=fw
  have iw:=λm=>K2 (mu:=m) H.k _ (FP ow)
  rw [sc] at e2 e3' il fw' iw ⊢
  refine ⟨some l,some (.tup [.str "rows",.tup [.str "rows",z,.tup [.tup [.str "is",.str p.1,.str "v"]]],.tup [.tup [.str "like",.str "x",.str "x"]]]),some (.str p.1),some (.bl (Cj (DS (t::r)) 8 (.tup [.str "rows",.tup [.str "rows",z,.tup [.tup [.str "is",.str p.1,.str "v"]]],.tup [.tup [.str "like",.str "x",.str "x"]]])).isSome),some (Dr (Cj (DS (t::r)) 8 (.tup [.str "rows",.tup [.str "rows",z,.tup [.tup [.str "is",.str p.1,.str "v"]]],.tup [.tup [.str "like",.str "x",.str "x"]]]))),m4,?_,fr⟩
  ·unfold JC
   simp_arith only [e1,hq,e2,e3',e4,c,clD,iw,fw',OU,Hs,Option.not_isNone,bne_self_eq_false,il,lk]
 ·have fw:=λm=>Jw (mu:=m) H.k 9 (n:=8) z (by omega) (by omega) (Hz (show 1001≤1002 by decide) oz)
  have fw':∀ m,DA 10 [scD (t::r),z,.int 8] m=_:=fw
  have iw:=λm=>K2 (mu:=m) H.k z (FP oz)
  refine ⟨some l,some z,x7,some (.bl (Cj (DS (t::r)) 8 z).isSome),some (Dr (Cj (DS (t::r)) 8 z)),m4,?_,fr⟩
  ·unfold JC
   simp_arith only [e1,hq,e2,e3',e4,c,iw,fw',OU,Hs,Option.not_isNone,bne_self_eq_false,il,lk]
theorem QT {ts:List Tb}(H:Sch ts){k n:Nat}{ns d1:D}{x4 x5 x6 x7 x8 x9 x10:Option D}(hf:Flat mu)(h:HandOk mu k (n+40000)){m0:Sto} :
  ∃ y4 y5 y6 y7 y8 y9 m',Hc none m0 (gNm 4) JC (Fz 0 8) [some ns,some d1,some (.ref k),some (scD ts),x4,x5,x6,x7,x8,x9,x10] mu=some ((.nx,[some ns,some d1,some (.ref k),some (scD ts),y4,y5,y6,y7,y8,y9,x10]),m')∧Fr k n mu m':=by
 obtain ⟨ro',mu',e,⟨y4,y5,y6,y7,y8,y9,rfl⟩,fr⟩:=Hm (m0:=m0) (tg:=gNm 4) (body:=JC) (λi ro m=>(∃ y4 y5 y6 y7 y8 y9,ro=[some ns,some d1,some (.ref k),some (scD ts),y4,y5,y6,y7,y8,y9,x10])∧Fr k (n+40000-5000*i) mu m) (Fz 0 8) 0 _ mu ⟨⟨x4,x5,x6,x7,x8,x9,rfl⟩,.refl h⟩ λj d ro m ed ⟨⟨y4,y5,y6,y7,y8,y9,er⟩,fr⟩=>by
   subst er
   obtain ⟨rfl,hj⟩:=NG ed
   obtain ⟨z5,z6,z7,z8,z9,m1,e1,f1⟩:=Ud (mu:=m) H (n:=n+40000-5000*(0+j+1)) (ns:=ns) (d1:=d1) (x4:=some (.int j)) (x5:=y5) (x6:=y6) (x7:=y7) (x8:=y8) (x9:=y9) (x10:=x10) (fr.flat hf) (fr.hand.mono (by omega))
   exact ⟨_,m,_,m1,rfl,e1,⟨_,_,_,_,_,_,rfl⟩,fr.trans f1⟩
 exact ⟨y4,y5,y6,y7,y8,y9,mu',e,fr.mono (by rw [K7];omega)⟩
theorem WZ {i:Nat}{ns:List Int}{x2 x3 x4 x5 x6 x7 x8 x9 x10:Option D}(hi:i<64)(hfl:Flat mu) :
  ∃ y2 y3 y4 y5 y6 y7 y8 y9 y10 m',P7 [some (.lst (ns.map D.int)),some (.int i),x2,x3,x4,x5,x6,x7,x8,x9,x10] mu=some ((.nx,[some (.lst (ns.map D.int)),some (.int i),y2,y3,y4,y5,y6,y7,y8,y9,y10]),m')∧Flat m':=by
 obtain ⟨o,e1,h1⟩:=Sa (mu:=mu) (k:=i) (n:=41000) (ns:=ns) hi (by decide)
 have fl1:Flat (mu++[o]):=by
  intro j q hq
  by_cases c:j=mu.length
  ·subst c
   obtain ⟨_,_,_,h,_⟩:=h1
   rw [h] at hq
   cases hq
   rfl
  ·have:j<(mu++[o]).length:=(Af.mp hq).1
   simp at this
   rw [Av (by omega)] at hq
   exact hfl j q hq
 obtain ⟨_,m2,e2,f2,ds,rfl,sb,ok,st,s5,sa⟩:=OM (n:=40900) (a:=4) (b:=4) (c:=4) (by decide) (by decide) (by decide) (by decide) (by decide) (by decide) fl1 (h1.mono (by decide))
 obtain ⟨ts,et,K⟩:=S7 sb
 have ed:ds=ts.map tbD:=by unfold scD at et;injection et
 subst ed
 have S:Sch ts:=⟨K,st,s5,Sm sa⟩
 have e2':Ed [.ref mu.length,.int 4,.int 4,.int 4] (mu++[o])=some (scD ts,m2):=e2
 obtain ⟨y4,y5,y6,y7,y8,y9,m3,e3,f3⟩:=QT (mu:=m2) S (n:=100) (ns:=.lst (ns.map D.int)) (d1:=.int i) (x4:=x4) (x5:=x5) (x6:=x6) (x7:=x7) (x8:=x8) (x9:=x9) (x10:=x10) (f2.flat fl1) (f2.hand.mono (by decide)) (m0:=m2)
 have rg1:∀ (ro:Ro) (m:Sto),iRg (BY (eC (.int 8)) B5) ro m=some ((Fz 0 8,none),m):=λro m=>QJ (n:=8) rfl (by decide) (by rw [AL];decide)
 have al:=G8 (m0:=m3) (tg:=gNm 0) (el:=(B8 isD (B7 D4 (BY (B0 1) (BY (B0 0) B5))) (eC (.bl false)))) (ro:=[none,some (scD ts)]) (mu:=m3) (λd=>decide ((Cj (DS ts) 8 d).isSome=false)) Nw (λd hd=>⟨_,rfl,by simp_arith only [K2 K d (Sd d hd)]⟩)
 have am:Nw.map (λd=>decide ((Cj (DS ts) 8 d).isSome=false))=[true,true,true,true,true,true,true,true,true,true]:=by
  rw [List.map_congr_left (g:=λ_=>true) λd hd=>by simp [VU (DS ts) d hd]]
  rfl
 rw [am] at al
 have af:GX [.lst [.bl true,.bl true,.bl true,.bl true,.bl true,.bl true,.bl true,.bl true,.bl true,.bl true]] m3=some (.bl true,m3):=rfl
 refine ⟨some (.ref mu.length),some (scD ts),y4,y5,y6,y7,y8,y9,some (.lst Nw),m3,?_,f3.flat (f2.flat fl1)⟩
 unfold JC at e3
 unfold P7 JC
 unfold Nw at al ⊢
 simp_arith only [e1,e2',rg1,e3,al,af]
theorem VA (ns:List Int):∃ mu',Ms [.lst (ns.map .int)] []=some (.bl true,mu'):=by
 obtain ⟨N,hN,h2,h5⟩:∃ N:Nat,(if (if (ns.length:Int)<5 then (ns.length:Int) else 5) > 2 then (if (ns.length:Int)<5 then (ns.length:Int) else 5) else 2)=(N:Int)∧2≤N∧N≤5:=by
  refine ⟨(if (if (ns.length:Int)<5 then (ns.length:Int) else 5) > 2 then (if (ns.length:Int)<5 then (ns.length:Int) else 5) else 2).toNat,?_,?_,?_⟩<;>split<;>split<;>omega
 obtain ⟨ro',mu',e,_⟩:=Hm (m0:=[]) (tg:=gNm 1) (body:=P7) (λi ro m=>(∃ y1 y2 y3 y4 y5 y6 y7 y8 y9 y10,ro=[some (.lst (ns.map D.int)),y1,y2,y3,y4,y5,y6,y7,y8,y9,y10])∧Flat m) (Fz 0 N) 0 [some (.lst (ns.map D.int)),none,none,none,none,none,none,none,none,none,none] [] ⟨⟨_,_,_,_,_,_,_,_,_,_,rfl⟩,λj o h=>by simp at h⟩ λj d ro m ed ⟨⟨y1,y2,y3,y4,y5,y6,y7,y8,y9,y10,er⟩,fl⟩=>by
   subst er
   obtain ⟨rfl,hj⟩:=NG ed
   obtain ⟨z2,z3,z4,z5,z6,z7,z8,z9,z10,m',e,fl'⟩:=WZ (mu:=m) (i:=j) (ns:=ns) (x2:=y2) (x3:=y3) (x4:=y4) (x5:=y5) (x6:=y6) (x7:=y7) (x8:=y8) (x9:=y9) (x10:=y10) (by omega) fl
   exact ⟨_,m,_,m',rfl,e,⟨_,_,_,_,_,_,_,_,_,_,rfl⟩,fl'⟩
 refine ⟨mu',?_⟩
 have mn:NX [.int 5,.int (ns.length:Int)] []=some (.int (if (ns.length:Int)<5 then (ns.length:Int) else 5),[]):=rfl
 have mx:SD [.int 2,.int (if (ns.length:Int)<5 then (ns.length:Int) else 5)] []=some (.int N,[]):=by
  rw [← hN]
  rfl
 have rg:=QJ (mu:=[]) (ro:=[some (.lst (ns.map D.int)),none,none,none,none,none,none,none,none,none,none]) (r:=(BY (B7 SD (BY (eC (.int 2)) (BY (B7 NX (BY (eC (.int 5)) (BY (B7 DZ (BY (B0 0) B5)) B5))) B5))) B5)) (n:=N) (m:=[]) (by simp_arith only [Ag,mn,mx]) (by omega) (by rw [AL];omega)
 rw [Int.toNat_natCast] at rg
 unfold P7 JC at e
 simp_arith only [Ms,R4,rg,e]
end PG
namespace PG
open PySem L2 PV PyProof.Rows
noncomputable def FH (K:PySem.W.Frag)(x:Str)(st:Stmt):Prop:=∃ (f:Addr) (oc kV dc pm cd ct:Value) (od an:Option Addr) (sl:Array (Option Value)),PySem.W.nsIn K mainGlobals x=some (some (.ref f))∧K.lookup f=some ⟨oc,od,.func (PySem.W.fnOf x x (Hk st) (EV st) (B9 st) .none kV dc pm an cd ct),sl⟩∧PySem.W.codeIn K cd x=true∧PySem.W.keepIn K (.ref f)=true
theorem fh {K:PySem.W.Frag}{x:Str}{st:Stmt}{f:Addr}{oc kV dc pm cd ct:Value}{od an:Option Addr}{sl:Array (Option Value)}(a:PySem.W.nsIn K mainGlobals x=some (some (.ref f)))(l:K.lookup f=some ⟨oc,od,.func (PySem.W.fnOf x x (Hk st) (EV st) (B9 st) .none kV dc pm an cd ct),sl⟩)(c:PySem.W.codeIn K cd x=true)(k:PySem.W.keepIn K (.ref f)=true):FH K x st:=⟨f,oc,kV,dc,pm,cd,ct,od,an,sl,a,l,c,k⟩
theorem FH.go {K:PySem.W.Frag}{x:Str}{st:Stmt}{h:Heap}{mg:Str->Option Value}(H:FH K x st)(X:K.In h)(G:h.Ns mainGlobals mg):∃ f fd,Fun K x x st f fd∧mg x=some (.ref f):=by
 obtain ⟨_,_,_,_,_,_,_,_,_,_,a,l,c,k⟩:=H
 exact ⟨_,_,SX l c k,PySem.W.mg_of X G a⟩
set_option maxHeartbeats 0 in
theorem all_mk {l:PySem.W.OpenLaw}{w:World}{K:PySem.W.Frag}{h:Heap}{mg:Str->Option Value}{fa:Addr}(X:K.In h)(G:h.Ns mainGlobals mg)(hfa:mg "law"=some (.ref fa)){t1 t2 t3 t4:Tok}{p1:Addr}{pn1:Nat}{ps1:Array (Option Value)}{pt1_0 pt1_1 pt1_2:Tok}
  (h1:FH K "is_word" G0) (h2:FH K "is_tuple" Hx) (h3:FH K "is_tuple_of_words" DD) (h4:FH K "are_unlike" Gh) (h5:FH K "are_words" GN) (h6:FH K "are_within" Fs) (h7:FH K "is_pair" IP) (h8:FH K "are_pairs" Fe) (h9:FH K "called_columns" D6) (h10:FH K "is_test" G9) (h11:FH K "are_tests" FV) (h12:FH K "columns_if_single" D3) (h13:FH K "joined_columns" Eb) (h14:FH K "columns_if_paired" D2) (h15:FH K "is_named" Hw) (h16:FH K "columns_if_look" Eu) (h17:FH K "columns_by_name" DR) (h18:FH K "is_look" IK) (h19:FH K "_law_hand" Hj) (h20:FH K "_law_take" Hv) (h21:FH K "_law_pick" Hr) (h22:FH K "_law_words" FY) (h23:FH K "_law_schema" Fm) (h24:FH K "_law_columns" DX) (h25:FH K "_law_stock" GO) (h26:FH K "_law_test" Hi) (h27:FH K "_law_big" II) (h28:FH K "_law_look" E6) (h29:FH K "_law_is_word" EU) (h30:FH K "_law_test_fits" Eo) (h31:FH K "_law_cut_fits" EA) (h32:FH K "_law_called_so" Dm) (h33:FH K "_law_fits" E3) (h34:FH K "_law_odd" IJ) (h35:FH K "_law_put_in" Gf) (h36:FH K "law" Kz)
  (z1:PySem.W.nsIn K mainGlobals "all"=some none) (z2:PySem.W.nsIn K mainGlobals "bool"=some none) (z3:PySem.W.nsIn K mainGlobals "dict"=some none) (z4:PySem.W.nsIn K mainGlobals "int"=some none) (z5:PySem.W.nsIn K mainGlobals "isinstance"=some none) (z6:PySem.W.nsIn K mainGlobals "len"=some none) (z7:PySem.W.nsIn K mainGlobals "list"=some none) (z8:PySem.W.nsIn K mainGlobals "max"=some none) (z9:PySem.W.nsIn K mainGlobals "min"=some none) (z10:PySem.W.nsIn K mainGlobals "range"=some none) (z11:PySem.W.nsIn K mainGlobals "set"=some none) (z12:PySem.W.nsIn K mainGlobals "sorted"=some none) (z13:PySem.W.nsIn K mainGlobals "str"=some none) (z14:PySem.W.nsIn K mainGlobals "tuple"=some none)
  (g1:PySem.W.nsIn K mainGlobals "DEEPEST"=some (some (.int 8 t1))) (g2:PySem.W.nsIn K mainGlobals "LONGEST"=some (some (.int 8 t2))) (g3:PySem.W.nsIn K mainGlobals "MOST_TESTS"=some (some (.int 4 t3))) (g4:PySem.W.nsIn K mainGlobals "SIGNS"=some (some (.str "abcdefghijklmnopqrstuvwxyz0123456789" t4))) (q1:PySem.W.nsIn K mainGlobals "PAIRED"=some (some (.ref p1))) (m1:K.lookup p1=some ⟨.type "tuple",none,.seq #[.str "join" pt1_0,.str "union" pt1_1,.str "gap" pt1_2] pn1,ps1⟩) :
  ∃ fd:FuncData,(∀ (s:Shared) (v:Value),BindsTo s fd ⟨[v],[]⟩ [("_law_script",v)])∧∀ base:Heap,K.In base->base.Ns mainGlobals mg->DH l.prog w K mg base CX0 23 fa fd ["_law_script"] (spF ⟨K,l.prog,w⟩ Ms 1):=by
 have T:Tx K mg:=⟨A1 X G z1,A1 X G z2,A1 X G z3,A1 X G z4,A1 X G z5,A1 X G z6,A1 X G z7,A1 X G z8,A1 X G z9,A1 X G z10,A1 X G z11,A1 X G z12,A1 X G z13,A1 X G z14,⟨t1,PySem.W.mg_of X G g1⟩,⟨t2,PySem.W.mg_of X G g2⟩,⟨t3,PySem.W.mg_of X G g3⟩,⟨p1,_,_,_,PySem.W.mg_of X G q1,m1,rfl,rfl,rfl,(show (3:Nat)≤sizeLine by rw [AL];decide),.cons ⟨pt1_0,rfl⟩ (.cons ⟨pt1_1,rfl⟩ (.cons ⟨pt1_2,rfl⟩ (.nil)))⟩,⟨t4,PySem.W.mg_of X G g4⟩⟩
 obtain ⟨_,_,kV,dc,pm,cd,ct,_,an,_,a,lk,c,k⟩:=h36
 cases hfa.symm.trans (PySem.W.mg_of X G a)
 refine ⟨PySem.W.fnOf "law" "law" (Hk Kz) (EV Kz) (B9 Kz) .none kV dc pm an cd ct,λs v=>.of_eq rfl,λbase _ _=>?_⟩
 obtain ⟨_,_,F,m⟩:=h1.go X G
 have C1:=CH (P:=l.prog) (w:=w) (base:=base) F m (Pl F T ) (F.binds λ_ _ _ _ _ _ us hl=>match us,hl with|[_],_=>rfl)
 obtain ⟨_,_,F,m⟩:=h2.go X G
 have C2:=CH (P:=l.prog) (w:=w) (base:=base) F m (Oy F T ) (F.binds λ_ _ _ _ _ _ us hl=>match us,hl with|[_,_,_],_=>rfl)
 obtain ⟨_,_,F,m⟩:=h3.go X G
 have C3:=CH (P:=l.prog) (w:=w) (base:=base) F m (Iu F T C1) (F.binds λ_ _ _ _ _ _ us hl=>match us,hl with|[_],_=>rfl)
 obtain ⟨_,_,F,m⟩:=h4.go X G
 have C4:=CH (P:=l.prog) (w:=w) (base:=base) F m (LZ F T ) (F.binds λ_ _ _ _ _ _ us hl=>match us,hl with|[_],_=>rfl)
 obtain ⟨_,_,F,m⟩:=h5.go X G
 have C5:=CH (P:=l.prog) (w:=w) (base:=base) F m (MM F T C2 C3 C4) (F.binds λ_ _ _ _ _ _ us hl=>match us,hl with|[_,_,_],_=>rfl)
 obtain ⟨_,_,F,m⟩:=h6.go X G
 have C6:=CH (P:=l.prog) (w:=w) (base:=base) F m (LW F T ) (F.binds λ_ _ _ _ _ _ us hl=>match us,hl with|[_,_],_=>rfl)
 obtain ⟨_,_,F,m⟩:=h7.go X G
 have C7:=CH (P:=l.prog) (w:=w) (base:=base) F m (PX F T C2 C1) (F.binds λ_ _ _ _ _ _ us hl=>match us,hl with|[_],_=>rfl)
 obtain ⟨_,_,F,m⟩:=h8.go X G
 have C8:=CH (P:=l.prog) (w:=w) (base:=base) F m (Ng F T C2 C7 C4 C6) (F.binds λ_ _ _ _ _ _ us hl=>match us,hl with|[_,_],_=>rfl)
 obtain ⟨_,_,F,m⟩:=h9.go X G
 have C9:=CH (P:=l.prog) (w:=w) (base:=base) F m (Js F T ) (F.binds λ_ _ _ _ _ _ us hl=>match us,hl with|[_,_],_=>rfl)
 obtain ⟨_,_,F,m⟩:=h10.go X G
 have C10:=CH (P:=l.prog) (w:=w) (base:=base) F m (Pc F T C2 C1 C6) (F.binds λ_ _ _ _ _ _ us hl=>match us,hl with|[_,_],_=>rfl)
 obtain ⟨_,_,F,m⟩:=h11.go X G
 have C11:=CH (P:=l.prog) (w:=w) (base:=base) F m (MU F T C2 C10) (F.binds λ_ _ _ _ _ _ us hl=>match us,hl with|[_,_],_=>rfl)
 obtain ⟨_,_,F,m⟩:=h12.go X G
 have C12:=CH (P:=l.prog) (w:=w) (base:=base) F m (HX F T C11 C5 C6 C8 C9 C4) (F.binds λ_ _ _ _ _ _ us hl=>match us,hl with|[_,_,_],_=>rfl)
 obtain ⟨_,_,F,m⟩:=h13.go X G
 have C13:=CH (P:=l.prog) (w:=w) (base:=base) F m (JB F T ) (F.binds λ_ _ _ _ _ _ us hl=>match us,hl with|[_,_],_=>rfl)
 obtain ⟨_,_,F,m⟩:=h14.go X G
 have C14:=CH (P:=l.prog) (w:=w) (base:=base) F m (Ip F T C13) (F.binds λ_ _ _ _ _ _ us hl=>match us,hl with|[_,_,_],_=>rfl)
 obtain ⟨_,_,F,m⟩:=h15.go X G
 have C15:=CH (P:=l.prog) (w:=w) (base:=base) F m (NY F T C1) (F.binds λ_ _ _ _ _ _ us hl=>match us,hl with|[_,_],_=>rfl)
 obtain ⟨_,_,F,m⟩:=h16.go X G
 have b:=F.binds (ps:=["known","thing","depth"]) λ_ _ _ _ _ _ us hl=>match us,hl with|[_,_,_],_=>rfl
 have C16:=CH (P:=l.prog) (w:=w) (base:=base) F m (Gz F m b T C2 C15 C12 C14 10) b
 obtain ⟨_,_,F,m⟩:=h17.go X G
 have C17:=CH (P:=l.prog) (w:=w) (base:=base) F m (Jg F T ) (F.binds λ_ _ _ _ _ _ us hl=>match us,hl with|[_],_=>rfl)
 obtain ⟨_,_,F,m⟩:=h18.go X G
 have C18:=CH (P:=l.prog) (w:=w) (base:=base) F m (OZ F T C16 C17) (F.binds λ_ _ _ _ _ _ us hl=>match us,hl with|[_,_],_=>rfl)
 obtain ⟨_,_,F,m⟩:=h19.go X G
 have C19:=CH (P:=l.prog) (w:=w) (base:=base) F m (OL F T ) (F.binds λ_ _ _ _ _ _ us hl=>match us,hl with|[_,_],_=>rfl)
 obtain ⟨_,_,F,m⟩:=h20.go X G
 have C20:=CH (P:=l.prog) (w:=w) (base:=base) F m (NJ F T ) (F.binds λ_ _ _ _ _ _ us hl=>match us,hl with|[_,_],_=>rfl)
 obtain ⟨_,_,F,m⟩:=h21.go X G
 have C21:=CH (P:=l.prog) (w:=w) (base:=base) F m (OG F T C20) (F.binds λ_ _ _ _ _ _ us hl=>match us,hl with|[_,_],_=>rfl)
 obtain ⟨_,_,F,m⟩:=h22.go X G
 have C22:=CH (P:=l.prog) (w:=w) (base:=base) F m (Nl F T C20 C21) (F.binds λ_ _ _ _ _ _ us hl=>match us,hl with|[_,_,_],_=>rfl)
 obtain ⟨_,_,F,m⟩:=h23.go X G
 have C23:=CH (P:=l.prog) (w:=w) (base:=base) F m (LV F T C22 C20) (F.binds λ_ _ _ _ _ _ us hl=>match us,hl with|[_,_,_,_],_=>rfl)
 obtain ⟨_,_,F,m⟩:=h24.go X G
 have b:=F.binds (ps:=["_law_schema_here","_law_look_here"]) λ_ _ _ _ _ _ us hl=>match us,hl with|[_,_],_=>rfl
 have C24:=CH (P:=l.prog) (w:=w) (base:=base) F m (IA F m b T  10) b
 obtain ⟨_,_,F,m⟩:=h25.go X G
 have C25:=CH (P:=l.prog) (w:=w) (base:=base) F m (MG F T ) (F.binds λ_ _ _ _ _ _ us hl=>match us,hl with|[_],_=>rfl)
 obtain ⟨_,_,F,m⟩:=h26.go X G
 have C26:=CH (P:=l.prog) (w:=w) (base:=base) F m (Of F T C21) (F.binds λ_ _ _ _ _ _ us hl=>match us,hl with|[_,_,_],_=>rfl)
 obtain ⟨_,_,F,m⟩:=h27.go X G
 have b:=F.binds (ps:=["_law_look_here"]) λ_ _ _ _ _ _ us hl=>match us,hl with|[_],_=>rfl
 have C27:=CH (P:=l.prog) (w:=w) (base:=base) F m (K9 F m b T  10) b
 obtain ⟨_,_,F,m⟩:=h28.go X G
 have b:=F.binds (ps:=["_law_hand_here","_law_schema_here","_law_deep"]) λ_ _ _ _ _ _ us hl=>match us,hl with|[_,_,_],_=>rfl
 have C28:=CH (P:=l.prog) (w:=w) (base:=base) F m (Ku F m b T C20 C21 C24 C25 C26 C27 10) b
 obtain ⟨_,_,F,m⟩:=h29.go X G
 have C29:=CH (P:=l.prog) (w:=w) (base:=base) F m (Lo F T ) (F.binds λ_ _ _ _ _ _ us hl=>match us,hl with|[_],_=>rfl)
 obtain ⟨_,_,F,m⟩:=h30.go X G
 have C30:=CH (P:=l.prog) (w:=w) (base:=base) F m (Ko F T C29) (F.binds λ_ _ _ _ _ _ us hl=>match us,hl with|[_,_],_=>rfl)
 obtain ⟨_,_,F,m⟩:=h31.go X G
 have C31:=CH (P:=l.prog) (w:=w) (base:=base) F m (KQ F T ) (F.binds λ_ _ _ _ _ _ us hl=>match us,hl with|[_,_],_=>rfl)
 obtain ⟨_,_,F,m⟩:=h32.go X G
 have C32:=CH (P:=l.prog) (w:=w) (base:=base) F m (Kk F T C31 C29) (F.binds λ_ _ _ _ _ _ us hl=>match us,hl with|[_,_],_=>rfl)
 obtain ⟨_,_,F,m⟩:=h33.go X G
 have b:=F.binds (ps:=["_law_schema_here","_law_thing","_law_deep"]) λ_ _ _ _ _ _ us hl=>match us,hl with|[_,_,_],_=>rfl
 have C33:=CH (P:=l.prog) (w:=w) (base:=base) F m (KA F m b T C31 C32 C30 10) b
 obtain ⟨_,_,F,m⟩:=h34.go X G
 have C34:=CH (P:=l.prog) (w:=w) (base:=base) F m (OV F T C21) (F.binds λ_ _ _ _ _ _ us hl=>match us,hl with|[_,_],_=>rfl)
 obtain ⟨_,_,F,m⟩:=h35.go X G
 have b:=F.binds (ps:=["_law_hand_here","_law_schema_here","_law_thing","_law_deep"]) λ_ _ _ _ _ _ us hl=>match us,hl with|[_,_,_,_],_=>rfl
 have C35:=CH (P:=l.prog) (w:=w) (base:=base) F m (IZ F m b T C20 C34 14) b
 exact Ys (SX lk c k) T C19 C23 C28 C20 C35 C18 C33
theorem NL {K:Zc}{th:List Addr}{H:Hp}:∀ ns:List Int,RepL K th H (ns.map D.int) (ns.map V.int)
 | []=>.nil
 | i::ns=>.cons rfl (NL ns)
theorem walk {l:PySem.W.OpenLaw}{q:Program}{loose:List Str}{XP:(Str->Option Value)->Heap->Prop}{YP:World->Heap->Prop}{d:DefRec}{K:Params->PySem.W.Frag}(hn:l.most=some 63)(hdf:d.params.defaults=[])
  (hY:∀ (w:World) (h:Heap),YP w h->(K w.params).In h)
  (F:∀ (w:World) (mg:Str->Option Value) (fa:Addr) (h:Heap),(K w.params).In h->h.Ns mainGlobals mg->mg d.name=some (.ref fa) ->
   ∃ fd:FuncData,(∀ (s:Shared) (u:Value),BindsTo s fd ⟨[u],[]⟩ [("_law_script",u)])∧∀ base:Heap,(K w.params).In base->base.Ns mainGlobals mg->DH l.prog w (K w.params) mg base CX0 23 fa fd ["_law_script"] (spF ⟨K w.params,l.prog,w⟩ Ms 1)) :
  PySem.W.WalkO q loose XP YP l.row.toRowW d [] (λf vs=>PySem.call f vs):=
 L2.V4 (n:=63) (k:=23) (x:="_law_script") (CX:=λ_=>CX0) (sp:=λw=>spF ⟨K w.params,l.prog,w⟩ Ms 1) hn (by decide) hdf ⟨rfl,by decide,by decide,rfl⟩ hY F (λw H a ns hl _ hS=>by
  obtain ⟨mu',e⟩:=VA ns
  refine ⟨[],[],[.lst (ns.map D.int)],⟨rfl,List.nodup_nil,λk a o e=>by simp at e⟩,.cons ?_ .nil,rfl,.bl true,mu',e,λth' H' _ _ v rv=>rv⟩
  unfold Rep
  refine ⟨a,ns.map V.int,rfl,?_,NL ns,by rw [Ag];exact AK hl (by decide)⟩
  rcases hS with hS|hS
  ·exact .inl ⟨by simp,hS⟩
  ·exact .inr hS) λ_ _ _ _ _ z=>z
end PG
local macro_rules|`({ scope:=$a,locals:=$b,globals:=$c,cells:=[],code:=$d,frame:=some $_ })=>`({ scope:=$a,locals:=$b,globals:=$c,cells:=[],code:=$d,frame:=none })
open PySem PySem.W PyProof.Rows
set_option maxRecDepth 100000 in
set_option maxHeartbeats 0 in
theorem PySem.Challenge.cw_lookback_k06_looks_spoilt_holds : PySem.Challenge.rw_lookback_k06_looks_spoilt.Holds := by
 w_on;o_law;k_head;(case hw=>w_witness2)
 k_fill
 refine PG.walk (l:=PySem.Challenge.rw_lookback_k06_looks_spoilt) rfl rfl (λw h Y=>PySem.W.kIn_of Y) ?F
 case F =>
  intro w mg fa h KX G hmg
  refine' PG.all_mk KX G hmg ?h1 ?h2 ?h3 ?h4 ?h5 ?h6 ?h7 ?h8 ?h9 ?h10 ?h11 ?h12 ?h13 ?h14 ?h15 ?h16 ?h17 ?h18 ?h19 ?h20 ?h21 ?h22 ?h23 ?h24 ?h25 ?h26 ?h27 ?h28 ?h29 ?h30 ?h31 ?h32 ?h33 ?h34 ?h35 ?h36 ?z1 ?z2 ?z3 ?z4 ?z5 ?z6 ?z7 ?z8 ?z9 ?z10 ?z11 ?z12 ?z13 ?z14 ?g1 ?g2 ?g3 ?g4 ?q1 ?m1
  case h1|h2|h3|h4|h5|h6|h7|h8|h9|h10|h11|h12|h13|h14|h15|h16|h17|h18|h19|h20|h21|h22|h23|h24|h25|h26|h27|h28|h29|h30|h31|h32|h33|h34|h35|h36=>(refine' PG.fh ?a ?l ?c ?k;(case a=>k_is);(case l=>k_is);(case c=>k_is);(case k=>k_is))
  (case z1=>k_is);(case z2=>k_is);(case z3=>k_is);(case z4=>k_is);(case z5=>k_is);(case z6=>k_is)
  (case z7=>k_is);(case z8=>k_is);(case z9=>k_is);(case z10=>k_is);(case z11=>k_is);(case z12=>k_is)
  (case z13=>k_is);(case z14=>k_is);(case g1=>k_is);(case g2=>k_is);(case g3=>k_is);(case g4=>k_is)
  (case q1=>k_is);(case m1=>k_is)
