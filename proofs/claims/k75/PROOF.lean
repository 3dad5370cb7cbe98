import PyProof.Rows.All
import Wide.All
import OpenK.AllK
import Wide.FinOn
import Lean
import PyProof.EqAt
import PyProof.EqKinds
import PyProof.TupleCall
import PySem.Challenge.RW_lookback_k75_looks_shown_and_read
set_option Elab.async false
set_option linter.all false
set_option compiler.extract_closed false
set_option maxRecDepth 100000
local macro_rules(kind:=Lean.Elab.Tactic.Ext.ext)|s=>return .node .none `Lean.Parser.Tactic.omega #[.atom .none "omega",.node .none `Lean.Parser.Tactic.optConfig #[.node .none `null #[]]]
local macro_rules|`(tactic|symm)=>`(tactic|decide +kernel)
local macro_rules|`(tactic|rfl')=>`(tactic|exact ⟨rfl,rfl,rfl,by decide +kernel,rfl,by decide +kernel,by decide +kernel⟩)
noncomputable section
def Aa:=@PySem.wpAny_bind
def Ab:=@PySem.wpAny_pure
def Ac:=@List.length_map
def Ad:=@PySem.Heap.get?_push_of_some
def Ae:=@Bool.and_eq_true
def Af:=@List.getElem?_eq_some_iff
def Ag:=@List.length_append
def Ah:=@List.mem_cons
def Ai:=@PySem.Heap.get?_push_size
def Aj:=@Nat.le_refl
def Ak:=@decide_eq_true_eq
def Al:=@List.mem_of_getElem?
def Am:=@Bool.false_ne_true
def An:=@PySem.Heap.lt_size
def Ao:=@List.mem_singleton
def Ap:=@List.getElem?_map
def Aq:=@List.size_toArray
def Ar:=@List.all_eq_true
def As:=@PySem.sizeLine_eq
def Au:=@List.not_mem_nil
def Av:=@List.getElem?_append_left
def Aw:=@List.mem_map
def Ax:=@Array.getElem?_eq_getElem
def Ay:=@List.getElem?_eq_getElem
def Az:=@Nat.lt_of_lt_of_le
def AA:=@Nat.ne_of_lt
def AB:=@List.mem_append_right
def AD:=@Array.getElem?_toList
def AE:=@List.mem_append
def AF:=@PySem.Heap.SameBut.update
def AG:=@PySem.wpAny_call_entry
def AH:=@PySem.wpAny_holding
def AI:=@Option.some.inj
def AJ:=@List.getElem?_set_ne
def AK:=@PySem.wpAny_callSpecial?_slot
def AL:=@List.getD_eq_getElem?_getD
def AM:=@List.map_append
def AN:=@Nat.le_trans
def AO:=@List.map_cons
def AQ:=@List.map_map
def AR:=@Bool.false_eq_true
def AS:=@PySem.Heap.get?_update_self
def AU:=@PySem.wpAny_newObj_type
def AV:=@List.nodup_iff_pairwise_ne
def AW:=@PySem.W.mg_none_of
def AX:=@decide_eq_false
def AY:=@or_false
def AZ:=@List.length_take
def A0:=@Nat.zero_le
def A1:=@List.mem_append_left
def A3:=@Nat.lt_succ_self
def A4:=@PySem.W.kia_one
def A5:=@Nat.lt_succ_of_lt
def A6:=@Int.emod_lt_of_pos
def A7:=@List.mem_iff_getElem?
def A8:=@Nat.lt_irrefl
def A9:=@decide_eq_true
def Ba:=@PySem.wpAny_setField
def Bb:=@Array.getElem?_eq_none
def Bc:=@PySem.Heap.size_push
def Bd:=@PySem.Around.under_plainId
def Be:=@PyProof.Rows.slot_tuple_getitem
def Bf:=@Int.emod_nonneg
def Bg:=@PySem.F.slot_dict_valueiterator_next
def Bh:=@PySem.wpAny_truthy_bool
def Bi:=@PySem.wpAny_dictEntries
def Bj:=@List.ext_getElem?
def Bk:=@PySem.Heap.get?_update_other
def Bl:=@PySem.codeAny_builtin
def Bm:=@PySem.wpAny_seqItems
def Bn:=@PySem.wpAny_dictEpoch
def Bo:=@PySem.F.slot_dict_keyiterator_next
def Bp:=@List.getElem?_take_of_lt
def Bq:=@PySem.wpAny_rule
def Br:=@PySem.wpAny_typeOf
def Bs:=@Nat.zero_add
def Bt:=@List.getElem?_append_right
def Bu:=@if_false
def Bv:=@PySem.wpAny_field
def Bw:=@PyProof.Rows.boot_tuple
def Bx:=@List.nodup_cons
def By:=@PySem.PassesOwn.never
def Bz:=@List.mem_cons_of_mem
def BA:=@decide_eq_false_iff_not
def BB:=@PyProof.Rows.callWith_type1
def BC:=@List.mem_range
def BD:=@PySem.wpAny_setState_of
def BE:=@List.flatMap_cons
def BF:=@PySem.wpAny_isInstance
def BG:=@PySem.plainId_quiet
def BH:=@PySem.W.mg_of
def BI:=@PySem.wpAny_typeNameOfWhole_keyiter
def BJ:=@PySem.wpAny_typeNameOfWhole_valiter
def BK:=@List.getElem?_replicate
def BL:=@List.nodup_append
def BM:=@List.length_range
def BN:=@PySem.mem_of_lookup
def BP:=@Array.toList_append
def BQ:=@List.getElem?_set_self
def BR:=@List.length_drop
def BS:=@List.getElem_mem
def BU:=@PySem.F.slot_tuple_iterator_next
namespace L2
open PySem PySem.Spec PyProof.Rows
abbrev Key:=Sum Int Str
noncomputable def Vg:Key->Value->Bool
 | .inl k,v=>Value.isInt k v
 | .inr x,v=>Value.isStrOf x v
noncomputable def ZK (w:World):Key->Int
 | .inl k=>hashInt k
 | .inr x=>hashStr w x
theorem Dy:∀ {k:Key} {v:Value},Vg k v=true->(∃ i t,k=Sum.inl i∧v=Value.int i t)∨(∃ x t,k=Sum.inr x∧v=Value.str x t)
 | .inl i,v,h=>by
  obtain ⟨t,e⟩:=Value.isInt_shape (k:=i) (v:=v) h
  exact .inl ⟨i,t,rfl,e⟩
 | .inr x,v,h=>by
  obtain ⟨t,e⟩:=Value.isStrOf_shape (x:=x) (v:=v) h
  exact .inr ⟨x,t,rfl,e⟩
theorem Wy (a b:Int):decide ((Sum.inl a:Key)=Sum.inl b)=(a==b):=by
 by_cases e:a=b
 ·subst e;simp
 ·have h:¬ (Sum.inl a:Key)=Sum.inl b:=λq=>e (Sum.inl.inj q)
  rw [AX h]
  exact (beq_eq_false_iff_ne.mpr e).symm
theorem W4 (a b:Str):decide ((Sum.inr a:Key)=Sum.inr b)=decide (a=b):=by
 by_cases e:a=b
 ·subst e;simp
 ·have h:¬ (Sum.inr a:Key)=Sum.inr b:=λq=>e (Sum.inr.inj q)
  rw [AX h,AX e]
theorem VY (a:Int)(b:Str):decide ((Sum.inl a:Key)=Sum.inr b)=false:=AX (λq=>nomatch q)
theorem V2 (a:Str)(b:Int):decide ((Sum.inr a:Key)=Sum.inl b)=false:=AX (λq=>nomatch q)
def Om (prog:Program)(w:World):PySem.KeyKind prog w Key where
 is:=Vg
 hash:=ZK w
 inj:=λv a b ha hb=>by
  rcases Dy ha with ⟨i,t,rfl,rfl⟩|⟨x,t,rfl,rfl⟩
  ·rcases Dy hb with ⟨j,u,rfl,e⟩|⟨y,u,rfl,e⟩
   ·injection e with e1 _;rw [e1]
   ·exact nomatch e
  ·rcases Dy hb with ⟨j,u,rfl,e⟩|⟨y,u,rfl,e⟩
   ·exact nomatch e
   ·injection e with e1 _;rw [e1]
 byValue:=λk v h=>by
  rcases Dy h with ⟨i,t,rfl,rfl⟩|⟨x,t,rfl,rfl⟩<;>rfl
 pyHash:=λhv h=>by
  rcases Dy hv with ⟨i,t,rfl,rfl⟩|⟨x,t,rfl,rfl⟩
  ·exact wpAny_pyHash_int h
  ·exact wpAny_pyHash_str h
 eqBool:=λhu hv h=>by
  rcases Dy hu with ⟨i,t,rfl,rfl⟩|⟨x,t,rfl,rfl⟩
  ·rcases Dy hv with ⟨j,u,rfl,rfl⟩|⟨y,u,rfl,rfl⟩
   ·rw [Wy] at h;exact wpAny_eqBool_int h
   ·rw [VY] at h;exact SeqAt.EqAt.int_str i t y u _ _ _ _ h
  ·rcases Dy hv with ⟨j,u,rfl,rfl⟩|⟨y,u,rfl,rfl⟩
   ·rw [V2] at h;exact SeqAt.EqAt.str_int x t j u _ _ _ _ h
   ·rw [W4] at h;exact wpAny_eqBool_str h
 «strs»:=λk x t v h=>by
  rcases Dy h with ⟨i,u,rfl,e⟩|⟨y,u,rfl,e⟩
  ·exact nomatch e
  ·injection e with e1 _
   subst e1
   cases v<;>rfl
inductive V where
 | non|bl (b:Bool)|int (i:Int)|str (x:Str)|byt (b:Array UInt8)|flt (b:UInt64)|ref (a:Addr)|ty (n:String)
 deriving DecidableEq
def RelV:V->Value->Prop
 | .non,u=>u=Value.none
 | .bl b,u=>u=Value.bool b
 | .int i,u=>∃ t,u=Value.int i t
 | .str x,u=>∃ t,u=Value.str x t
 | .byt b,u=>∃ t,u=Value.bytes b t
 | .flt b,u=>∃ t,u=Value.float b t
 | .ref a,u=>u=Value.ref a
 | .ty n,u=>u=Value.type n
abbrev Vals:List V->List Value->Prop:=Paired RelV
theorem Vals.length {xs:List V}{us:List Value}(r:Vals xs us):xs.length=us.length:=Paired.length r
theorem Vals.get:∀ {xs:List V} {us:List Value} {i:Nat} {x:V},Vals xs us->xs[i]? = some x->∃ u,us[i]? = some u∧RelV x u
 | _,_,_,_,.nil,e=>by simp at e
 | _,_,0,_,.cons r _,e=>by simp at e;subst e;exact ⟨_,rfl,r⟩
 | _,_,i+1,x,.cons _ t,e=>by
  obtain ⟨u,h1,h2⟩:=Vals.get (i:=i) (x:=x) t (by simpa using e)
  exact ⟨u,by simpa using h1,h2⟩
theorem Vals.set {x:V}{u:Value}(r:RelV x u):∀ {xs:List V} {us:List Value} (i:Nat),Vals xs us->Vals (xs.set i x) (us.set i u)
 | _,_,_,.nil=>.nil
 | _,_,0,.cons _ t=>.cons r t
 | _,_,i+1,.cons q t=>.cons q (Vals.set r i t)
theorem Vals.append:∀ {xs ys:List V} {us ws:List Value},Vals xs us->Vals ys ws->Vals (xs++ys) (us++ws)
 | _,_,_,_,.nil,s=>s
 | _,_,_,_,.cons r t,s=>.cons r (Vals.append t s)
theorem Vals.take:∀ {xs:List V} {us:List Value} (n:Nat),Vals xs us->Vals (xs.take n) (us.take n)
 | _,_,0,_=>.nil
 | _,_,_+1,.nil=>.nil
 | _,_,n+1,.cons r t=>.cons r (Vals.take n t)
theorem Vals.drop:∀ {xs:List V} {us:List Value} (n:Nat),Vals xs us->Vals (xs.drop n) (us.drop n)
 | _,_,0,r=>r
 | _,_,_+1,.nil=>.nil
 | _,_,n+1,.cons _ t=>Vals.drop n t
def WB:Option V->Option Value->Prop
 | some v,some u=>RelV v u
 | none,none=>True
 | _,_=>False
def KV {κ:Type}:List (κ×V)->List (κ×Value)->Prop:=Paired λ(p:κ×V) (q:κ×Value)=>p.1=q.1∧RelV p.2 q.2
noncomputable def kV:Key->V
 | .inl i=>.int i
 | .inr x=>.str x
inductive HO where
  | lst (xs:List V)
  | tup (xs:List V)
  | dK (kvs:List (Key×V))|dT (kvs:List (List Key×V))
  | set (S:Int->Bool) (n:Nat)
  | ins (C dx:Addr) (fs:List (Str×V))
  | own (x:Addr)
  | xd (fs:List (Str×V))
  | met (f x:Addr)
  | rng (lo hi:Int)
  | frz (o:Obj) (u:HO)
  | tbl (ps:Array Value)
  | ext (φ:Heap->Prop)
abbrev Hp:=Addr->Option HO
noncomputable def upd (H:Hp)(a:Addr)(o:HO):Hp:=λb=>if b=a then some o else H b
theorem DG {H:Hp}{a:Addr}{o:HO}:upd H a o a=some o:=by unfold upd;rw [if_pos rfl]
theorem CK {H:Hp}{a b:Addr}{o:HO}(h:b≠a):upd H a o b=H b:=by unfold upd;rw [if_neg h]
theorem CM {H:Hp}{a b:Addr}{o:HO}(h:H a=some o)(h':H b=none):a≠b:=by
 intro e;subst e;rw [h] at h';cases h'
section
variable (P:Program) (w:World)
def ObjOk (H:Hp)(h:Heap)(a:Addr):HO->Prop
 | .lst xs=>xs.length≤sizeLine∧∃ (its:List Value) (n:Nat),Vals xs its∧h.get? a=some { cls:=.type "list",data:=.seq its.toArray n }
 | .tup xs=>(xs.length≤sizeLine∧∃ o,h.get? a=some o∧o.dict=none)∧∃ its:List Value,Vals xs its∧IsTup h a its.toArray
 | .dK kvs=>kvs.length≤sizeLine∧(a==sysModules)=false∧∃ vs,KV kvs vs∧h.DictOf (Om P w) a vs
 | .dT kvs=>kvs.length≤sizeLine∧(a==sysModules)=false∧∃ xs:List (List Key×Addr×Value),
   Paired (λ(p:List Key×V) (q:List Key×Addr×Value)=>p.1=q.1∧H q.2.1=some (.tup (p.1.map kV))∧RelV p.2 q.2.2) kvs xs ∧
   ∃ o es ep,h.get? a=some o∧o.ExactDict∧o.data=.dict es ep∧es.toList=xs.map (entryOfKey (tupleKind (Om P w)))∧(xs.map (·.1)).Nodup
 | .set S n=>h.SetOf (intKind P w) a S n
 | .ins C dx fs=>H dx=some (.own a)∧fs.length≤1000∧dx≠a∧h.get? a=some (PySem.W.instObj C dx) ∧
   ∃ mA,h.Ns1 dx mA∧(∀ f,WB (fs.lookup f) (mA f))∧PySem.Within mA (fs.map (·.1))
 | .own _=>∃ o,h.get? a=some o
 | .xd fs=>∃ mA,h.Ns1 a mA∧∀ f,WB (fs.lookup f) (mA f)
 | .rng lo hi=>∃ t u v,h.get? a=some { cls:=.type "range",data:=.fields #[.int lo t,.int hi u,.int 1 v] }
 | .frz o u=>h.get? a=some o∧ObjOk H h a u
 | .tbl ps=>h.get? a=some { cls:=.none,data:=.fields ps }
 | .met f x=>h.get? a=some (PySem.W.methodObj (.ref f) (.ref x))
 | .ext φ=>φ h∧(∃ o,h.get? a=some o)∧∀ h1 h2:Heap,φ h1->(∀ o,h1.get? a=some o->h2.get? a=some o)->φ h2
def HOk (H:Hp)(h:Heap):Prop:=∀ a o,H a=some o->ObjOk P w H h a o
end
section
variable {P:Program} {w:World} {H H':Hp} {h h':Heap} {a:Addr} {o:HO}
theorem ObjOk.lt (x:ObjOk P w H h a o):a<h.objs.size:=by
 cases o with
 | lst xs=>obtain ⟨_,_,_,_,e⟩:=x;exact An e
 | tup xs=>obtain ⟨_,_,_,p⟩:=x;exact p.lt
 | dK kvs=>obtain ⟨_,_,_,_,o,_,_,e,_⟩:=x;exact An e
 | dT kvs=>obtain ⟨_,_,_,_,o,_,_,e,_⟩:=x;exact An e
 | set S n=>obtain ⟨o,_,_,_,e,_⟩:=x;exact An e
 | ins C dx fs=>obtain ⟨_,_,_,e,_⟩:=x;exact An e
 | own y=>obtain ⟨_,e⟩:=x;exact An e
 | xd fs=>obtain ⟨_,⟨_,_,_,e,_⟩,_⟩:=x;exact An e
 | rng lo hi=>obtain ⟨_,_,_,e⟩:=x;exact An e
 | frz ob u=>obtain ⟨e,_⟩:=x;exact An e
 | tbl ps=>exact An (show h.get? a=some _ from x)
 | met f y=>exact An (show h.get? a=some _ from x)
 | ext φ=>obtain ⟨_,⟨_,e⟩,_⟩:=x;exact An e
theorem Paired.mapP {α β:Type}{F G:α->β->Prop}:∀ {l₁:List α} {l₂:List β},Paired F l₁ l₂->(∀ a b,F a b->G a b)->Paired G l₁ l₂
 | _,_,.nil,_=>.nil
 | _,_,.cons r t,f=>.cons (f _ _ r) (Paired.mapP t f)
theorem ObjOk.stay (x:ObjOk P w H h a o)(k:∀ b u,(b=a∨H b=some (.own a))->h.get? b=some u->h'.get? b=some u)
  (ho:∀ b,H b=some (.own a)->H' b=some (.own a)) (ht:∀ b xs,H b=some (.tup xs)->H' b=some (.tup xs)):ObjOk P w H' h' a o:=by
 induction o with
 | lst xs=>obtain ⟨z,its,n,r,e⟩:=x;exact ⟨z,its,n,r,k _ _ (.inl rfl) e⟩
 | tup xs=>obtain ⟨⟨z,o1,z1,z2⟩,its,r,ob,e,c⟩:=x;exact ⟨⟨z,o1,k _ _ (.inl rfl) z1,z2⟩,its,r,ob,k _ _ (.inl rfl) e,c⟩
 | dK kvs=>obtain ⟨z,y,vs,r,ob,es,ep,e,c⟩:=x;exact ⟨z,y,vs,r,ob,es,ep,k _ _ (.inl rfl) e,c⟩
 | dT kvs =>
  obtain ⟨z,y,xs,r,ob,es,ep,e,c⟩:=x
  exact ⟨z,y,xs,Paired.mapP r λp q z=>⟨z.1,ht _ _ z.2.1,z.2.2⟩,ob,es,ep,k _ _ (.inl rfl) e,c⟩
 | set S n=>obtain ⟨ob,es,ep,t,e,c⟩:=x;exact ⟨ob,es,ep,t,k _ _ (.inl rfl) e,c⟩
 | ins C dx fs =>
  obtain ⟨d,z,ne,e,mA,⟨od,es,ep,e2,c⟩,r⟩:=x
  exact ⟨ho _ d,z,ne,k _ _ (.inl rfl) e,mA,⟨od,es,ep,k _ _ (.inr d) e2,c⟩,r⟩
 | own y=>obtain ⟨ob,e⟩:=x;exact ⟨ob,k _ _ (.inl rfl) e⟩
 | xd fs=>obtain ⟨mA,⟨od,es,ep,e,c⟩,r⟩:=x;exact ⟨mA,⟨od,es,ep,k _ _ (.inl rfl) e,c⟩,r⟩
 | rng lo hi=>obtain ⟨t,u,v,e⟩:=x;exact ⟨t,u,v,k _ _ (.inl rfl) e⟩
 | frz ob u ih=>obtain ⟨e,q⟩:=x;exact ⟨k _ _ (.inl rfl) e,ih q⟩
 | tbl ps =>
  have e:h.get? a=some { cls:=.none,data:=.fields ps }:=x
  show h'.get? a=some { cls:=.none,data:=.fields ps }
  exact k a _ (.inl rfl) e
 | met f y =>
  have e:h.get? a=some (PySem.W.methodObj (.ref f) (.ref y)):=x
  show h'.get? a=some (PySem.W.methodObj (.ref f) (.ref y))
  exact k a _ (.inl rfl) e
 | ext φ=>obtain ⟨p,⟨o,e⟩,st⟩:=x;exact ⟨st _ _ p λo q=>k _ _ (.inl rfl) q,⟨o,k _ _ (.inl rfl) e⟩,st⟩
theorem HOk.lt (x:HOk P w H h)(e:H a=some o):a<h.objs.size:=(x a o e).lt
theorem HOk.fresh (x:HOk P w H h)(e:h.objs.size≤a):H a=none:=by
 cases q:H a with
 | none=>rfl
 | some u=>exact absurd (Az (x.lt q) e) (A8 _)
theorem HOk.kept (x:HOk P w H h)(k:∀ b u,h.get? b=some u->h'.get? b=some u):HOk P w H h':=λa o e =>
 (x a o e).stay (λb u _ q=>k b u q) (λ_ q=>q) λ_ _ q=>q
theorem HOk.laid (x:HOk P w H h)(k:∀ b u,h.get? b=some u->h'.get? b=some u)(hp:h.objs.size≤a)(new:ObjOk P w (upd H a o) h' a o):HOk P w (upd H a o) h':=λb u e=>by
 have hn:=x.fresh hp
 by_cases hb:b=a
 ·subst hb;rw [DG] at e;cases e;exact new
 ·rw [CK hb] at e
  exact (x b u e).stay (λc v _ q=>k c v q) (λc q=>by rw [CK (CM q hn)];exact q) λc xs q=>by rw [CK (CM q hn)];exact q
end
def Rd (H:Hp)(a:Addr)(u:HO):Prop:=H a=some u∨∃ o,H a=some (.frz o u)
theorem Rd.ok {P:Program}{w:World}{H:Hp}{h:Heap}{a:Addr}{u:HO}(r:Rd H a u)(x:HOk P w H h):ObjOk P w H h a u:=by
 rcases r with r|⟨o,r⟩
 ·exact x a u r
 ·obtain ⟨_,q⟩:=x a _ r
  exact q
def Mut:Option HO->Prop
 | some (.lst _)=>True
 | some (.dK _)=>True
 | some (.dT _)=>True
 | some (.set _ _)=>True
 | some (.ins _ _ _)=>True
 | some (.ext _)=>True
 | _=>False
section
variable {P:Program} {w:World} {H:Hp} {h h':Heap} {x e:Addr} {o':HO}
theorem HOk.write (ok:HOk P w H h)(mu:Mut (H x))(he:e=x∨H e=some (.own x))(k:∀ b u,b≠e->h.get? b=some u->h'.get? b=some u)(heo:∃ u,h'.get? e=some u)
  (new:ObjOk P w (upd H x o') h' x o'):HOk P w (upd H x o') h':=λb u q=>by
 have nown:∀ c y,H c=some (.own y)->c≠x:=λc y r z=>by subst z;rw [r] at mu;exact mu
 have ntup:∀ c xs,H c=some (.tup xs)->c≠x:=λc xs r z=>by subst z;rw [r] at mu;exact mu
 by_cases hb:b=x
 ·subst hb;rw [DG] at q;cases q;exact new
 ·rw [CK hb] at q
  by_cases hbe:b=e
  ·have q':H b=some (.own x):=by
    rcases he with z|z
    ·exact absurd (hbe.trans z) hb
    ·rw [hbe];exact z
   rw [q] at q';cases q'
   obtain ⟨v,hv⟩:=heo
   exact ⟨v,by rw [hbe];exact hv⟩
  ·refine (ok b u q).stay (λc v hc r=>k c v ?_ r) (λc r=>by rw [CK (nown c b r)];exact r) λc xs r=>by rw [CK (ntup c xs r)];exact r
   rcases hc with rfl|hc
   ·exact hbe
   ·rintro rfl
    rcases he with z|z
    ·exact nown c b hc z
    ·rw [hc] at z;cases z;exact hb rfl
end
structure Un (fs ex:List Addr) (H H':Hp) (h h':Heap):Prop where
 keep:∀ b o,h.get? b=some o->H b=none->b∉fs->b∉ex->h'.get? b=some o
 slot:∀ b o,h.get? b=some o->H b=none->b∈fs->b∉ex->∃ sl,h'.get? b=some { o with slots:=sl }
 free:∀ b o,h.get? b=some o->H b=none->b∉ex->H' b=none
 there:∀ b o,h.get? b=some o->b∉ex->∃ o',h'.get? b=some o'
 tups:∀ b xs,H b=some (.tup xs)->H' b=some (.tup xs)
 frzs:∀ b o u,H b=some (.frz o u)->H' b=some (.frz o u)
 tbls:∀ b ps,H b=some (.tbl ps)->∃ more,H' b=some (.tbl (ps++more))
section
variable {fs fs' ex ex':List Addr} {H H1 H2:Hp} {h h1 h2 h':Heap} {a x e:Addr} {o:HO}
theorem Un.any (u:Un fs ex H H1 h h1){b:Addr}{ob:Obj}(q:h.get? b=some ob)(n:H b=none)(hx:b∉ex):∃ sl,h1.get? b=some { ob with slots:=sl }:=by
 by_cases hb:b∈fs
 ·exact u.slot b ob q n hb hx
 ·exact ⟨ob.slots,u.keep b ob q n hb hx⟩
theorem Un.kept (k:∀ b u,h.get? b=some u->h'.get? b=some u):Un fs ex H H h h':=
 ⟨λb ob q _ _ _=>k b ob q,λb ob q _ _ _=>⟨ob.slots,k b ob q⟩,λ_ _ _ n _=>n,λb ob q _=>⟨ob,k b ob q⟩,λ_ _ q=>q,λ_ _ _ q=>q,λ_ ps q=>⟨#[],by rw [q];simp⟩⟩
theorem Un.refl:Un fs ex H H h h:=Un.kept λ_ _ q=>q
theorem Un.laid (k:∀ b u,h.get? b=some u->h'.get? b=some u)(hp:h.objs.size≤a)(hn:H a=none):Un fs ex H (upd H a o) h h' where
 keep:=λb u q _ _ _=>k b u q
 slot:=λb u q _ _ _=>⟨u.slots,k b u q⟩
 free:=λb u q n _=>by rw [CK (AA (Az (An q) hp))];exact n
 there:=λb u q _=>⟨u,k b u q⟩
 tups:=λb xs q=>by rw [CK (CM q hn)];exact q
 frzs:=λb u xs q=>by rw [CK (CM q hn)];exact q
 tbls:=λb ps q=>⟨#[],by rw [CK (CM q hn),q];simp⟩
theorem Un.write (mu:Mut (H x))(he:e=x∨H e=some (.own x))(k:∀ b u,b≠e->h.get? b=some u->h'.get? b=some u)(heo:∃ u,h'.get? e=some u):Un fs ex H (upd H x o) h h':=by
 have hx:∀ b,H b=none->b≠x:=λb n z=>by subst z;rw [n] at mu;exact mu
 have hb:∀ b,H b=none->b≠e:=λb n z=>by
  subst z
  rcases he with r|r
  ·exact hx b n r
  ·rw [n] at r;cases r
 have hm:∀ b u,H b=some u->¬ Mut (some u)->b≠x:=λb u q nm z=>by subst z;rw [q] at mu;exact nm mu
 refine ⟨λb u q n _ _=>k b u (hb b n) q,λb u q n _ _=>⟨u.slots,k b u (hb b n) q⟩,λb u q n _=>by rw [CK (hx b n)];exact n,λb u q _=>?_,
  λb xs q=>by rw [CK (hm b _ q λz=>z)];exact q,λb u xs q=>by rw [CK (hm b _ q λz=>z)];exact q,λb ps q=>⟨#[],by rw [CK (hm b _ q λz=>z),q];simp⟩⟩
 by_cases hbe:b=e
 ·subst hbe;exact heo
 ·exact ⟨u,k b u hbe q⟩
end
noncomputable def trk (h:Heap)(H:Hp):List Addr:=(List.range h.objs.size).filter λa=>(H a).isSome
def LH (h:Heap)(H:Hp):Heap:=PySem.W.hideAll h (trk h H)
theorem Pk (h:Heap)(H:Hp):(LH h H).objs.size=h.objs.size:=PySem.W.hideAll_size _ _
theorem Tc {h:Heap}{H:Hp}{b:Addr}{o:Obj}(e:h.get? b=some o)(n:H b=none):(LH h H).get? b=some o:=
 PySem.W.hideAll_get _ e λhm=>by
  have q:(H b).isSome=true:=(List.mem_filter.mp hm).2
  rw [n] at q;simp at q
theorem TK {h:Heap}{H:Hp}{b:Addr}{o:Obj}(e:(LH h H).get? b=some o):h.get? b=some o∧H b=none:=by
 have e':h.get? b=some o:=PySem.W.of_hideAll (trk h H) e
 refine ⟨e',?_⟩
 cases q:H b with
 | none=>rfl
 | some x =>
  have hm:b∈trk h H:=List.mem_filter.mpr ⟨BC.mpr (An e'),by simp [q]⟩
  have z:(LH h H).get? b=none:=PySem.W.hideAll_none (trk h H) hm
  rw [z] at e;cases e
noncomputable def U7 (g h:Heap)(L:Addr):List (Addr×Obj):=(List.range h.objs.size).filterMap λa=>if a=L∨(g.get? a).isSome=true then none else (h.get? a).map λo=>(a,o)
noncomputable def rest (g h:Heap)(L d:Addr):List (Addr×Obj):=(U7 g h L).filter λp=>decide (p.1≠d)
structure Mod (K:PySem.W.Frag) (mg:Str->Option Value) (base:Heap):Prop where
 kin:K.In base
 glob:base.Ns mainGlobals mg
 blt:∃ mb,base.Ns builtinsNs mb∧∀ x:Str,x≠"__name__"->mb x=bootBuiltins x
 nolimit:base.NoLimit
structure Cx where
 prog:Program
 w:World
 K:PySem.W.Frag
 mg:Str->Option Value
 base:Heap
 A:Around
 N:List Str
 s₀:Shared
 H₀:Hp
 env:Env
 outer:List Env
 stack:List Env
 ex:List Addr
 fn:Str->Bool
 calm:Bool
 pn:List (Addr×Obj)
 xe:Value->Shared->Prop
noncomputable def frs (l:List Env):List Addr:=l.filterMap (·.frame)
abbrev Cx.fs (X:Cx):List Addr:=frs X.outer
def Vis (sc:Scope)(x:Str):Prop:=sc.names.lookup x=some .local∨sc.names.lookup x=some .cell∨sc.names.lookup x=some .free
def Loc (sc:Scope)(x:Str):Prop:=sc.names.lookup x=some .local∨sc.names.lookup x=some .cell
def Look (env:Env)(h:Heap)(m:Str->Option Value)(x:Str)(u:Value):Prop:=
 (env.kindOf x=some .local∧m x=some u)∨((env.kindOf x=some .cell∨env.kindOf x=some .free)∧∃ c,env.cells.lookup x=some c∧h.IsCell c (some u))
structure Cx.Ok (X:Cx):Prop where
 mod:Mod X.K X.mg X.base
 kind:X.env.scope.kind=.function
 glob:X.env.globals=mainGlobals
 blt:X.env.builtins=builtinsNs
 above:X.s₀.heap.objs.size≤X.env.locals
 inj:∀ x y c,X.env.cells.lookup x=some c->X.env.cells.lookup y=some c->x=y
 has:∀ x,(X.env.kindOf x=some .cell∨X.env.kindOf x=some .free)->∃ c,X.env.cells.lookup x=some c
 cab:∀ x c,X.fn x=true->X.env.cells.lookup x=some c->X.s₀.heap.objs.size≤c
 hd:X.calm=true->X.A.handled=none
 frames:X.A.frames=some X.stack
 stk:X.stack=X.outer∨(X.stack=X.env::X.outer∧X.env.frame=some X.env.locals)
 exf:∀ b∈X.ex,b≠X.env.locals∧∀ x c,X.env.cells.lookup x=some c->c≠b
 bs:∀ b o,X.base.get? b=some o->X.s₀.heap.get? b=some o∧X.H₀ b=none
 bsz:X.base.objs.size≤X.s₀.heap.objs.size
 noex:∀ b o,X.base.get? b=some o->b∉X.ex
 exfs:∀ b∈X.ex,b∉X.fs
 funs:X.s₀.heap.FunFrames X.base X.outer
 frf:∀ b∈X.fs,X.H₀ b=none
structure Inv (X:Cx) (pins:List (Addr×Obj)) (σ:List (Option V)) (H:Hp) (s:Shared):Prop where
 ok:X.Ok
 os:s.os=X.s₀.os
 bare:AllBare s.gens
 base:Un X.fs X.ex X.H₀ H X.s₀.heap s.heap
 loc:∃ m,s.heap.Ns X.env.locals m∧∀ (i:Nat) (x:Str) (v:V),X.N[i]? = some x->σ[i]? = some (some v)->Vis X.env.scope x->∃ u,RelV v u∧Look X.env s.heap m x u
 cell:∀ x c,X.env.cells.lookup x=some c->∃ v,s.heap.IsCell c v
 free:H X.env.locals=none
 freeC:∀ x c,X.env.cells.lookup x=some c->H c=none
 pin:∀ p∈X.pn++pins,s.heap.get? p.1=some p.2∧H p.1=none∧p.1≠X.env.locals∧p.1∉X.fs∧∀ v,p.2.data≠.cell v
 hok:HOk X.prog X.w H s.heap
 len:σ.length=X.N.length
section
variable {X:Cx} {pins:List (Addr×Obj)} {σ:List (Option V)} {H H':Hp} {s:Shared} {h':Heap}
theorem Cx.Ok.nofr (ok:X.Ok){b:Addr}{o:Obj}(e:X.base.get? b=some o):b∉X.fs:=λhb=>by
 have:=(ok.funs.mem hb).1
 rw [e] at this;cases this
theorem Inv.bs (I:Inv X pins σ H s):∀ b o,X.base.get? b=some o->s.heap.get? b=some o∧H b=none:=λb o e =>
 ⟨I.base.keep b o (I.ok.bs b o e).1 (I.ok.bs b o e).2 (I.ok.nofr e) (I.ok.noex b o e),I.base.free b o (I.ok.bs b o e).1 (I.ok.bs b o e).2 (I.ok.noex b o e)⟩
theorem Inv.bk (I:Inv X pins σ H s):∀ b o,X.base.get? b=some o->s.heap.get? b=some o:=λb o e=>(I.bs b o e).1
theorem Inv.mod (I:Inv X pins σ H s):Mod X.K X.mg X.base:=I.ok.mod
theorem Inv.kIn (I:Inv X pins σ H s):X.K.In s.heap:=I.ok.mod.kin.keeps I.bk
theorem Inv.fr (I:Inv X pins σ H s):∃ m,Fr X.base X.env.locals s.heap m:=
 let ⟨m,hn,_⟩:=I.loc
 ⟨m,hn,I.bk,AN I.ok.bsz I.ok.above⟩
theorem Inv.lt (I:Inv X pins σ H s):X.env.locals<s.heap.objs.size:=let ⟨_,hn,_⟩:=I.loc;hn.lt
theorem Inv.sz (I:Inv X pins σ H s):X.s₀.heap.objs.size≤s.heap.objs.size:=AN I.ok.above (Nat.le_of_lt I.lt)
theorem Inv.nofs (I:Inv X pins σ H s){a:Addr}(h:s.heap.objs.size≤a):a∉X.fs:=λhb=>by
 obtain ⟨_,o,ho,_⟩:=I.ok.funs.mem hb
 exact absurd (Az (An ho) (AN I.sz h)) (A8 _)
theorem Inv.cne (I:Inv X pins σ H s):∀ x c,X.env.cells.lookup x=some c->c≠X.env.locals:=λx c e z=>by
 obtain ⟨v,o,ho,hd⟩:=I.cell x c e
 obtain ⟨m,⟨o',es,ep,ho',hd',_⟩,_⟩:=I.loc
 rw [z,ho'] at ho;cases ho;rw [hd'] at hd;cases hd
theorem Inv.funs (I:Inv X pins σ H s):s.heap.FunFrames X.base X.outer:=by
 have all:∀ (l:List Env),(∀ b∈frs l,b∈X.fs)->X.s₀.heap.FunFrames X.base l->s.heap.FunFrames X.base l:=by
  intro l
  induction l with
  | nil=>intro _ _;trivial
  | cons env r ih =>
   intro hs hl
   obtain ⟨hk,⟨L,o,hf,hn,ho,hd⟩,hr⟩:=hl
   have hL:L∈X.fs:=hs L (by unfold frs;rw [List.filterMap_cons,hf];exact List.mem_cons_self)
   obtain ⟨sl,e⟩:=I.base.slot L o ho (I.ok.frf L hL) hL λz=>I.ok.exfs L z hL
   exact ⟨hk,⟨L,_,hf,hn,e,hd⟩,ih (λb hb=>hs b (by unfold frs;rw [List.filterMap_cons,hf];exact Bz _ hb)) hr⟩
 exact all X.outer (λ_ hb=>hb) I.ok.funs
theorem Inv.stack (I:Inv X pins σ H s):s.heap.FunFrames X.base X.stack:=by
 rcases I.ok.stk with e|⟨e,hf⟩
 ·rw [e];exact I.funs
 ·rw [e]
  obtain ⟨m,hn,_⟩:=I.loc
  refine .cons (by rw [I.ok.kind];decide) hf hn ?_ I.funs
  exact Heap.get?_none_of_le (AN I.ok.bsz I.ok.above)
theorem Inv.stkSub (I:Inv X pins σ H s):∀ b∈frs X.stack,b∈X.env.locals::X.fs:=λb hb=>by
 rcases I.ok.stk with e|⟨e,hf⟩
 ·rw [e] at hb;exact Bz _ hb
 ·rw [e] at hb
  unfold frs at hb
  rw [List.filterMap_cons,hf] at hb
  exact hb
theorem Inv.stkFree (I:Inv X pins σ H s):∀ b∈frs X.stack,H b=none:=λb hb=>by
 rcases Ah.mp (I.stkSub b hb) with e|hb
 ·rw [e];exact I.free
 ·obtain ⟨_,o,ho,_⟩:=I.ok.funs.mem hb
  exact I.base.free b o ho (I.ok.frf b hb) λz=>I.ok.exfs b z hb
theorem Inv.step {g':Array GenState}{t':Nat}{d':Drawn}{ch:List Addr}(I:Inv X pins σ H s)
  (hch:∀ b∈ch,(b∈X.ex∨X.s₀.heap.objs.size≤b)∧b≠X.env.locals∧(∀ x c,X.env.cells.lookup x=some c->c≠b)∧∀ p∈X.pn++pins,p.1≠b)
  (keep:∀ b o,b≠X.env.locals->b∉X.fs->b∉ch->s.heap.get? b=some o->H b=none->h'.get? b=some o)
  (slot:∀ b o,b≠X.env.locals->b∈X.fs->b∉ch->s.heap.get? b=some o->H b=none->∃ sl,h'.get? b=some { o with slots:=sl }) (free:∀ b o,b∉ch->s.heap.get? b=some o->H b=none->H' b=none)
  (there:∀ b o,b∉ch->s.heap.get? b=some o->∃ o',h'.get? b=some o')
  (tups:∀ b xs,H b=some (.tup xs)->H' b=some (.tup xs)) (frzs:∀ b o u,H b=some (.frz o u)->H' b=some (.frz o u)) (tbls:∀ b ps,H b=some (.tbl ps)->∃ more,H' b=some (.tbl (ps++more)))
  (ns:∀ m,s.heap.Ns X.env.locals m->h'.Ns X.env.locals m) (hok:HOk X.prog X.w H' h') (hg:AllBare g') :
  Inv X pins σ H' { s with heap:=h',gens:=g',drawn:=d',toks:=t' }:=by
 have neL:∀ b o,X.s₀.heap.get? b=some o->b≠X.env.locals:=λb o e=>AA (Az (An e) I.ok.above)
 have neC:∀ b o,X.s₀.heap.get? b=some o->b∉X.ex->b∉ch:=λb o e hx hb=>by
  rcases (hch b hb).1 with z|z
  ·exact hx z
  ·exact absurd (Az (An e) z) (A8 _)
 have cellK:∀ x c,X.env.cells.lookup x=some c->∀ v,s.heap.IsCell c v->h'.IsCell c v:=λx c e v ⟨o,ho,hd⟩=>by
  have nch:c∉ch:=λz=>(hch c z).2.2.1 x c e rfl
  by_cases hc:c∈X.fs
  ·obtain ⟨sl,q⟩:=slot c o (I.cne x c e) hc nch ho (I.freeC x c e)
   exact ⟨_,q,hd⟩
  ·exact ⟨o,keep c o (I.cne x c e) hc nch ho (I.freeC x c e),hd⟩
 refine ⟨I.ok,I.os,hg,⟨λb o e n hb hx=>?_,λb o e n hb hx=>?_,λb o e n hx=>?_,λb o e hx=>?_,λb xs e=>tups b xs (I.base.tups b xs e),λb o xs e=>frzs b o xs (I.base.frzs b o xs e),λb ps e=>?_⟩,?_,λx c e=>?_,?_,λx c e=>?_,λp hp=>?_,hok,I.len⟩
 ·exact keep b o (neL b o e) hb (neC b o e hx) (I.base.keep b o e n hb hx) (I.base.free b o e n hx)
 ·obtain ⟨sl,e1⟩:=I.base.slot b o e n hb hx
  obtain ⟨sl',e2⟩:=slot b _ (neL b o e) hb (neC b o e hx) e1 (I.base.free b o e n hx)
  exact ⟨sl',e2⟩
 ·obtain ⟨o',e1⟩:=I.base.there b o e hx
  exact free b o' (neC b o e hx) e1 (I.base.free b o e n hx)
 ·obtain ⟨o',e1⟩:=I.base.there b o e hx
  exact there b o' (neC b o e hx) e1
 ·obtain ⟨m1,e1⟩:=I.base.tbls b ps e
  obtain ⟨m2,e2⟩:=tbls b _ e1
  exact ⟨m1++m2,by rw [e2,Array.append_assoc]⟩
 ·obtain ⟨m,hn,hl⟩:=I.loc
  refine ⟨m,ns m hn,λi x v e1 e2 e3=>?_⟩
  obtain ⟨u,r,l⟩:=hl i x v e1 e2 e3
  refine ⟨u,r,?_⟩
  rcases l with l|⟨k,c,e,z⟩
  ·exact .inl l
  ·exact .inr ⟨k,c,e,cellK x c e _ z⟩
 ·obtain ⟨v,z⟩:=I.cell x c e
  exact ⟨v,cellK x c e v z⟩
 ·obtain ⟨m,⟨o,_,_,ho,_⟩,_⟩:=I.loc
  exact free _ o (λz=>(hch _ z).2.1 rfl) ho I.free
 ·obtain ⟨v,o,ho,hd⟩:=I.cell x c e
  exact free c o (λz=>(hch c z).2.2.1 x c e rfl) ho (I.freeC x c e)
 ·obtain ⟨e,n,ne,nf,d⟩:=I.pin p hp
  have nch:p.1∉ch:=λz=>(hch p.1 z).2.2.2 p hp rfl
  exact ⟨keep p.1 p.2 ne nf nch e n,free p.1 p.2 nch e n,ne,nf,d⟩
theorem Inv.un {t':Nat}(I:Inv X pins σ H s)(u:Un X.fs [] H H' s.heap h')(hok:HOk X.prog X.w H' h'):Inv X pins σ H' { s with heap:=h',toks:=t' }:=by
 obtain ⟨m,⟨o,es,ep,ho,r⟩,_⟩:=id I.loc
 obtain ⟨sl,hL⟩:=u.any ho I.free (by simp)
 exact I.step (g':=s.gens) (d':=s.drawn) (ch:=[]) (λ_ z=>nomatch z) (λb o _ hb _ e n=>u.keep b o e n hb (by simp)) (λb o _ hb _ e n=>u.slot b o e n hb (by simp)) (λb o _ e n=>u.free b o e n (by simp)) (λb o _ e=>u.there b o e (by simp)) u.tups u.frzs u.tbls (λm' hm=>by
  obtain ⟨o',es',ep',ho',r'⟩:=hm
  rw [ho] at ho';cases ho'
  exact ⟨_,es',ep',hL,r'⟩) hok I.bare
theorem Inv.call {g':Array GenState}{t':Nat}{d':Drawn}{ch:List Addr}(I:Inv X pins σ H s)(u:Un (frs X.stack) ch H H' s.heap h')(hok:HOk X.prog X.w H' h')(hg:AllBare g')
  (hch:∀ b∈ch,(b∈X.ex∨X.s₀.heap.objs.size≤b)∧b≠X.env.locals∧(∀ x c,X.env.cells.lookup x=some c->c≠b)∧∀ p∈X.pn++pins,p.1≠b) :
  Inv X pins σ H' { s with heap:=h',gens:=g',drawn:=d',toks:=t' }:=by
 obtain ⟨m,⟨o,es,ep,ho,r⟩,_⟩:=id I.loc
 obtain ⟨sl,hL⟩:=u.any ho I.free λz=>(hch _ z).2.1 rfl
 exact I.step (ch:=ch) hch (λb o hL hb hc e n=>u.keep b o e n (λz=>(Ah.mp (I.stkSub b z)).elim hL hb) hc) (λb o _ _ hc e n=>u.any e n hc) (λb o hc e n=>u.free b o e n hc) (λb o hc e=>u.there b o e hc) u.tups u.frzs u.tbls (λm' hm=>by
  obtain ⟨o',es',ep',ho',r'⟩:=hm
  rw [ho] at ho';cases ho'
  exact ⟨_,es',ep',hL,r'⟩) hok hg
theorem Inv.turned {t':Nat}{it:Addr}(I:Inv X pins σ H s)(k:∀ b o,b≠it->s.heap.get? b=some o->h'.get? b=some o)(hn:H it=none)(hL:it≠X.env.locals)
  (h1:it∈X.ex∨X.s₀.heap.objs.size≤it) (h2:∀ x c,X.env.cells.lookup x=some c->c≠it) (h3:∀ p∈X.pn++pins,p.1≠it):Inv X pins σ H { s with heap:=h',toks:=t' }:=by
 have nit:∀ b u,H b=some u->b≠it:=λb u e z=>by rw [z,hn] at e;cases e
 refine I.step (g':=s.gens) (d':=s.drawn) (ch:=[it]) (λb hb=>?_) (λb o _ _ hc e _=>k b o (λz=>hc (by simp [z])) e) (λb o _ _ hc e _=>⟨o.slots,k b o (λz=>hc (by simp [z])) e⟩) (λ_ _ _ _ n=>n)
  (λb o hc e=>⟨o,k b o (λz=>hc (by simp [z])) e⟩) (λ_ _ e=>e) (λ_ _ _ e=>e) (λb ps e=>⟨#[],by rw [e];simp⟩) (λm hm=>?_) (λb u e=>?_) I.bare
 ·have e:b=it:=by simpa using hb
  subst e
  exact ⟨h1,hL,h2,h3⟩
 ·obtain ⟨o,es,ep,ho,r⟩:=hm
  exact ⟨o,es,ep,k _ o (Ne.symm hL) ho,r⟩
 ·refine (I.hok b u e).stay (λc v hc q=>k c v ?_ q) (λ_ q=>q) λ_ _ q=>q
  rcases hc with z|z
  ·rw [z];exact nit b u e
  ·exact nit c _ z
theorem Inv.tok (I:Inv X pins σ H s)(t:Nat):Inv X pins σ H { s with toks:=t }:=I.un (h':=s.heap) (t':=t) Un.refl I.hok
theorem Inv.kept {t':Nat}(I:Inv X pins σ H s)(k:∀ b u,s.heap.get? b=some u->h'.get? b=some u):Inv X pins σ H { s with heap:=h',toks:=t' }:=I.un (Un.kept k) (I.hok.kept k)
theorem Inv.laid {a:Addr}{o:HO}{t':Nat}(I:Inv X pins σ H s)(k:∀ b u,s.heap.get? b=some u->h'.get? b=some u)(hp:s.heap.objs.size≤a)(new:ObjOk X.prog X.w (upd H a o) h' a o) :
  Inv X pins σ (upd H a o) { s with heap:=h',toks:=t' }:=I.un (Un.laid k hp (I.hok.fresh hp)) (I.hok.laid k hp new)
theorem Inv.write {x e:Addr}{o:HO}{t':Nat}(I:Inv X pins σ H s)(mu:Mut (H x))(he:e=x∨H e=some (.own x))(k:∀ b u,b≠e->s.heap.get? b=some u->h'.get? b=some u)(heo:∃ u,h'.get? e=some u)
  (new:ObjOk X.prog X.w (upd H x o) h' x o):Inv X pins σ (upd H x o) { s with heap:=h',toks:=t' }:=I.un (Un.write mu he k heo) (I.hok.write mu he k heo new)
theorem Inv.pins_of {pins':List (Addr×Obj)}(I:Inv X pins σ H s)(h:∀ p∈pins',s.heap.get? p.1=some p.2∧H p.1=none∧p.1≠X.env.locals∧p.1∉X.fs∧∀ v,p.2.data≠.cell v):Inv X pins' σ H s:=
 ⟨I.ok,I.os,I.bare,I.base,I.loc,I.cell,I.free,I.freeC,λp hp=>(AE.mp hp).elim (λz=>I.pin p (A1 _ z)) (h p),I.hok,I.len⟩
theorem MY {N:List Str}(hN:N.Nodup){i j:Nat}{x:Str}(a:N[i]? = some x)(b:N[j]? = some x):i=j:=by
 obtain ⟨h1,e1⟩:=Af.mp a
 obtain ⟨h2,e2⟩:=Af.mp b
 exact (List.getElem_inj hN).mp (e1.trans e2.symm)
theorem PH {M:Model}{A:Around}{E:Value->Shared->Prop}{i:Nat}{x:Str}{v:V}{u:Value}{Q:Unit->Shared->Prop}(I:Inv X pins σ H s)(hN:X.N.Nodup)(hi:X.N[i]? = some x)(hx:Loc X.env.scope x)(r:RelV v u)
  (h:∀ s',Inv X pins (σ.set i (some v)) H s'->(∃ a,Heap.SameBut a s.heap s'.heap∧(a=X.env.locals∨X.env.cells.lookup x=some a))->Q () s') (hf:X.fn x=true∨X.env.scope.names.lookup x=some .local:=by first|exact .inl rfl|exact .inr rfl|assumption):wpAny M A (storeName X.env x u) Q E s:=by
 obtain ⟨m,hn,hl⟩:=id I.loc
 have hcls:(X.env.scope.kind==.class||(X.env.scope.kind==.module&&X.env.locals != X.env.globals))=false:=by rw [I.ok.kind];rfl
 have hiσ:i<σ.length:=by rw [I.len];exact (Af.mp hi).1
 have cne:=I.cne
 have tracked:∀ {a:Addr} {h':Heap},(∃ o,s.heap.get? a=some o∧H a=none)->Heap.SameBut a s.heap h'->HOk X.prog X.w H h':=λ{a h'} ha hs b ob e=>by
  obtain ⟨_,_,hfree⟩:=ha
  refine (I.hok b ob e).stay (λc w' hc q=>(hs.2 c ?_).trans q) (λ_ q=>q) λ_ _ q=>q
  rintro rfl
  rcases hc with rfl|hc
  ·rw [hfree] at e;cases e
  ·rw [hfree] at hc;cases hc
 rcases hx with hk|hk
 ·refine wpAny_storeName_local hk hn (λh' hn' hs=>?_) hcls
  obtain ⟨oL,_,_,hoL,_⟩:=id hn
  refine h _ ⟨I.ok,I.os,I.bare,⟨λb o e n hb hx=>?_,λb o e n hb hx=>?_,I.base.free,λb o e hx=>?_,I.base.tups,I.base.frzs,I.base.tbls⟩,⟨_,hn',λj y v' e1 e2 e3=>?_⟩,λy c e=>?_,I.free,I.freeC,λp hp=>?_,tracked ⟨oL,hoL,I.free⟩ hs,by simpa using I.len⟩ ⟨_,hs,.inl rfl⟩
  ·exact (hs.2 b (AA (Az (An e) I.ok.above))).trans (I.base.keep b o e n hb hx)
  ·obtain ⟨sl,e1⟩:=I.base.slot b o e n hb hx
   exact ⟨sl,(hs.2 b (AA (Az (An e) I.ok.above))).trans e1⟩
  ·obtain ⟨o',e1⟩:=I.base.there b o e hx
   exact ⟨o',(hs.2 b (AA (Az (An e) I.ok.above))).trans e1⟩
  ·by_cases hj:j=i
   ·subst hj
    rw [hi] at e1;cases e1
    rw [BQ hiσ] at e2
    cases e2
    exact ⟨u,r,.inl ⟨hk,by simp⟩⟩
   ·rw [AJ (Ne.symm hj)] at e2
    obtain ⟨u',r',q⟩:=hl j y v' e1 e2 e3
    refine ⟨u',r',?_⟩
    rcases q with ⟨k,e⟩|⟨k,c,e,z⟩
    ·refine .inl ⟨k,?_⟩
     have:y≠x:=λe=>hj (MY hN e1 (e▸hi))
     simp [this,e]
    ·exact .inr ⟨k,c,e,z.sameBut hs (cne y c e)⟩
  ·obtain ⟨w',z⟩:=I.cell y c e
   exact ⟨w',z.sameBut hs (cne y c e)⟩
  ·obtain ⟨e,n,ne,nf,d⟩:=I.pin p hp
   exact ⟨(hs.2 p.1 ne).trans e,n,ne,nf,d⟩
 ·have hfn:X.fn x=true:=by
   rcases hf with z|z
   ·exact z
   ·rw [z] at hk;cases hk
  obtain ⟨c,hc⟩:=I.ok.has x (.inl hk)
  obtain ⟨w',z⟩:=I.cell x c hc
  refine wpAny_storeName_cell I.ok.kind hk hc z (λh' hc' hs=>?_)
  obtain ⟨oc,hoc,hocd⟩:=id z
  refine h { s with heap:=h' } ⟨I.ok,I.os,I.bare,⟨λb o e n hb hx=>?_,λb o e n hb hx=>?_,I.base.free,λb o e hx=>?_,I.base.tups,I.base.frzs,I.base.tbls⟩,⟨m,hn.sameBut hs (Ne.symm (cne x c hc)),λj y v' e1 e2 e3=>?_⟩,λy c' e=>?_,I.free,I.freeC,λp hp=>?_,tracked ⟨oc,hoc,I.freeC x c hc⟩ hs,by simpa using I.len⟩ ⟨c,hs,.inr hc⟩
  ·exact (hs.2 b (AA (Az (An e) (I.ok.cab x c hfn hc)))).trans (I.base.keep b o e n hb hx)
  ·obtain ⟨sl,e1⟩:=I.base.slot b o e n hb hx
   exact ⟨sl,(hs.2 b (AA (Az (An e) (I.ok.cab x c hfn hc)))).trans e1⟩
  ·obtain ⟨o',e1⟩:=I.base.there b o e hx
   exact ⟨o',(hs.2 b (AA (Az (An e) (I.ok.cab x c hfn hc)))).trans e1⟩
  ·by_cases hj:j=i
   ·subst hj
    rw [hi] at e1;cases e1
    rw [BQ hiσ] at e2
    cases e2
    exact ⟨u,r,.inr ⟨.inl hk,c,hc,hc'⟩⟩
   ·rw [AJ (Ne.symm hj)] at e2
    obtain ⟨u',r',q⟩:=hl j y v' e1 e2 e3
    refine ⟨u',r',?_⟩
    rcases q with q|⟨k,c',e,z'⟩
    ·exact .inl q
    ·refine .inr ⟨k,c',e,z'.sameBut hs ?_⟩
     rintro rfl
     exact hj (MY hN e1 (I.ok.inj _ _ _ e hc▸hi))
  ·by_cases hcc:c'=c
   ·subst hcc;exact ⟨_,hc'⟩
   ·obtain ⟨w2,z2⟩:=I.cell y c' e
    exact ⟨w2,z2.sameBut hs hcc⟩
  ·obtain ⟨e,n,ne,nf,d⟩:=I.pin p hp
   refine ⟨(hs.2 p.1 ?_).trans e,n,ne,nf,d⟩
   intro q
   rw [q,hoc] at e
   have q':oc=p.2:=AI e
   exact d w' (by rw [← q'];exact hocd)
theorem JW {M:Model}{A:Around}{E:Value->Shared->Prop}{i:Nat}{x:Str}{v:V}{u:Value}{Q:Unit->Shared->Prop}(I:Inv X pins σ H s)(hN:X.N.Nodup)(hi:X.N[i]? = some x)(hx:Loc X.env.scope x)(r:RelV v u)
  (h:∀ s',Inv X pins (σ.set i (some v)) H s'->Q () s') (hf:X.fn x=true∨X.env.scope.names.lookup x=some .local:=by first|exact .inl rfl|exact .inr rfl|assumption):wpAny M A (storeName X.env x u) Q E s:=
 PH I hN hi hx r (λs' I' _=>h s' I') hf
theorem Inv.call' {s':Shared}{ch:List Addr}(I:Inv X pins σ H s)(ho:s'.os=s.os)(u:Un (frs X.stack) ch H H' s.heap s'.heap)(hok:HOk X.prog X.w H' s'.heap)(hg:AllBare s'.gens)
  (hch:∀ b∈ch,(b∈X.ex∨X.s₀.heap.objs.size≤b)∧b≠X.env.locals∧(∀ x c,X.env.cells.lookup x=some c->c≠b)∧∀ p∈X.pn++pins,p.1≠b):Inv X pins σ H' s':=by
 obtain ⟨h',g',d',t',o'⟩:=s'
 have e:o'=s.os:=ho
 subst e
 exact I.call (g':=g') (t':=t') (d':=d') u hok hg hch
end
abbrev XK:=Value->Option Addr->Hp->Prop
abbrev St:=List (Option V)
abbrev VK:=V->Hp->Prop
abbrev TE:=St->Hp->VK->Prop
abbrev TT:=St->Hp->(Bool->Hp->Prop)->Prop
abbrev TA:=St->Hp->(List V->Hp->Prop)->Prop
structure Ends where
 nx:St->Hp->Prop
 rt:VK
 bk:St->Hp->Prop:=λ_ _=>False
 ct:St->Hp->Prop:=λ_ _=>False
abbrev TS:=Ends->St->Hp->Prop
def EP (X:Cx)(pins:List (Addr×Obj))(σ:St)(Q:VK)(u:Value)(s':Shared):Prop:=∃ v H',Inv X pins σ H' s'∧RelV v u∧Q v H'
def TP (X:Cx)(pins:List (Addr×Obj))(σ:St)(Q:Bool->Hp->Prop)(b:Bool)(s':Shared):Prop:=∃ H',Inv X pins σ H' s'∧Q b H'
def AP (X:Cx)(pins:List (Addr×Obj))(σ:St)(Q:List V->Hp->Prop)(us:List Value)(s':Shared):Prop:=∃ vs H',Inv X pins σ H' s'∧Vals vs us∧Q vs H'
def SP (X:Cx)(pins:List (Addr×Obj))(D:Ends)(f:Flow)(s':Shared):Prop:=
 match f with
 | .next=>∃ σ' H',Inv X pins σ' H' s'∧D.nx σ' H'
 | .brk=>∃ σ' H',Inv X pins σ' H' s'∧D.bk σ' H'
 | .cont=>∃ σ' H',Inv X pins σ' H' s'∧D.ct σ' H'
 | .ret u=>∃ v σ' H',Inv X pins σ' H' s'∧RelV v u∧D.rt v H'
def PE (X:Cx)(e:Expr)(t:TE):Prop:=
 ∀ (pins:List (Addr×Obj)) (s:Shared) (σ:St) (H:Hp) (Q:VK),Inv X pins σ H s->t σ H Q->wpAny (model X.prog X.w) X.A (eval e X.env) (EP X pins σ Q) X.xe s
def PT (X:Cx)(e:Expr)(t:TT):Prop:=
 ∀ (pins:List (Addr×Obj)) (s:Shared) (σ:St) (H:Hp) (Q:Bool->Hp->Prop),Inv X pins σ H s->t σ H Q->wpAny (model X.prog X.w) X.A (isTrue e X.env (eval e X.env)) (TP X pins σ Q) X.xe s
def PW (X:Cx)(e:Expr)(t:TT):Prop:=
 ∀ (whole:Sem Value) (pins:List (Addr×Obj)) (s:Shared) (σ:St) (H:Hp) (Q:Bool->Hp->Prop),Inv X pins σ H s->t σ H Q->wpAny (model X.prog X.w) X.A (isTrue e X.env whole) (TP X pins σ Q) X.xe s
theorem PW.pt {X:Cx}{e:Expr}{t:TT}(h:PW X e t):PT X e t:=h _
def PA (X:Cx)(es:List Expr)(t:TA):Prop:=
 ∀ (pos:Pos) (pins:List (Addr×Obj)) (s:Shared) (σ:St) (H:Hp) (Q:List V->Hp->Prop),Inv X pins σ H s->t σ H Q->wpAny (model X.prog X.w) X.A (spliced (backTo pos (starEach es X.env))) (AP X pins σ Q) X.xe s
def PS (X:Cx)(st:Stmt)(t:TS):Prop:=
 ∀ (pins:List (Addr×Obj)) (s:Shared) (σ:St) (H:Hp) (D:Ends),Inv X pins σ H s->t D σ H->wpAny (model X.prog X.w) X.A (exec st X.env) (SP X pins D) X.xe s
def PSs (X:Cx)(st:List Stmt)(t:TS):Prop:=
 ∀ (pins:List (Addr×Obj)) (s:Shared) (σ:St) (H:Hp) (D:Ends),Inv X pins σ H s->t D σ H->wpAny (model X.prog X.w) X.A (execs st X.env) (SP X pins D) X.xe s
theorem thn {α:Type}{t:Sem α}{Q Q':α->Shared->Prop}{M:Model}{A:Around}{E:Value->Shared->Prop}{s:Shared}(h:wpAny M A t Q E s)(hQ:∀ a s,Q a s->Q' a s):wpAny M A t Q' E s:=wpAny_mono h hQ λ_ _ x=>x
section
variable {X:Cx}
def XU (i:Nat):TE:=fun σ H Q=>∃ v,σ[i]? = some (some v)∧Q v H
def tC (v:V):TE:=λ_ H Q=>Q v H
theorem S2 {i:Nat}{x:Str}{pos:Pos}(hN:X.N[i]? = some x)(hv:Vis X.env.scope x)(hd:(x==("__debug__":Str))=false:=by decide)(hcd:(x==("__classdict__":Str))=false:=by decide):PE X (.Name x pos) (XU i):=by
 intro pins s σ H Q I h
 obtain ⟨v,e,h⟩:=h
 obtain ⟨m,hn,hl⟩:=I.loc
 obtain ⟨u,r,l⟩:=hl i x v hN e hv
 have fin:EP X pins σ Q u s:=⟨v,H,I,r,h⟩
 rcases l with ⟨hk,hm⟩|⟨hk,c,hc,hcell⟩
 ·exact wpAny_Name (wpAny_loadName_local I.ok.kind hk hn hm fin) hd
 ·rcases hk with hk|hk
  ·exact wpAny_Name (wpAny_loadName_cell I.ok.kind hk hc hcell fin) hd
  ·exact wpAny_Name (wpAny_loadName_free I.ok.kind hk hc hcell fin hcd) hd
theorem WJ {i j pos}:PE X (.Constant (.int i) j pos) (tC (.int i)):=λ_ _ _ H _ I h=>wpAny_Constant_int ⟨.int i,H,I.tok _,⟨_,rfl⟩,h⟩
theorem YQ {b j pos}:PE X (.Constant (.bool b) j pos) (tC (.bl b)):=λ_ _ _ H _ I h=>Constant_bool ⟨.bl b,H,I,rfl,h⟩
theorem Wc {j pos}:PE X (.Constant .none j pos) (tC .non):=λ_ _ _ H _ I h=>Constant_none ⟨.non,H,I,rfl,h⟩
theorem V1 {x j pos}:PE X (.Constant (.str x) j pos) (tC (.str x)):=λ_ _ _ H _ I h=>Calls.Constant_str ⟨.str x,H,I.tok _,⟨_,rfl⟩,h⟩
def Gl (X:Cx)(x:Str):Prop:=X.env.kindOf x=some .globalImplicit
theorem OY {E:Value->Shared->Prop}{pins:List (Addr×Obj)}{s:Shared}{σ:St}{H:Hp}{x:Str}{u:Value}{pos:Pos}{Q:Value->Shared->Prop}(I:Inv X pins σ H s)(hg:Gl X x)(hm:X.mg x=some u)(h:Q u s)
  (hd:(x==("__debug__":Str))=false:=by decide):wpAny (model X.prog X.w) X.A (eval (.Name x pos) X.env) Q E s:=
 Calls.Name_function_global I.ok.kind hg (Calls.loadGlobal_global (by rw [I.ok.glob];exact I.mod.glob.keeps I.bk) hm h) hd
theorem HI {E:Value->Shared->Prop}{pins:List (Addr×Obj)}{s:Shared}{σ:St}{H:Hp}{x:Str}{u:Value}{pos:Pos}{Q:Value->Shared->Prop}(I:Inv X pins σ H s)(hg:Gl X x)(hm:X.mg x=none)(hv:bootBuiltins x=some u)(h:Q u s)
  (hn:x≠"__name__":=by decide) (hd:(x==("__debug__":Str))=false:=by decide):wpAny (model X.prog X.w) X.A (eval (.Name x pos) X.env) Q E s:=by
 obtain ⟨mb,h1,h2⟩:=I.mod.blt
 exact Calls.Name_function_global I.ok.kind hg (Calls.loadGlobal_builtin (by rw [I.ok.glob];exact I.mod.glob.keeps I.bk) hm (by rw [I.ok.blt];exact h1.keeps I.bk) ((h2 x hn).trans hv) h) hd
theorem HY {x:Str}{v:V}{u:Value}{pos:Pos}(hg:Gl X x)(hm:X.mg x=some u)(r:RelV v u)(hd:(x==("__debug__":Str))=false:=by decide):PE X (.Name x pos) (tC v):=
 λ_ _ _ H _ I h=>OY I hg hm ⟨v,H,I,r,h⟩ hd
theorem TL {x:Str}{v:V}{u:Value}{pos:Pos}(hg:Gl X x)(hm:X.mg x=none)(hv:bootBuiltins x=some u)(r:RelV v u)(hn:x≠"__name__":=by decide)(hd:(x==("__debug__":Str))=false:=by decide):PE X (.Name x pos) (tC v):=
 λ_ _ _ H _ I h=>HI I hg hm hv ⟨v,H,I,r,h⟩ hn hd
variable {a b:Expr} {ta tb:TE} {pos:Pos}
def tB (t:TE):TT:=fun σ H Q=>t σ H λx H1=>∃ c,x=.bl c∧Q c H1
theorem WA {e:Expr}{t:TE}(h:PE X e t)(he:∀ whole,isTrue e X.env whole=(do let v←whole;standAt e.pos;holding [v] (truthy v)):=by intro _;rfl):PT X e (tB t):=by
 intro pins s σ H Q I hw
 refine isTrue_plain (thn (h pins s σ H _ I hw) λv s1 ⟨x,H1,I1,r1,q1⟩=>?_) (he _)
 obtain ⟨d,rfl,q⟩:=q1
 cases r1
 exact Bh ⟨H1,I1,q⟩
variable {tA tB':TT} {rest:List Expr}
def ZO (t u:TT):TT:=fun σ H Q=>t σ H λc H1=>if c=true then u σ H1 Q else Q false H1
def tOr (t u:TT):TT:=fun σ H Q=>t σ H λc H1=>if c=true then Q true H1 else u σ H1 Q
def ZC (t:TT):TT:=fun σ H Q=>t σ H λc H1=>Q (!c) H1
theorem Tw (ha:PT X a tA):PW X (.BoolOp .And [a] pos) tA:=by
 intro wh pins s σ H Q I h
 refine isTrue_and (thn (ha pins s σ H Q I h) λc s1 e=>?_)
 cases c with
 | true=>exact isTrue_and_nil e
 | false=>exact e
theorem Xx (ha:PT X a tA):PW X (.BoolOp .Or [a] pos) tA:=by
 intro wh pins s σ H Q I h
 refine isTrue_or (thn (ha pins s σ H Q I h) λc s1 e=>?_)
 cases c with
 | false=>exact isTrue_or_nil e
 | true=>exact e
theorem Wv (ha:PT X a tA)(hb:PW X (.BoolOp .And (b::rest) pos) tB'):PW X (.BoolOp .And (a::b::rest) pos) (ZO tA tB'):=by
 intro wh pins s σ H Q I h
 refine isTrue_and (thn (ha pins s σ H _ I h) λc s1 ⟨H1,I1,q1⟩=>?_)
 cases c with
 | true=>exact hb wh pins s1 σ H1 Q I1 q1
 | false=>exact ⟨H1,I1,q1⟩
theorem XM (ha:PT X a tA)(hb:PW X (.BoolOp .Or (b::rest) pos) tB'):PW X (.BoolOp .Or (a::b::rest) pos) (tOr tA tB'):=by
 intro wh pins s σ H Q I h
 refine isTrue_or (thn (ha pins s σ H _ I h) λc s1 ⟨H1,I1,q1⟩=>?_)
 cases c with
 | true=>exact ⟨H1,I1,q1⟩
 | false=>exact hb wh pins s1 σ H1 Q I1 q1
theorem Wj (ha:PT X a tA):PT X (.UnaryOp .Not a pos) (ZC tA):=by
 intro pins s σ H Q I h
 exact isTrue_not (ha pins s σ H (λc H1=>Q (!c) H1) I h)
def Yr (ta tb:TE):TE:=fun σ H Q=>ta σ H λx H1=>∃ c,x=.bl c∧if c=true then tb σ H1 Q else Q (.bl false) H1
def Y7 (ta:TE):TE:=fun σ H Q=>ta σ H λx H1=>∃ c,x=.bl c∧Q (.bl (!c)) H1
theorem Wi {op}{t:TE}(h:PE X a t):PE X (.BoolOp op [a] pos) t:=λpins s σ H Q I hw=>BoolOp_one (h pins s σ H Q I hw)
theorem WD (ha:PE X a ta)(hb:PE X (.BoolOp .And (b::rest) pos) tb):PE X (.BoolOp .And (a::b::rest) pos) (Yr ta tb):=by
 intro pins s σ H Q I h
 refine BoolOp_and (thn (ha pins s σ H _ I h) λv s1 ⟨x,H1,I1,r1,q1⟩=>?_)
 obtain ⟨c,rfl,q1⟩:=q1
 cases r1
 refine Bh ?_
 cases c with
 | true=>exact hb pins s1 σ H1 Q I1 q1
 | false=>exact ⟨.bl false,H1,I1,rfl,q1⟩
theorem VQ (ha:PE X a ta):PE X (.UnaryOp .Not a pos) (Y7 ta):=by
 intro pins s σ H Q I h
 refine UnaryOp_ (thn (ha pins s σ H _ I h) λv s1 ⟨x,H1,I1,r1,q1⟩=>?_)
 obtain ⟨c,rfl,q1⟩:=q1
 cases r1
 exact not_of (Bh ⟨.bl (!c),H1,I1,rfl,q1⟩)
def tIf (t:TT)(ta tb:TE):TE:=fun σ H Q=>t σ H λc H1=>if c=true then ta σ H1 Q else tb σ H1 Q
theorem Q0 {c:Expr}(hc:PT X c tA)(ha:PE X a ta)(hb:PE X b tb):PE X (.IfExp c a b pos) (tIf tA ta tb):=by
 intro pins s σ H Q I h
 refine wpAny_IfExp (thn (hc pins s σ H _ I h) λd s1 ⟨H1,I1,q1⟩=>?_)
 cases d with
 | true=>exact ha pins s1 σ H1 Q I1 q1
 | false=>exact hb pins s1 σ H1 Q I1 q1
end
def SqL (K:PySem.W.Frag)(H:Hp)(a:Addr)(xs:List V):Prop:=
 Rd H a (.lst xs) ∨
  ∃ (o:Obj) (its:Array Value) (n:Nat),K.lookup a=some o∧o.cls=.type "list"∧o.dict=none∧o.data=.seq its n∧its.size≤sizeLine∧Vals xs its.toList
def SqT (K:PySem.W.Frag)(H:Hp)(a:Addr)(xs:List V):Prop:=
 Rd H a (.tup xs) ∨
  ∃ (o:Obj) (its:Array Value) (n:Nat),K.lookup a=some o∧o.cls=.type "tuple"∧o.dict=none∧o.data=.seq its n∧its.size≤sizeLine∧Vals xs its.toList
noncomputable def Z5:Value->Option V
 | .none=>some .non
 | .bool b=>some (.bl b)
 | .int i _=>some (.int i)
 | .str x _=>some (.str x)
 | .bytes b _=>some (.byt b)
 | .float b _=>some (.flt b)
 | .ref a=>some (.ref a)
 | .type n=>some (.ty n)
 | _=>none
theorem RelV.abs {x:V}{u:Value}(r:RelV x u):Z5 u=some x:=by
 cases x with
 | non=>cases r;rfl
 | bl _=>cases r;rfl
 | int _=>obtain ⟨t,rfl⟩:=r;rfl
 | str _=>obtain ⟨t,rfl⟩:=r;rfl
 | byt _=>obtain ⟨t,rfl⟩:=r;rfl
 | flt _=>obtain ⟨t,rfl⟩:=r;rfl
 | ref _=>cases r;rfl
 | ty _=>cases r;rfl
theorem RelV.inj {x y:V}{u:Value}(r:RelV x u)(q:RelV y u):x=y:=AI (r.abs.symm.trans q.abs)
theorem Vals.inj:∀ {xs ys:List V} {us:List Value},Vals xs us->Vals ys us->xs=ys
 | _,_,_,.nil,.nil=>rfl
 | _,_,_,.cons r t,.cons r' t'=>by rw [r.inj r',Vals.inj t t']
section
variable {X:Cx} {pins:List (Addr×Obj)} {σ:St} {H:Hp} {s:Shared} {a:Addr} {xs ys:List V}
theorem SqL.of {K:PySem.W.Frag}(h:H a=some (.lst xs)):SqL K H a xs:=.inl (.inl h)
theorem SqT.of {K:PySem.W.Frag}(h:H a=some (.tup xs)):SqT K H a xs:=.inl (.inl h)
theorem Inv.list (I:Inv X pins σ H s)(h:SqL X.K H a xs):∃ its:List Value,Vals xs its∧PlainL s.heap a its.toArray∧xs.length≤sizeLine:=by
 rcases h with h|⟨o,its,n,hk,hc,hd,hs,hz,r⟩
 ·obtain ⟨z,its,n,r,e⟩:=h.ok I.hok
  exact ⟨its,r,⟨_,n,e,rfl,rfl,rfl⟩,z⟩
 ·refine ⟨its.toList,r,⟨o,n,I.kIn a o hk,hc,hd,by simpa using hs⟩,?_⟩
  have e:=r.length
  simp only [Array.length_toList] at e
  ext
theorem Inv.tupleD (I:Inv X pins σ H s)(h:SqT X.K H a xs):∃ o,s.heap.get? a=some o∧o.dict=none∧o.cls=.type "tuple":=by
 rcases h with h|⟨o,its,n,hk,hc,hd,hs,hz,r⟩
 ·obtain ⟨⟨z,o,g1,g2⟩,its,r,o',g3,g4,_⟩:=h.ok I.hok
  rw [g1] at g3
  cases g3
  exact ⟨o,g1,g2,g4⟩
 ·exact ⟨o,I.kIn a o hk,hd,hc⟩
theorem Inv.tuple (I:Inv X pins σ H s)(h:SqT X.K H a xs):∃ its:List Value,Vals xs its∧IsTup s.heap a its.toArray∧xs.length≤sizeLine:=by
 rcases h with h|⟨o,its,n,hk,hc,_,hs,hz,r⟩
 ·obtain ⟨⟨z,_⟩,its,r,p⟩:=h.ok I.hok
  exact ⟨its,r,p,z⟩
 ·refine ⟨its.toList,r,⟨o,I.kIn a o hk,hc,n,by simpa using hs⟩,?_⟩
  have e:=r.length
  simp only [Array.length_toList] at e
  ext
theorem Inv.list_inj (I:Inv X pins σ H s)(h:SqL X.K H a xs)(h':SqL X.K H a ys):xs=ys:=by
 obtain ⟨its,r,⟨o,n,e,_,_,d⟩,_⟩:=I.list h
 obtain ⟨its',r',⟨o',n',e',_,_,d'⟩,_⟩:=I.list h'
 rw [e] at e';cases e'
 rw [d] at d'
 injection d' with d1 _
 have:its=its':=by simpa using congrArg Array.toList d1
 subst this
 exact r.inj r'
theorem Inv.tuple_inj (I:Inv X pins σ H s)(h:SqT X.K H a xs)(h':SqT X.K H a ys):xs=ys:=by
 obtain ⟨its,r,⟨o,e,_,n,d⟩,_⟩:=I.tuple h
 obtain ⟨its',r',⟨o',e',_,n',d'⟩,_⟩:=I.tuple h'
 rw [e] at e';cases e'
 rw [d] at d'
 injection d' with d1 _
 have:its=its':=by simpa using congrArg Array.toList d1
 subst this
 exact r.inj r'
end
noncomputable abbrev Cx.wish (X:Cx) (E:Value->Shared->Prop):Cx:={ X with xe:=E }
abbrev Cx.nox (X:Cx):Cx:=X.wish λ_ _=>False
theorem Cx.Ok.wish {X:Cx}(ok:X.Ok)(E:Value->Shared->Prop):(X.wish E).Ok:=
 ⟨ok.mod,ok.kind,ok.glob,ok.blt,ok.above,ok.inj,ok.has,ok.cab,ok.hd,ok.frames,ok.stk,ok.exf,ok.bs,ok.bsz,ok.noex,ok.exfs,ok.funs,ok.frf⟩
theorem Cx.Ok.unwish {X:Cx}{E:Value->Shared->Prop}(ok:(X.wish E).Ok):X.Ok:=
 ⟨ok.mod,ok.kind,ok.glob,ok.blt,ok.above,ok.inj,ok.has,ok.cab,ok.hd,ok.frames,ok.stk,ok.exf,ok.bs,ok.bsz,ok.noex,ok.exfs,ok.funs,ok.frf⟩
section
variable {X:Cx} {pins:List (Addr×Obj)} {σ:St} {H:Hp} {s:Shared} {E:Value->Shared->Prop}
theorem Inv.wish (I:Inv X pins σ H s)(E:Value->Shared->Prop):Inv (X.wish E) pins σ H s:=⟨I.ok.wish E,I.os,I.bare,I.base,I.loc,I.cell,I.free,I.freeC,I.pin,I.hok,I.len⟩
theorem Inv.unwish (I:Inv (X.wish E) pins σ H s):Inv X pins σ H s:=⟨I.ok.unwish,I.os,I.bare,I.base,I.loc,I.cell,I.free,I.freeC,I.pin,I.hok,I.len⟩
theorem SP.unwish {D:Ends}{f:Flow}{s':Shared}(h:SP (X.wish E) pins D f s'):SP X pins D f s':=by
 cases f with
 | next=>obtain ⟨σ',H',I,q⟩:=h;exact ⟨σ',H',I.unwish,q⟩
 | brk=>obtain ⟨σ',H',I,q⟩:=h;exact ⟨σ',H',I.unwish,q⟩
 | cont=>obtain ⟨σ',H',I,q⟩:=h;exact ⟨σ',H',I.unwish,q⟩
 | ret u=>obtain ⟨v,σ',H',I,r,q⟩:=h;exact ⟨v,σ',H',I.unwish,r,q⟩
theorem PSs.nox {st:List Stmt}{t:TS}(h:PSs X.nox st t):PSs X st t:=λpins s σ H D I hw =>
 wpAny_mono (h pins s σ H D (I.wish _) hw) (λ_ _ q=>q.unwish) λ_ _ z=>False.elim z
end
section
variable {X:Cx} {st:Stmt} {rest:List Stmt} {t u:TS} {e:Expr} {te:TE} {pos:Pos}
def XJ:TS:=λD σ H=>D.nx σ H
def Zy (t u:TS):TS:=λD σ H=>t { D with nx:=u D } σ H
theorem Va:PSs X [] XJ:=λ_ _ σ H _ I h=>wpAny_execs_nil ⟨σ,H,I,h⟩
theorem Ta (h1:PS X st t)(h2:PSs X rest u):PSs X (st::rest) (Zy t u):=by
 intro pins s σ H D I h
 refine wpAny_execs_cons (thn (h1 pins s σ H { D with nx:=u D } I h) λf s1 q=>?_)
 cases f with
 | next =>
  obtain ⟨σ',H',I',q⟩:=q
  exact h2 pins s1 σ' H' D I' q
 | ret v=>exact q
 | brk=>exact q
 | cont=>exact q
theorem UN (h1:PS X st t):PSs X [st] t:=by
 intro pins s σ H D I h
 refine wpAny_execs_cons (thn (h1 pins s σ H D I h) λf s1 q=>?_)
 cases f with
 | next=>exact wpAny_execs_nil q
 | ret v=>exact q
 | brk=>exact q
 | cont=>exact q
theorem Inv.quiet {pins:List (Addr×Obj)}{σ:St}{H:Hp}{s:Shared}(I:Inv X pins σ H s):interactive X.env=false:=by simp [interactive,I.ok.kind]
def Yo (te:TE):TS:=λD σ H=>te σ H λ_ H1=>D.nx σ H1
theorem T6 (he:PE X e te)(hs:swapsWith e none pos.line X.env=pure false:=by rfl):PS X (.Expr e pos) (Yo te):=by
 intro pins s σ H D I h
 exact wpAny_Expr_any (thn (he pins s σ H _ I h) λv s1 ⟨x,H1,I1,r1,q1⟩=>⟨σ,H1,I1,q1⟩) I.quiet hs
def ZV (te:TE):TS:=λD σ H=>te σ H D.rt
theorem Wq (he:PE X e te):PS X (.Return (some e) pos) (ZV te):=by
 intro pins s σ H D I h
 exact wpAny_Return_some (thn (he pins s σ H _ I h) λv s1 ⟨x,H1,I1,r1,q1⟩=>⟨x,σ,H1,I1,r1,q1⟩)
def ZN (c:TT)(t u:TS):TS:=λD σ H=>c σ H λb H1=>if b=true then t D σ H1 else u D σ H1
theorem Zj {c:Expr}{a b:List Stmt}{tc:TT}(hc:PT X c tc)(ha:PSs X a t)(hb:PSs X b u):PS X (.If c a b pos) (ZN tc t u):=by
 intro pins s σ H D I h
 refine wpAny_If (thn (hc pins s σ H _ I h) λd s1 ⟨H1,I1,q1⟩=>?_)
 cases d with
 | true=>exact ha pins s1 σ H1 D I1 q1
 | false=>exact hb pins s1 σ H1 D I1 q1
end
abbrev TG:=V->St->Hp->(St->Hp->Prop)->Prop
abbrev TGs:=List V->St->Hp->(St->Hp->Prop)->Prop
def PG (X:Cx)(target:Expr)(t:TG):Prop:=
 ∀ (pins:List (Addr×Obj)) (s:Shared) (σ:St) (H:Hp) (v:V) (u:Value) (Q:St->Hp->Prop),Inv X pins σ H s->RelV v u->t v σ H Q ->
  wpAny (model X.prog X.w) X.A (assign target X.env u) (λ_ s'=>∃ σ' H',Inv X pins σ' H' s'∧Q σ' H') X.xe s
def PGs (X:Cx)(ts:List Expr)(t:TGs):Prop:=
 ∀ (pins:List (Addr×Obj)) (s:Shared) (σ:St) (H:Hp) (vs:List V) (us:List Value) (Q:St->Hp->Prop),Inv X pins σ H s->Vals vs us->t vs σ H Q ->
  wpAny (model X.prog X.w) X.A (assignInOrder ((assignEach ts X.env).map (·.2)) us) (λ_ s'=>∃ σ' H',Inv X pins σ' H' s'∧Q σ' H') X.xe s
abbrev Q9:=V->V->V->Hp->(Hp->Prop)->Prop
def T2 (X:Cx)(t:Q9):Prop:=
 ∀ (pins:List (Addr×Obj)) (s:Shared) (σ:St) (H:Hp) (o i v:V) (ov iv u:Value) (Q:Hp->Prop),Inv X pins σ H s->RelV o ov->RelV i iv->RelV v u->t o i v H Q ->
  wpAny (model X.prog X.w) X.A (setItem ov iv u) (λ_ s'=>∃ H',Inv X pins σ H' s'∧Q H') X.xe s
section
variable {X:Cx} {pos:Pos}
def Vy (i:Nat):TG:=λv σ H Q=>Q (σ.set i (some v)) H
theorem UL {i:Nat}{x:Str}(hN:X.N.Nodup)(hi:X.N[i]? = some x)(hx:Loc X.env.scope x)(hf:X.fn x=true∨X.env.scope.names.lookup x=some .local:=by first|exact .inl rfl|exact .inr rfl|assumption):PG X (.Name x pos) (Vy i):=by
 intro pins s σ H v u Q I r h
 exact wpAny_assign_Name (JW I hN hi hx r (λs' I'=>⟨_,H,I',h⟩) hf)
def ZM:TGs:=λvs σ H Q=>vs=[]∧Q σ H
def XT (t:TG)(u:TGs):TGs:=λvs σ H Q=>∃ v r,vs=v::r∧t v σ H fun σ' H'=>u r σ' H' Q
theorem TR:PGs X [] ZM:=by
 intro pins s σ H vs us Q I r h
 obtain ⟨e,h⟩:=h
 subst e
 cases r
 exact assignInOrder_nil ⟨σ,H,I,h⟩
theorem SD {e:Expr}{es:List Expr}{t:TG}{u:TGs}(h1:PG X e t)(h2:PGs X es u)
  (hs:(assignEach (e::es) X.env).map (·.2)=assign e X.env::(assignEach es X.env).map (·.2):=by rfl):PGs X (e::es) (XT t u):=by
 intro pins s σ H vs us Q I r h
 obtain ⟨v,vr,e1,h⟩:=h
 subst e1
 cases r with
 | cons r rr =>
  rw [hs]
  refine assignInOrder_cons (thn (h1 pins s σ H _ _ _ I r h) λ_ s1 ⟨σ1,H1,I1,q1⟩=>?_)
  exact h2 pins s1 σ1 H1 _ _ Q I1 rr q1
def Z7 (K:PySem.W.Frag)(n:Nat)(t:TGs):TG:=λv σ H Q=>∃ a xs,v=.ref a∧SqT K H a xs∧xs.length=n∧t xs σ H Q
theorem WQ {es:List Expr}{k:Nat}{t:TGs}{n:Nat}(hc:X.calm=true)(h:PGs X es t)
  (hn:(assignEach es X.env).length=n:=by rfl) (hst:(assignEach es X.env).findIdx? (·.1)=none:=by rfl):PG X (.Tuple es k pos) (Z7 X.K n t):=by
 intro pins s σ H v u Q I r hw
 obtain ⟨a,xs,e1,hq,hl,hw⟩:=hw
 subst e1
 cases r
 obtain ⟨its,rv,ht,hz⟩:=I.tuple hq
 refine assign_Tuple_tuple (I.ok.hd hc) ht (by simp [hn,← hl,rv.length]) hst λh' hx=>?_
 have I1:Inv X pins σ H { s with heap:=h' }:=I.kept (t':=s.toks) λb o e=>hx b o (AA (An e)) e
 exact h pins _ σ H xs _ Q I1 (by simpa using rv) hw
def Z8 (to ti:TE)(t:Q9):TG:=λv σ H Q=>to σ H λo H1=>ti σ H1 λi H2=>t o i v H2 λH3=>Q σ H3
theorem VG {o i:Expr}{to ti:TE}{t:Q9}(ho:PE X o to)(hi:PE X i ti)(hs:T2 X t)
  (ha:∀ v,assign (.Subscript o i pos) X.env v=(do
   let ov←holding [v] (eval o X.env)
   let iv←holding [v,ov] (eval i X.env)
   standAt pos
   holding [v,ov,iv] (setItem ov iv v)
   release [v,ov,iv] []):=by intro _;rfl):PG X (.Subscript o i pos) (Z8 to ti t):=by
 intro pins s σ H v u Q I r h
 rw [ha]
 refine Aa (AH (thn (ho pins s σ H _ I h) λov s1 ⟨x,H1,I1,r1,q1⟩=>?_))
 refine Aa (AH (thn (hi pins s1 σ H1 _ I1 q1) λiv s2 ⟨y,H2,I2,r2,q2⟩=>?_))
 refine Aa (wpAny_standAt (Aa (AH (thn (hs pins s2 σ H2 x y v ov iv u _ I2 r1 r2 r q2) λ_ s3 ⟨H3,I3,q3⟩=>?_))))
 exact wpAny_release ⟨σ,H3,I3,q3⟩
def Xj (te:TE)(g:TG):TS:=λD σ H=>te σ H λx H1=>g x σ H1 D.nx
theorem WL {tg e:Expr}{te:TE}{g:TG}(he:PE X e te)(hg:PG X tg g)(hs:swapsWithSole [tg] e pos.line X.env=pure false:=by rfl)(hw:swappedStores [tg] e X.env=pure none:=by rfl)
  (h1:(assignEach [tg] X.env).map (·.2)=[assign tg X.env]:=by rfl):PS X (.Assign [tg] e pos) (Xj te g):=by
 intro pins s σ H D I h
 refine wpAny_Assign_stores (thn (he pins s σ H _ I h) λv s1 ⟨x,H1,I1,r1,q1⟩=>?_) hs hw
 rw [h1]
 exact thn (hg pins s1 σ H1 x v _ I1 r1 q1) λ_ s2 q=>q
theorem Wm {i:Nat}{x:Str}{e:Expr}{te:TE}{pos':Pos}(hN:X.N.Nodup)(hi:X.N[i]? = some x)(hx:Loc X.env.scope x)(he:PE X e te)(hs:swapsWith e (some (.Name x pos')) pos.line X.env=pure false:=by rfl)(hf:X.fn x=true∨X.env.scope.names.lookup x=some .local:=by first|exact .inl rfl|exact .inr rfl|assumption) :
  PS X (.Assign [.Name x pos'] e pos) (Xj te (Vy i)):=by
 intro pins s σ H D I h
 refine wpAny_Assign_Name (thn (he pins s σ H _ I h) λv s1 ⟨y,H1,I1,r1,q1⟩=>?_) hs
 exact JW I1 hN hi hx r1 (λs2 I2=>⟨_,H1,I2,q1⟩) hf
end
structure It where
 go:Nat->Hp->Prop
 yld:Nat->Hp->V->Hp->Prop
 stop:Nat->Hp->Prop
def Hv (X:Cx)(pins:List (Addr×Obj))(H:Hp)(b:Addr):Prop:=
 H b=none∧b≠X.env.locals∧b∉X.fs∧(b∈X.ex∨X.s₀.heap.objs.size≤b)∧(∀ x c,X.env.cells.lookup x=some c->c≠b)∧∀ p∈X.pn++pins,p.1≠b
theorem Inv.fpOk {X:Cx}{pins:List (Addr×Obj)}{σ:St}{H H':Hp}{s:Shared}{b:Addr}(I:Inv X pins σ H s)(hb:s.heap.objs.size≤b)(hn:H' b=none):Hv X pins H' b:=by
 refine ⟨hn,Nat.ne_of_gt (Az I.lt hb),I.nofs hb,.inr (AN I.sz hb),λx c e z=>?_,λp hp z=>?_⟩
 ·obtain ⟨v,q⟩:=I.cell x c e
  exact absurd (Az q.lt (by rw [z];exact hb)) (A8 _)
 ·exact absurd (Az (An (I.pin p hp).1) (by rw [z];exact hb)) (A8 _)
structure Turn (P:Program) (w:World) (K:PySem.W.Frag) (tg:Expr) (J:It) (fp:List Addr) (it:Addr) (tn:Nat->Heap->Prop):Prop where
 mem:it∈fp
 obj:∀ i h,tn i h->∀ b∈fp,∃ o,h.get? b=some o∧∀ v,o.data≠.cell v
 keep:∀ i h h',tn i h->(∀ b∈fp,∀ o,h.get? b=some o->h'.get? b=some o)->tn i h'
 item:∀ (X:Cx),X.prog=P->X.w=w->X.K=K->X.calm=true->∀ (i:Nat) (pins:List (Addr×Obj)) (s:Shared) (σ:St) (H:Hp) (E:Value->Shared->Prop),Inv X pins σ H s->(∀ b∈fp,Hv X pins H b)->tn i s.heap->J.go i H ->
  wpAny (model P w) X.A (pyNext (.ref it)) (λr s1=>∃ u,r=some u ∧
   wpAny (model P w) X.A (letOwnedTupleGo tg (.ref it) u) (λ_ s2=>∃ x H',Inv X pins σ H' s2∧RelV x u∧J.yld i H x H'∧tn (i+1) s2.heap∧∀ b∈fp,H' b=none) E s1) E s
 done:∀ (X:Cx),X.prog=P->X.w=w->X.K=K->X.calm=true->∀ (i:Nat) (pins:List (Addr×Obj)) (s:Shared) (σ:St) (H:Hp) (E:Value->Shared->Prop),Inv X pins σ H s->(∀ b∈fp,Hv X pins H b)->tn i s.heap->J.stop i H ->
  wpAny (model P w) X.A (pyNext (.ref it)) (λr s1=>r=none∧Inv X pins σ H s1) E s
 self:∀ (A:Around) (i:Nat) (s:Shared) (Q:Value->Shared->Prop) (E:Value->Shared->Prop),tn i s.heap->Q (.ref it) s->wpAny (model P w) A (pyIter (.ref it)) Q E s
abbrev TI:=St->Hp->(It->Hp->Prop)->Prop
def PIE (X:Cx)(pins:List (Addr×Obj))(σ:St)(tg:Expr)(R:It->Hp->Prop)(itv:Value)(s2:Shared):Prop:=
 ∃ (it:Addr) (fp:List Addr) (tn:Nat->Heap->Prop) (J:It) (H':Hp),itv=.ref it∧Inv X pins σ H' s2∧Turn X.prog X.w X.K tg J fp it tn∧tn 0 s2.heap∧(∀ b∈fp,Hv X pins H' b)∧R J H'
def PI (X:Cx)(tg iter:Expr)(wi:TI):Prop:=
 ∀ (pins:List (Addr×Obj)) (s:Shared) (σ:St) (H:Hp) (R:It->Hp->Prop),Inv X pins σ H s->wi σ H R ->
  wpAny (model X.prog X.w) X.A (eval iter X.env) (λv s1=>wpAny (model X.prog X.w) X.A (pyIter v) (PIE X pins σ tg R) X.xe s1) X.xe s
theorem L1 {M:Model}{A:Around}{E:Value->Shared->Prop}{s:Shared}{tg:Expr}{it:Addr}{u:Value}{o:Obj}{n:String}{vs:Array Value}{Q:Unit->Shared->Prop}(ho:s.heap.get? it=some o)(hc:o.cls=.type n)(hd:o.data=.fields vs)
  (hn:["enumerate","zip","dict_itemiterator","dict_reverseitemiterator","odict_iterator","itertools.zip_longest","itertools.pairwise"].contains n=false) (hQ:Q () s):wpAny M A (letOwnedTupleGo tg (.ref it) u) Q E s:=by
 unfold letOwnedTupleGo
 cases tg<;>first
  | exact Ab hQ
  | (cases u<;>first
    | exact Ab hQ
    | (refine Aa (wpAny_load ho ?_);rw [hc,hd];show wpAny M A (if (["enumerate","zip","dict_itemiterator","dict_reverseitemiterator","odict_iterator","itertools.zip_longest","itertools.pairwise"].contains n&&vs[0]?==some (rawInt _))=true then _ else _) Q E s;rw [if_neg (by intro h;rw [hn,Bool.false_and] at h;cases h)];exact Ab hQ))
noncomputable def Itl (K:PySem.W.Frag)(a:Addr):It:=
 ⟨λi H=>∃ xs x,SqL K H a xs∧xs[i]? = some x,λi H x H'=>H'=H∧∀ xs,SqL K H a xs->xs[i]? = some x,λi H=>∃ xs,SqL K H a xs∧xs.length≤i⟩
noncomputable def Itt (K:PySem.W.Frag)(a:Addr):It:=
 ⟨λi H=>∃ xs x,SqT K H a xs∧xs[i]? = some x,λi H x H'=>H'=H∧∀ xs,SqT K H a xs->xs[i]? = some x,λi H=>∃ xs,SqT K H a xs∧xs.length≤i⟩
noncomputable def Itr (lo:Int)(n:Nat):It:=⟨λi _=>i<n,λi H x H'=>H'=H∧x=.int (lo+i),λi _=>n≤i⟩
theorem P0 {P:Program}{w:World}{K:PySem.W.Frag}{tg:Expr}(a it:Addr):Turn P w K tg (Itl K a) [it] it (λi h=>h.IsListIter it a i) where
 mem:=by simp
 obj:=λi h st b hb=>by
  have e:b=it:=by simpa using hb
  subst e
  obtain ⟨o,e,c,d⟩:=st
  exact ⟨o,e,λv z=>by rw [d] at z;cases z⟩
 keep:=λi h h' st k=>st.at λo e=>k it (by simp) o e
 item:=by
  intro X hP hw hK hc i pins s σ H E I hf st hg
  subst hP hw hK
  obtain ⟨xs,x,hq,hx⟩:=hg
  obtain ⟨its,rv,p,hz⟩:=I.list hq
  obtain ⟨u,hu,ru⟩:=rv.get hx
  obtain ⟨f0,f1,f2,f3,f4,f5⟩:=hf it (by simp)
  refine wpAny_pyNext_list_item st p.isList (x:=u) (by simpa using hu) λh' st' sb=>?_
  have I1:Inv X pins σ H { s with heap:=h' }:=I.turned (t':=s.toks) (λb o hb e=>(sb.2 b hb).trans e) f0 f1 f3 f4 f5
  obtain ⟨o,e,c,d⟩:=id st'
  exact ⟨u,rfl,L1 (s:={ s with heap:=h' }) e c d (by decide) ⟨x,H,I1,ru,⟨rfl,λys hy=>by rw [I.list_inj hy hq];exact hx⟩,st',λb hb=>(hf b hb).1⟩⟩
 done:=by
  intro X hP hw hK hc i pins s σ H E I hf st hg
  subst hP hw hK
  obtain ⟨xs,hq,hx⟩:=hg
  obtain ⟨its,rv,p,hz⟩:=I.list hq
  obtain ⟨f0,f1,f2,f3,f4,f5⟩:=hf it (by simp)
  have hl:=rv.length
  exact wpAny_pyNext_list_end (I.ok.hd hc) st p.isList (by simp;ext) λh' eb=>⟨rfl,I.turned (t':=s.toks) (λb o hb e=>eb b o hb e) f0 f1 f3 f4 f5⟩
 self:=λ_ _ _ _ _ st h=>wpAny_pyIter_listiter st h
theorem NG {P:Program}{w:World}{K:PySem.W.Frag}{tg:Expr}(a it:Addr):Turn P w K tg (Itt K a) [it] it (λi h=>h.IsTupleIter it a i) where
 mem:=by simp
 obj:=λi h st b hb=>by
  have e:b=it:=by simpa using hb
  subst e
  obtain ⟨o,e,c,d⟩:=st
  exact ⟨o,e,λv z=>by rw [d] at z;cases z⟩
 keep:=λi h h' st k=>st.at λo e=>k it (by simp) o e
 item:=by
  intro X hP hw hK hc i pins s σ H E I hf st hg
  subst hP hw hK
  obtain ⟨xs,x,hq,hx⟩:=hg
  obtain ⟨its,rv,p,hz⟩:=I.tuple hq
  obtain ⟨u,hu,ru⟩:=rv.get hx
  obtain ⟨f0,f1,f2,f3,f4,f5⟩:=hf it (by simp)
  refine wpAny_pyNext_tuple_item st (show s.heap.IsTuple a its.toArray from p) (x:=u) (by simpa using hu) λh' st' sb=>?_
  have I1:Inv X pins σ H { s with heap:=h' }:=I.turned (t':=s.toks) (λb o hb e=>(sb.2 b hb).trans e) f0 f1 f3 f4 f5
  obtain ⟨o,e,c,d⟩:=id st'
  exact ⟨u,rfl,L1 (s:={ s with heap:=h' }) e c d (by decide) ⟨x,H,I1,ru,⟨rfl,λys hy=>by rw [I.tuple_inj hy hq];exact hx⟩,st',λb hb=>(hf b hb).1⟩⟩
 done:=by
  intro X hP hw hK hc i pins s σ H E I hf st hg
  subst hP hw hK
  obtain ⟨xs,hq,hx⟩:=hg
  obtain ⟨its,rv,p,hz⟩:=I.tuple hq
  obtain ⟨f0,f1,f2,f3,f4,f5⟩:=hf it (by simp)
  have hl:=rv.length
  exact wpAny_pyNext_tuple_end (I.ok.hd hc) st (show s.heap.IsTuple a its.toArray from p) (by simp;ext) λh' eb=>⟨rfl,I.turned (t':=s.toks) (λb o hb e=>eb b o hb e) f0 f1 f3 f4 f5⟩
 self:=λ_ _ _ _ _ st h=>wpAny_pyIter_tupleiter st h
theorem N8 {P:Program}{w:World}{K:PySem.W.Frag}{tg:Expr}(it:Addr)(lo:Int)(n:Nat):Turn P w K tg (Itr lo n) [it] it (λi h=>IsRangeIter h it (lo+(i:Nat)*1) ((n:Int)-(i:Nat)) 1) where
 mem:=by simp
 obj:=λi h st b hb=>by
  have e:b=it:=by simpa using hb
  subst e
  exact ⟨_,st,λv z=>by
   have z':Data.fields _=Data.cell v:=z
   cases z'⟩
 keep:=λi h h' st k=>k it (by simp) _ st
 item:=by
  intro X hP hw hK hc i pins s σ H E I hf st hg
  subst hP hw hK
  obtain ⟨f0,f1,f2,f3,f4,f5⟩:=hf it (by simp)
  have W:=Walks.range (prog:=X.prog) (w:=X.w) (I.ok.hd hc) it lo 1 n
  refine W.item i s _ _ hg st λv h' tk hv st' kk=>?_
  obtain ⟨t,rfl⟩:=hv
  have I1:Inv X pins σ H { s with heap:=h',toks:=tk }:=I.turned (λb o hb e=>kk b o (by simpa using hb) e) f0 f1 f3 f4 f5
  refine ⟨_,rfl,L1 (s:={ s with heap:=h',toks:=tk }) (n:="range_iterator") st' rfl rfl (by decide) ⟨.int (lo+i),H,I1,⟨t,?_⟩,⟨rfl,rfl⟩,st',λb hb=>(hf b hb).1⟩⟩
  rw [Int.mul_one]
 done:=by
  intro X hP hw hK hc i pins s σ H E I hf st hg
  subst hP hw hK
  obtain ⟨f0,f1,f2,f3,f4,f5⟩:=hf it (by simp)
  exact wpAny_pyNext_range_end (I.ok.hd hc) st (by have:n≤i:=hg;ext) λh' eb=>⟨rfl,I.turned (t':=s.toks) (λb o hb e=>eb b o hb e) f0 f1 f3 f4 f5⟩
 self:=λ_ _ _ _ _ st h=>wpAny_pyIter_rangeiter st h
section
variable {X:Cx} {tg:Expr}
def Ye (K:PySem.W.Frag)(tl:TE):TI:=fun σ H R=>tl σ H λx H1=>∃ a,x=.ref a∧(∃ xs,SqL K H1 a xs)∧R (Itl K a) H1
def ZI (K:PySem.W.Frag)(tl:TE):TI:=fun σ H R=>tl σ H λx H1=>∃ a,x=.ref a∧(∃ xs,SqT K H1 a xs)∧R (Itt K a) H1
theorem O3 {l:Expr}{tl:TE}(hl:PE X l tl):PI X tg l (Ye X.K tl):=by
 intro pins s σ H R I h
 refine thn (hl pins s σ H _ I h) λv s1 ⟨x,H1,I1,r1,q1⟩=>?_
 obtain ⟨a,e,⟨xs,hq⟩,q⟩:=q1
 subst e
 cases r1
 obtain ⟨its,rv,p,hz⟩:=I1.list hq
 refine wpAny_pyIter_list p.isList ?_
 refine ⟨s1.heap.objs.size,[s1.heap.objs.size],_,_,H1,rfl,I1.kept (t':=s1.toks) λb o e=>Ad _ e,P0 a _,⟨_,Ai _ rfl,rfl,rfl⟩,λb hb=>?_,q⟩
 have e:b=s1.heap.objs.size:=by simpa using hb
 subst e
 exact I1.fpOk (Aj _) (I1.hok.fresh (Aj _))
theorem VH {l:Expr}{tl:TE}(hl:PE X l tl):PI X tg l (ZI X.K tl):=by
 intro pins s σ H R I h
 refine thn (hl pins s σ H _ I h) λv s1 ⟨x,H1,I1,r1,q1⟩=>?_
 obtain ⟨a,e,⟨xs,hq⟩,q⟩:=q1
 subst e
 cases r1
 obtain ⟨its,rv,p,hz⟩:=I1.tuple hq
 refine wpAny_pyIter_tuple (show s1.heap.IsTuple a its.toArray from p) ?_
 refine ⟨s1.heap.objs.size,[s1.heap.objs.size],_,_,H1,rfl,I1.kept (t':=s1.toks) λb o e=>Ad _ e,NG a _,⟨_,Ai _ rfl,rfl,rfl⟩,λb hb=>?_,q⟩
 have e:b=s1.heap.objs.size:=by simpa using hb
 subst e
 exact I1.fpOk (Aj _) (I1.hok.fresh (Aj _))
theorem S7 {pins:List (Addr×Obj)}{σ:St}{H:Hp}{s:Shared}{R:It->Hp->Prop}{E:Value->Shared->Prop}{lo hi:Int}{t u v:Tok}{tk:Nat}(I:Inv X pins σ H s)(h1:-(2 ^ 62)≤lo)(h2:lo<2 ^ 62)(h3:-(2 ^ 62)≤hi)(h4:hi<2 ^ 62)
  (q:R (Itr lo (hi-lo).toNat) H):wpAny (model X.prog X.w) X.A (pyIter (.ref s.heap.objs.size)) (PIE X pins σ tg R) E { s with heap:=s.heap.push { cls:=.type "range",data:=.fields #[.int lo t,.int hi u,.int 1 v] },toks:=tk }:=by
 refine wpAny_pyIter_range (IsRange.new ..) (small_one h1 h2 h3 h4) ?_
 have I1:Inv X pins σ H { s with heap:=s.heap.push { cls:=.type "range",data:=.fields #[.int lo t,.int hi u,.int 1 v] },toks:=tk }:=I.kept λb o e=>Ad _ e
 refine ⟨(s.heap.push { cls:=.type "range",data:=.fields #[.int lo t,.int hi u,.int 1 v] }).objs.size,[(s.heap.push { cls:=.type "range",data:=.fields #[.int lo t,.int hi u,.int 1 v] }).objs.size],_,_,H,rfl,
  I1.kept (t':=tk) λb o e=>Ad _ e,N8 _ lo (hi-lo).toNat,?_,λb hb=>?_,q⟩
 ·have e1:lo+((0:Nat):Int)*1=lo:=by simp
  have e2:(((hi-lo).toNat:Nat):Int)-((0:Nat):Int)=Builtin.Range.rangeSize lo hi 1:=by rw [rangeSize_one];split<;>ext
  show IsRangeIter _ _ (lo+((0:Nat):Int)*1) ((((hi-lo).toNat:Nat):Int)-((0:Nat):Int)) 1
  rw [e1,e2]
  exact Ai _ rfl
 ·have e:b=(s.heap.push { cls:=.type "range",data:=.fields #[.int lo t,.int hi u,.int 1 v] }).objs.size:=by simpa using hb
  subst e
  exact I1.fpOk (Aj _) (I1.hok.fresh (Aj _))
def Zi (ta:TA):TI:=fun σ H R=>ta σ H λvs H1=>∃ j:Int,vs=[.int j]∧-(2 ^ 62)≤j∧j<2 ^ 62∧R (Itr 0 j.toNat) H1
theorem Qk {a:Expr}{ta:TA}{p pos:Pos}(hg:Gl X "range")(hm:X.mg "range"=none)(ha:PA X [a] ta)(hs:starEach [a] X.env=[(false,eval a X.env)]:=by rfl):PI X tg (.Call (.Name "range" p) [a] [] pos) (Zi ta):=by
 intro pins s σ H R I h
 refine Call_ (HI I hg hm boot_range (BB (thn (ha pos pins s σ H _ I h) λus s1 ⟨vs,H1,I1,r1,q1⟩=>?_) hs rfl))
 obtain ⟨j,e,q1,q2,q⟩:=q1
 subst e
 cases r1 with
 | cons r rr =>
  cases rr
  obtain ⟨t,rfl⟩:=r
  exact call_range_1 (S7 I1 (by ext) (by ext) q1 q2 (by simpa using q))
def Zv (wi:TI)(g:TG)(tb:TS):TS:=λD σ H=>wi σ H λJ H1=>∃ W:Nat->Nat->St->Hp->Prop,(∃ m,W 0 m σ H1)∧∀ i m σ H,W i m σ H ->
 (J.stop i H∧D.nx σ H)∨(J.go i H∧∃ N:St->Hp->Prop,(∀ σ' H',N σ' H'->∃ m',m'<m∧W (i+1) m' σ' H')∧∀ x H',J.yld i H x H'->g x σ H' fun σ2 H2=>tb { D with nx:=N,ct:=N,bk:=D.nx } σ2 H2)
noncomputable def Hz (fp:List Addr)(h:Heap):List (Addr×Obj):=fp.filterMap λb=>(h.get? b).map λo=>(b,o)
theorem Gu {fp:List Addr}{h:Heap}{b:Addr}{o:Obj}(hb:b∈fp)(e:h.get? b=some o):(b,o)∈Hz fp h:=List.mem_filterMap.mpr ⟨b,hb,by rw [e];rfl⟩
theorem KP {fp:List Addr}{h:Heap}{p:Addr×Obj}(hp:p∈Hz fp h):p.1∈fp∧h.get? p.1=some p.2:=by
 obtain ⟨b,hb,e⟩:=List.mem_filterMap.mp hp
 cases q:h.get? b with
 | none=>rw [q] at e;cases e
 | some o =>
  rw [q] at e
  have e':(b,o)=p:=AI e
  subst e'
  exact ⟨hb,q⟩
theorem Inv.pinned {pins:List (Addr×Obj)}{σ:St}{H:Hp}{s:Shared}{fp:List Addr}(I:Inv X pins σ H s)(hf:∀ b∈fp,Hv X pins H b)(ho:∀ b∈fp,∃ o,s.heap.get? b=some o∧∀ v,o.data≠.cell v):Inv X (pins++Hz fp s.heap) σ H s:=
 I.pins_of λp hp=>(AE.mp hp).elim (λz=>I.pin p (AB _ z)) λz=>by
  obtain ⟨hb,e⟩:=KP z
  obtain ⟨f0,f1,f2,_⟩:=hf p.1 hb
  obtain ⟨o,e',d⟩:=ho p.1 hb
  rw [e] at e';cases e'
  exact ⟨e,f0,f1,f2,d⟩
theorem Inv.unpinned {pins pl:List (Addr×Obj)}{σ:St}{H:Hp}{s:Shared}(I:Inv X (pins++pl) σ H s):Inv X pins σ H s:=I.pins_of λp hp=>I.pin p (AB _ (A1 _ hp))
theorem XE {iter:Expr}{body:List Stmt}{wi:TI}{g:TG}{tb:TS}{pos:Pos}(hp:PassesOwn (model X.prog X.w) X.A X.env X.xe)(hc:X.calm=true)(hi:PI X tg iter wi)(hg:PG X tg g)(hb:PSs X body tb)
  (hs:∀ x,foldedSetIterable iter X.env x=pure x:=by intro _;rfl):PS X (.For tg iter body [] pos) (Zv wi g tb):=by
 intro pins s σ H D I h
 refine wpAny_For (thn (hi pins s σ H _ I h) λv s1 h1=>thn h1 λitv s2 h2=>?_) hs
 obtain ⟨it,fp,tn,J,H2,e,I2,T,st2,f2,W,⟨m0,w0⟩,turn⟩:=h2
 subst e
 have stat:∀ {H':Hp},(∀ b∈fp,H' b=none)->∀ b∈fp,Hv X pins H' b:=λhn b hb=>⟨hn b hb,(f2 b hb).2⟩
 refine codeAny_forLoop_any (λn s'=>∃ i σ' H',Inv X pins σ' H' s'∧tn i s'.heap∧(∀ b∈fp,H' b=none)∧W i n σ' H') ?_ m0 ⟨0,σ,H2,I2,st2,λb hb=>(f2 b hb).1,w0⟩
 rintro n s3 ⟨i,σ3,H3,I3,st3,fr3,w3⟩
 rcases turn i n σ3 H3 w3 with ⟨stop,qn⟩|⟨go,N,hN,step⟩
 ·refine wpAny_passesOwn hp (thn (T.done X rfl rfl rfl hc i pins s3 σ3 H3 X.xe I3 (stat fr3) st3 stop) λr s4 ⟨hr,I4⟩=>?_)
  subst hr
  exact wpAny_execs_nil ⟨σ3,H3,I4,qn⟩
 ·refine wpAny_passesOwn hp (thn (T.item X rfl rfl rfl hc i pins s3 σ3 H3 X.xe I3 (stat fr3) st3 go) λr s4 ⟨u,hr,h4⟩=>?_)
  subst hr
  refine wpAny_passesOwn hp (thn h4 λ_ s5 ⟨x,H5,I5,r5,y5,st5,fr5⟩=>?_)
  have I5':=I5.pinned (stat fr5) (T.obj _ _ st5)
  refine wpAny_passesOwn hp (thn (hg _ s5 σ3 H5 x u _ I5' r5 (step x H5 y5)) λ_ s6 ⟨σ6,H6,I6,q6⟩=>?_)
  refine wpAny_passesOwn hp (thn (hb _ s6 σ6 H6 _ I6 q6) λf s7 q7=>?_)
  have again:∀ {σ7:St} {H7:Hp},Inv X (pins++Hz fp s5.heap) σ7 H7 s7->N σ7 H7->∃ m,m<n∧∃ i σ' H',Inv X pins σ' H' s7∧tn i s7.heap∧(∀ b∈fp,H' b=none)∧W i m σ' H':=λ{σ7 H7} I7 n7=>by
   obtain ⟨m',hm,w7⟩:=hN σ7 H7 n7
   refine ⟨m',hm,i+1,σ7,H7,I7.unpinned,T.keep _ _ _ st5 λb hb o e=>(I7.pin (b,o) (AB _ (AB _ (Gu hb e)))).1,λb hb=>?_,w7⟩
   obtain ⟨o,e,d⟩:=T.obj _ _ st5 b hb
   exact (I7.pin (b,o) (AB _ (AB _ (Gu hb e)))).2.1
  cases f with
  | next=>obtain ⟨σ7,H7,I7,n7⟩:=q7;exact again I7 n7
  | cont=>obtain ⟨σ7,H7,I7,n7⟩:=q7;exact again I7 n7
  | brk=>obtain ⟨σ7,H7,I7,q7⟩:=q7;exact ⟨σ7,H7,I7.unpinned,q7⟩
  | ret v=>obtain ⟨x7,σ7,H7,I7,r7,q7⟩:=q7;exact ⟨x7,σ7,H7,I7.unpinned,r7,q7⟩
end
abbrev R2:=V->V->Hp->VK->Prop
def OpR (X:Cx)(f:Value->Value->Sem Value)(r:R2):Prop:=
 ∀ (pins:List (Addr×Obj)) (s:Shared) (σ:St) (H:Hp) (x y:V) (v u:Value) (Q:VK),Inv X pins σ H s->RelV x v->RelV y u->r x y H Q ->
  wpAny (model X.prog X.w) X.A (f v u) (EP X pins σ Q) X.xe s
def Fx (X:Cx)(f:Value)(r:List V->Hp->VK->Prop):Prop:=
 ∀ (pins:List (Addr×Obj)) (s:Shared) (σ:St) (H:Hp) (xs:List V) (us:List Value) (Q:VK),Inv X pins σ H s->Vals xs us->r xs H Q ->
  wpAny (model X.prog X.w) X.A (call f us) (EP X pins σ Q) X.xe s
def tOp (r:R2)(ta tb:TE):TE:=fun σ H Q=>ta σ H λx H1=>tb σ H1 λy H2=>r x y H2 Q
def rI (C:Int->Int->Prop)(g:Int->Int->V):R2:=λx y H Q=>∃ i j,x=.int i∧y=.int j∧C i j∧Q (g i j) H
def rI0 (g:Int->Int->V):R2:=λx y H Q=>∃ i j,x=.int i∧y=.int j∧Q (g i j) H
section
variable {X:Cx} {a b c:Expr} {ta tb tc:TE} {pos:Pos}
theorem WG (ha:PE X a ta)(hb:PE X b tb){pins:List (Addr×Obj)}{s:Shared}{σ:St}{H:Hp}{R:V->V->Hp->Prop}(I:Inv X pins σ H s)
  (h:ta σ H λx H1=>tb σ H1 λy H2=>R x y H2) {Q:Value->Shared->Prop} {f:Value->Value->Sem Value}
  (hf:∀ v u s2 x y H2,Inv X pins σ H2 s2->RelV x v->RelV y u->R x y H2->wpAny (model X.prog X.w) X.A (f v u) Q X.xe s2) :
  wpAny (model X.prog X.w) X.A (eval a X.env) (λv s₁=>wpAny (model X.prog X.w) X.A (eval b X.env) (λu s₂=>wpAny (model X.prog X.w) X.A (f v u) Q X.xe s₂) X.xe s₁) X.xe s:=by
 refine thn (ha pins s σ H _ I h) λv s1 ⟨x,H1,I1,r1,q1⟩=>?_
 refine thn (hb pins s1 σ H1 _ I1 q1) λu s2 ⟨y,H2,I2,r2,q2⟩=>?_
 exact hf v u s2 x y H2 I2 r1 r2 q2
theorem Yn {op:Operator}{r:R2}(ho:OpR X (binaryOp op) r)(ha:PE X a ta)(hb:PE X b tb):PE X (.BinOp a op b pos) (tOp r ta tb):=by
 intro pins s σ H Q I h
 exact wpAny_BinOp (WG ha hb I h λv u s2 x y H2 I2 rx ry q=>ho pins s2 σ H2 x y v u Q I2 rx ry q)
theorem opI {f:Value->Value->Sem Value}{C:Int->Int->Prop}{g:Int->Int->Int}
  (rule:∀ (i j:Int) (t u:Tok) (s:Shared) (Q:Value->Shared->Prop) (E:Value->Shared->Prop),C i j->Q (.int (g i j) s.toks) { s with toks:=s.toks+1 }->wpAny (model X.prog X.w) X.A (f (.int i t) (.int j u)) Q E s) :
  OpR X f (rI C λi j=>.int (g i j)):=by
 intro pins s σ H x y v u Q I rx ry h
 obtain ⟨i,j,rfl,rfl,hc,q⟩:=h
 obtain ⟨t,rfl⟩:=rx
 obtain ⟨t',rfl⟩:=ry
 exact rule i j t t' s _ _ hc ⟨.int (g i j),H,I.tok _,⟨_,rfl⟩,q⟩
theorem Y9 {f:Value->Value->Sem Value}{g:Int->Int->Int}
  (rule:∀ (i j:Int) (t u:Tok) (s:Shared) (Q:Value->Shared->Prop) (E:Value->Shared->Prop),Q (.int (g i j) s.toks) { s with toks:=s.toks+1 }->wpAny (model X.prog X.w) X.A (f (.int i t) (.int j u)) Q E s) :
  OpR X f (rI0 λi j=>.int (g i j)):=by
 intro pins s σ H x y v u Q I rx ry h
 obtain ⟨i,j,rfl,rfl,q⟩:=h
 obtain ⟨t,rfl⟩:=rx
 obtain ⟨t',rfl⟩:=ry
 exact rule i j t t' s _ _ ⟨.int (g i j),H,I.tok _,⟨_,rfl⟩,q⟩
theorem Xr {f:Value->Value->Sem Value}{g:Int->Int->Bool}
  (rule:∀ (i j:Int) (t u:Tok) (s:Shared) (Q:Value->Shared->Prop) (E:Value->Shared->Prop),Q (.bool (g i j)) s->wpAny (model X.prog X.w) X.A (f (.int i t) (.int j u)) Q E s) :
  OpR X f (rI0 λi j=>.bl (g i j)):=by
 intro pins s σ H x y v u Q I rx ry h
 obtain ⟨i,j,rfl,rfl,q⟩:=h
 obtain ⟨t,rfl⟩:=rx
 obtain ⟨t',rfl⟩:=ry
 exact rule i j t t' s _ _ ⟨.bl (g i j),H,I,rfl,q⟩
def K7 (i j:Int):Prop:=0<j∧j<1073741824
def Pe (i j:Int):Prop:=0≤j∧j≤1000000∧i.natAbs<2 ^ 64
def CMul (i j:Int):Prop:=(-(2 ^ 64)<i∧i<2 ^ 64)∨(-(2 ^ 64)<j∧j<2 ^ 64)
theorem CMul.ok {i j:Int}(h:CMul i j):IntMulOk i j:=by
 rcases h with ⟨h1,h2⟩|⟨h1,h2⟩
 ·exact .of_left (intBits_le_64 h1 h2)
 ·exact .of_right (intBits_le_64 h1 h2)
theorem V7:OpR X (binaryOp .Add) (rI0 λi j=>.int (i+j)):=Y9 λ_ _ _ _ _ _ _ q=>add_int q
theorem Wo:OpR X (binaryOp .Sub) (rI0 λi j=>.int (i-j)):=Y9 λ_ _ _ _ _ _ _ q=>sub_int q
theorem Xh:OpR X (binaryOp .Mult) (rI CMul λi j=>.int (i*j)):=opI λ_ _ _ _ _ _ _ hc q=>mul_int q hc.ok
theorem Uc:OpR X (binaryOp .FloorDiv) (rI K7 λi j=>.int (i / j)):=opI λi j _ _ _ _ _ hc q=>by
 have h1:(0:Int)<j:=hc.1
 have h2:j<1073741824:=hc.2
 exact floordiv_int (by ext) (by rw [Int.fdiv_eq_ediv_of_nonneg i (by ext)];exact q) (.inl (PyProof.noPylong_small (by ext)))
theorem Ww:OpR X (binaryOp .Mod) (rI (λ_ j=>0<j) λi j=>.int (i % j)):=opI λi j _ _ _ _ _ hc q=>by
 have h1:(0:Int)<j:=hc
 exact mod_int' (by ext) (by rw [Int.fmod_eq_emod_of_nonneg i (by ext)];exact q)
theorem Xe:OpR X (binaryOp .Pow) (rI Pe λi j=>.int (i ^ j.toNat)):=opI λ_ _ _ _ _ _ _ hc q=>pow_int_small hc.1 hc.2.1 hc.2.2 q
theorem LK {pins:List (Addr×Obj)}{σ:St}{H:Hp}{s:Shared}{Q:VK}{k k':Bool}(I:Inv X pins σ H s)(q:Q (.bl k) H)(e:k=k'):EP X pins σ Q (.bool k') s:=by
 subst e
 exact ⟨.bl k,H,I,rfl,q⟩
theorem Yt:OpR X (compareOp .LtE) (rI0 λi j=>.bl (decide (i≤j))):=Xr λ_ _ _ _ _ _ _ q=>le_int q
theorem YZ:OpR X (compareOp .Gt) (rI0 λi j=>.bl (decide (j<i))):=Xr λ_ _ _ _ _ _ _ q=>gt_int q
theorem Za:OpR X (compareOp .GtE) (rI0 λi j=>.bl (decide (j≤i))):=Xr λ_ _ _ _ _ _ _ q=>ge_int q
theorem Pj:OpR X (compareOp .In) (λx y H Q=>∃ i j,x=.str i∧y=.str j∧Q (.bl (!(Builtin.Str.occurrences j i 0 j.length 1).isEmpty)) H):=by
 intro pins s σ H x y v u Q I rx ry h
 obtain ⟨i,j,rfl,rfl,q⟩:=h
 obtain ⟨t,rfl⟩:=rx
 obtain ⟨t',rfl⟩:=ry
 exact in_str (LK I q rfl)
theorem WR:OpR X (compareOp .Is) (λx y H Q=>y=.non∧Q (.bl (decide (x=.non))) H):=by
 intro pins s σ H x y v u Q I rx ry h
 obtain ⟨rfl,q⟩:=h
 cases ry
 refine is_none_gen (LK I q ?_)
 cases x<;>first
  | (cases rx;rfl)
  | (obtain ⟨t,rfl⟩:=rx;rfl)
theorem K6:OpR X (compareOp .NotIn) (λx y H Q=>∃ i j,x=.str i∧y=.str j∧Q (.bl (!(!(Builtin.Str.occurrences j i 0 j.length 1).isEmpty))) H):=by
 intro pins s σ H x y v u Q I rx ry h
 obtain ⟨i,j,rfl,rfl,q⟩:=h
 obtain ⟨t,rfl⟩:=rx
 obtain ⟨t',rfl⟩:=ry
 exact notIn_str (LK I q rfl)
theorem Nb (b:Expr){op:CmpOp}(h:op≠.In:=by decide)(h2:op≠.NotIn:=by decide):behindInMarks op b=false:=by
 have e1:(op==CmpOp.In)=false:=by cases op<;>first|rfl|exact absurd rfl h
 have e2:(op==CmpOp.NotIn)=false:=by cases op<;>first|rfl|exact absurd rfl h2
 cases b<;>simp [behindInMarks,e1,e2]
theorem Ub {op:CmpOp}{r:R2}(ho:OpR X (compareOp op) r)(ha:PE X a ta)(hb:PE X b tb)(hm:behindInMarks op b=false):PE X (.Compare a [op] [b] pos) (tOp r ta tb):=by
 intro pins s σ H Q I h
 exact wpAny_Compare1 (WG ha hb I h λv u s2 x y H2 I2 rx ry q=>ho pins s2 σ H2 x y v u Q I2 rx ry q) hm
def SI (t:TE):TT:=fun σ H Q=>t σ H λx H'=>∃ k,x=.bl k∧Q k H'
theorem OZ {op:CmpOp}{r:R2}(ho:OpR X (compareOp op) r)(ha:PE X a ta)(hb:PE X b tb)(hm:behindInMarks op b=false):PT X (.Compare a [op] [b] pos) (SI (tOp r ta tb)):=by
 intro pins s σ H Q I h
 refine wpAny_isTrue_Compare1 (thn (ha pins s σ H _ I h) λv s1 ⟨x,H1,I1,r1,q1⟩=>thn (hb pins s1 σ H1 _ I1 q1) λu s2 ⟨y,H2,I2,r2,q2⟩ =>
  thn (ho pins s2 σ H2 x y v u _ I2 r1 r2 q2) λc s3 ⟨z,H3,I3,r3,k,e,q3⟩=>?_) hm
 subst e
 cases r3
 exact Bh ⟨H3,I3,q3⟩
def QQ (r r':R2)(ta tb tc:TE):TE:=fun σ H Q=>ta σ H λx H1=>tb σ H1 λy H2=>r x y H2 λz H3=>∃ k,z=.bl k ∧
 (if k=true then tc σ H3 λw' H4=>r' y w' H4 Q else Q (.bl false) H3)
theorem R3 {op op':CmpOp}{r r':R2}(ho:OpR X (compareOp op) r)(ho':OpR X (compareOp op') r')(ha:PE X a ta)(hb:PE X b tb)(hc:PE X c tc)
  (hm:lastMarks [op,op'] [b,c]=false:=by with_unfolding_all rfl):PT X (.Compare a [op,op'] [b,c] pos) (SI (QQ r r' ta tb tc)):=by
 intro pins s σ H Q I h
 refine isTrue_chain (thn (ha pins s σ H _ I h) λv s1 ⟨x,H1,I1,r1,q1⟩=>test_link (thn (hb pins s1 σ H1 _ I1 q1) λu s2 ⟨y,H2,I2,r2,q2⟩ =>
  thn (ho pins s2 σ H2 x y v u _ I2 r1 r2 q2) λd s3 ⟨z,H3,I3,r3,k,e,q3⟩=>?_)) hm
 subst e
 cases r3
 refine Bh ?_
 cases k with
 | false =>
  obtain ⟨k',e',q'⟩:=q3
  cases e'
  exact ite_ff ⟨H3,I3,q'⟩
 | true =>
  refine ite_tt (test_last (thn (hc pins s3 σ H3 _ I3 q3) λw' s4 ⟨z',H4,I4,r4,q4⟩=>thn (ho' pins s4 σ H4 y z' u w' _ I4 r2 r4 q4) λd' s5 ⟨z2,H5,I5,r5,k2,e2,q5⟩=>?_))
  subst e2
  cases r5
  exact Bh ⟨H5,I5,q5⟩
theorem II:(sizeLine:Nat)<2 ^ 63:=by rw [As];decide
theorem Nf:OpR X (binaryOp .Add) (λx y H Q=>∃ i j,x=.str i∧y=.str j∧i.length+j.length≤sizeLine∧Q (.str (i++j)) H):=by
 intro pins s σ H x y v u Q I rx ry h
 obtain ⟨i,j,rfl,rfl,hz,q⟩:=h
 obtain ⟨t,rfl⟩:=rx
 obtain ⟨t',rfl⟩:=ry
 exact add_str (λt' tk=>⟨.str (i++j),H,I.tok _,⟨_,rfl⟩,q⟩) hz
theorem vals1 {x:V}{us:List Value}(r:Vals [x] us):∃ u,us=[u]∧RelV x u:=by
 cases r with
 | cons r1 r2=>cases r2;exact ⟨_,rfl,r1⟩
theorem vals2 {x y:V}{us:List Value}(r:Vals [x,y] us):∃ u w',us=[u,w']∧RelV x u∧RelV y w':=by
 cases r with
 | cons r1 r2 =>
  cases r2 with
  | cons r3 r4=>cases r4;exact ⟨_,_,rfl,r1,r3⟩
theorem P4 (hc:X.calm=true):Fx X (.builtin "max") (λxs H Q=>∃ i j,xs=[.int i,.int j]∧Q (.int (if j > i then j else i)) H):=by
 intro pins s σ H xs us Q I r h
 obtain ⟨i,j,rfl,q⟩:=h
 obtain ⟨u,w',rfl,⟨t,rfl⟩,⟨t',rfl⟩⟩:=vals2 r
 refine max_two_ints (I.ok.hd hc) λh' tk k=>⟨_,H,I.kept k,?_,q⟩
 by_cases hj:j > i
 ·rw [if_pos hj,if_pos hj];exact ⟨_,rfl⟩
 ·rw [if_neg hj,if_neg hj];exact ⟨_,rfl⟩
theorem Pq (hc:X.calm=true):Fx X (.builtin "min") (λxs H Q=>∃ i j,xs=[.int i,.int j]∧Q (.int (if j<i then j else i)) H):=by
 intro pins s σ H xs us Q I r h
 obtain ⟨i,j,rfl,q⟩:=h
 obtain ⟨u,w',rfl,⟨t,rfl⟩,⟨t',rfl⟩⟩:=vals2 r
 refine min_two_ints (I.ok.hd hc) λh' tk k=>⟨_,H,I.kept k,?_,q⟩
 by_cases hj:j<i
 ·rw [if_pos hj,if_pos hj];exact ⟨_,rfl⟩
 ·rw [if_neg hj,if_neg hj];exact ⟨_,rfl⟩
theorem Km:Fx X (.type "int") (λxs H Q=>(∃ i,xs=[.int i]∧Q (.int i) H)∨∃ k,xs=[.bl k]∧Q (.int (if k then 1 else 0)) H):=by
 intro pins s σ H xs us Q I r h
 rcases h with ⟨i,rfl,q⟩|⟨k,rfl,q⟩
 ·obtain ⟨u,rfl,t,rfl⟩:=vals1 r
  exact call_int_int ⟨.int i,H,I,⟨_,rfl⟩,q⟩
 ·obtain ⟨u,rfl,r1⟩:=vals1 r
  cases r1
  exact call_int_bool ⟨.int (if k then 1 else 0),H,I.tok _,⟨_,rfl⟩,q⟩
theorem Ls:Fx X (.type "str") (λxs H Q=>∃ i,xs=[.int i]∧i.natAbs.log2<1920∧Q (.str (toString i)) H):=by
 intro pins s σ H xs us Q I r h
 obtain ⟨i,rfl,hz,q⟩:=h
 obtain ⟨u,rfl,t,rfl⟩:=vals1 r
 exact PySem.P.str_of_int hz ⟨.str _,H,I.tok _,⟨_,rfl⟩,q⟩
end
structure ObjM (h:Heap) (x dx C:Addr) (mA:Str->Option Value):Prop where
 obj:h.get? x=some (PySem.W.instObj C dx)
 ns:h.Ns1 dx mA
 ne:dx≠x
theorem PL {h:Heap}{dx:Addr}{mA:Str->Option Value}(n:h.Ns1 dx mA):∃ od,h.get? dx=some od∧∀ name,PySem.W.lookIn name od=some (mA name):=by
 obtain ⟨o,es,ep,ho,hd,hk,_,hm⟩:=n
 refine ⟨o,ho,λname=>?_⟩
 have e:=hm name
 unfold nsFind findBy at e
 rw [← Array.find?_toList] at e
 unfold PySem.W.lookIn
 rw [hd]
 dsimp only
 split
 ·rename_i y q
  rw [q] at e
  exact congrArg some e
 ·rename_i q
  rw [q] at e
  have a:es.toList.any (·.refKey)=false:=by
   rw [List.any_eq_false]
   intro y hy
   obtain ⟨z,t,hkey⟩:=hk y (Array.mem_toList_iff.mp hy)
   simp [DictEntry.refKey,hkey]
  have a':¬ es.toList.any (·.refKey)=true:=by rw [a];exact Am
  rw [if_neg a']
  exact congrArg some e
theorem ObjM.look {h:Heap}{x dx C:Addr}{mA:Str->Option Value}(I:ObjM h x dx C mA):∃ od,PySem.W.InstAt h x (PySem.W.instObj C dx) C (some od)∧∀ name,PySem.W.lookIn name od=some (mA name):=
 let ⟨od,ho,hl⟩:=PL I.ns
 ⟨od,⟨I.obj,rfl,rfl,ho⟩,hl⟩
section
variable {P:Program} {w:World} {H H':Hp} {h h':Heap} {a C dx:Addr} {fs fs':List (Str×V)}
theorem TH (hok:HOk P w H h)(e:H a=some (.ins C dx fs)):∃ mA,ObjM h a dx C mA∧(∀ f,WB (fs.lookup f) (mA f))∧PySem.Within mA (fs.map (·.1))∧fs.length≤1000∧H dx=some (.own a):=by
 obtain ⟨d,z,ne,ob,mA,n,r,q⟩:=(show ObjOk P w H h a (.ins C dx fs) from hok a _ e)
 exact ⟨mA,⟨ob,n,ne⟩,r,q,z,d⟩
end
structure Cls (K:PySem.W.Frag) (C:Addr):Prop where
 pg:PySem.W.plainGet K C Str.empty=true
 hd:PySem.W.hasDictIn K C=true
 po:PySem.W.plainOver K C=true
 sa:PySem.W.findIn K (.ref C) "__setattr__"=some (some (.builtin "object.__setattr__"))
theorem Cls.get {K:PySem.W.Frag}{C:Addr}(c:Cls K C)(f:Str):PySem.W.plainGet K C f=true:=c.pg
section
variable {X:Cx} {pins:List (Addr×Obj)} {σ:St} {H:Hp} {s:Shared} {A:Around} {E:Value->Shared->Prop} {Q:Value->Shared->Prop} {c:Value} {b:Bool}
inductive IE (K:PySem.W.Frag) (H:Hp):V->Value->Prop where
 | non:IE K H .non (.type "NoneType")
 | bl (x:Bool):IE K H (.bl x) (.type "bool")
 | int (i:Int):IE K H (.int i) (.type "int")
 | str (x:Str):IE K H (.str x) (.type "str")
 | flt (x:UInt64):IE K H (.flt x) (.type "float")
 | lst {a:Addr} {xs:List V} (e:H a=some (.lst xs)):IE K H (.ref a) (.type "list")
 | frz {a:Addr} {o:Obj} {xs:List V} (e:H a=some (.frz o (.lst xs))):IE K H (.ref a) (.type "list")
 | tup {a:Addr} {xs:List V} (e:H a=some (.tup xs)):IE K H (.ref a) (.type "tuple")
 | dK {a:Addr} {kvs:List (Key×V)} (e:H a=some (.dK kvs)):IE K H (.ref a) (.type "dict")
 | dT {a:Addr} {kvs:List (List Key×V)} (e:H a=some (.dT kvs)):IE K H (.ref a) (.type "dict")
 | ins {a C dx:Addr} {fs:List (Str×V)} (e:H a=some (.ins C dx fs)) (cl:Cls K C) (ha:PySem.W.findIn K (.ref C) "__class__"=some (some (.builtin "object.__class__")))
   (hn:PySem.W.specialIn K (.builtin "object.__class__") "__get__"=some (some (.builtin "getset_descriptor.__get__"))) (htk:PySem.W.takesIn K (.builtin "object.__class__")=some true)
   (hm:PySem.W.mroIn K C (.type "object")=some true):IE K H (.ref a) (.ref C)
theorem Gi {x:V}{u t:Value}(I:Inv X pins σ H s)(rx:RelV x u)(ty:IE X.K H x t)(e:PySem.W.kitOne X.K t c=some b)(h:∀ tk,Q (.bool b) { s with toks:=tk }) :
  wpAny (model X.prog X.w) A (call (.builtin "isinstance") [u,c]) Q E s:=by
 cases ty with
 | non=>cases (show u=Value.none from rx);exact A4 PySem.W.kitx_none I.kIn True.intro e (λz=>nomatch z) h
 | bl y=>cases (show u=Value.bool y from rx);exact A4 PySem.W.kitx_bool I.kIn True.intro e (λz=>nomatch z) h
 | int i=>obtain ⟨t,q⟩:=(show ∃ t,u=Value.int i t from rx);cases q;exact A4 PySem.W.kitx_int I.kIn True.intro e (λz=>nomatch z) h
 | str y=>obtain ⟨t,q⟩:=(show ∃ t,u=Value.str y t from rx);cases q;exact A4 PySem.W.kitx_str I.kIn True.intro e (λz=>nomatch z) h
 | flt y=>obtain ⟨t,q⟩:=(show ∃ t,u=Value.float y t from rx);cases q;exact A4 PySem.W.kitx_float I.kIn True.intro e (λz=>nomatch z) h
 | @lst a xs ea =>
  cases (show u=Value.ref a from rx)
  obtain ⟨_,_,n,_,h1⟩:=(show ObjOk X.prog X.w H s.heap a (.lst xs) from I.hok a _ ea)
  exact A4 PySem.W.kitx_list I.kIn ⟨_,h1,rfl⟩ e (λz=>nomatch z) h
 | @frz a ob xs ea =>
  cases (show u=Value.ref a from rx)
  obtain ⟨_,_,_,n,_,h1⟩:=(show ObjOk X.prog X.w H s.heap a (.frz ob (.lst xs)) from I.hok a _ ea)
  exact A4 PySem.W.kitx_list I.kIn ⟨_,h1,rfl⟩ e (λz=>nomatch z) h
 | @tup a xs ea =>
  cases (show u=Value.ref a from rx)
  obtain ⟨_,_,_,p⟩:=(show ObjOk X.prog X.w H s.heap a (.tup xs) from I.hok a _ ea)
  obtain ⟨o,h1,h2,_⟩:=p
  exact A4 PySem.W.kitx_tuple I.kIn ⟨o,h1,h2⟩ e (λz=>nomatch z) h
 | @dK a kvs ea =>
  cases (show u=Value.ref a from rx)
  obtain ⟨_,_,vs,_,p⟩:=(show ObjOk X.prog X.w H s.heap a (.dK kvs) from I.hok a _ ea)
  obtain ⟨o,es,ep,h1,h2,_⟩:=p
  exact A4 PySem.W.kitx_dict I.kIn ⟨o,h1,h2.1⟩ e (λz=>nomatch z) h
 | @dT a kvs ea =>
  cases (show u=Value.ref a from rx)
  obtain ⟨_,_,xs,_,o,es,ep,h1,h2,_⟩:=(show ObjOk X.prog X.w H s.heap a (.dT kvs) from I.hok a _ ea)
  exact A4 PySem.W.kitx_dict I.kIn ⟨o,h1,h2.1⟩ e (λz=>nomatch z) h
 | @ins a C dx fs ea cl ha hn htk hm =>
  cases (show u=Value.ref a from rx)
  obtain ⟨mA,O,_⟩:=TH I.hok ea
  obtain ⟨od,J,_⟩:=O.look
  exact A4 (PySem.W.kitx_own (cl.get _) cl.hd ha hn htk hm) I.kIn J e (λz=>nomatch z) h
end
structure Room (k:Nat) (A:Around):Prop where
 hd:A.handled=none
 dp:A.depth+3*k+5<recursionLimit
 un:A.units+16*k+200<cLine
 gd:A.guards=some []
theorem Room.mono {j k:Nat}{A:Around}(r:Room k A)(h:j≤k):Room j A:=⟨r.hd,by have:=r.dp;ext,by have:=r.un;ext,r.gd⟩
theorem Room.deeper {k:Nat}{A:Around}(r:Room (k+1) A)(env:Env):Room k (A.deeper env):=
 ⟨r.hd,by have:=r.dp;show A.depth+1+3*k+5<_;ext,by have:=r.un;show A.units+3+16*k+200<_;ext,r.gd⟩
theorem Room.depth {k:Nat}{A:Around}(r:Room k A):A.depth<recursionLimit:=by have:=r.dp;ext
theorem Room.units {k:Nat}{A:Around}(r:Room k A):A.units+64<cLine:=by have:=r.un;ext
def ZJ:TA:=λ_ H Q=>Q [] H
def Y8 (ta:TE)(tr:TA):TA:=fun σ H Q=>ta σ H λx H1=>tr σ H1 λxs H2=>Q (x::xs) H2
section
variable {X:Cx} {e:Expr} {es:List Expr} {te:TE} {t:TA} {pos:Pos}
theorem N6:PA X [] ZJ:=λ_ _ _ _ H Q I h=>Calls.spliced_nil ⟨[],H,I,.nil,h⟩
theorem Jl (ha:PE X e te)(hr:PA X es t)(hs:starEach (e::es) X.env=(false,eval e X.env)::starEach es X.env:=by rfl):PA X (e::es) (Y8 te t):=by
 intro pos pins s σ H Q I h
 rw [hs]
 show wpAny _ _ (spliced ((false,eval e X.env)::backTo pos (starEach es X.env))) _ _ s
 refine Calls.spliced_cons (thn (ha pins s σ H _ I h) λu s1 ⟨x,H1,I1,r1,q1⟩=>?_)
 exact thn (hr pos pins s1 σ H1 _ I1 q1) λus s2 ⟨xs,H2,I2,r2,q2⟩=>⟨x::xs,H2,I2,.cons r1 r2,q2⟩
def Z3 (t:TA):TE:=fun σ H Q=>t σ H λxs H1=>xs.length≤sizeLine∧∀ p,H1 p=none->Q (.ref p) (upd H1 p (.tup xs))
def ZS (t:TA):TE:=fun σ H Q=>t σ H λxs H1=>xs.length≤sizeLine∧∀ p,H1 p=none->Q (.ref p) (upd H1 p (.lst xs))
theorem VV {x1}(h:PA X es t):PE X (.Tuple es x1 pos) (Z3 t):=by
 intro pins s σ H Q I hq
 refine wpAny_Tuple_spliced (thn (h pos pins s σ H _ I hq) λus s1 ⟨xs,H1,I1,r,z,q⟩=>⟨by rw [← r.length];exact z,?_⟩)
 have hf:H1 s1.heap.objs.size=none:=I1.hok.fresh (Aj _)
 refine ⟨.ref s1.heap.objs.size,upd H1 s1.heap.objs.size (.tup xs),I1.laid (t':=s1.toks) (λb u e=>Ad _ e) (Aj _) ?_,rfl,q _ hf⟩
 exact ⟨⟨z,⟨_,Ai _ rfl,rfl⟩⟩,us,r,⟨_,Ai _ rfl,rfl,_,rfl⟩⟩
theorem R4 (h:PA X es t):PE X (.List es pos) (ZS t):=by
 intro pins s σ H Q I hq
 refine wpAny_List_spliced (thn (h pos pins s σ H _ I hq) λus s1 ⟨xs,H1,I1,r,z,q⟩=>⟨by rw [← r.length];exact z,?_⟩)
 have hf:H1 s1.heap.objs.size=none:=I1.hok.fresh (Aj _)
 refine ⟨.ref s1.heap.objs.size,upd H1 s1.heap.objs.size (.lst xs),I1.laid (t':=s1.toks) (λb u e=>Ad _ e) (Aj _) ?_,rfl,q _ hf⟩
 exact ⟨z,us,0,r,Ai _ rfl⟩
end
abbrev Sp:=List V->Hp->VK->XK->Prop
abbrev CXT:=List Env->Hp->Shared->XK->Value->Shared->Prop
structure Ua (P:Program) (w:World) (K:PySem.W.Frag) (mg:Str->Option Value) (base:Heap) (A:Around) (outer:List Env) (s:Shared) (H:Hp):Prop where
 frames:A.frames=some outer
 mod:Mod K mg base
 bs:∀ b o,base.get? b=some o->s.heap.get? b=some o∧H b=none
 bsz:base.objs.size≤s.heap.objs.size
 funs:s.heap.FunFrames base outer
 frf:∀ b∈frs outer,H b=none
 hok:HOk P w H s.heap
 bare:AllBare s.gens
def CE (outer:List Env)(P:Program)(w:World)(H:Hp)(s:Shared)(Q:VK)(u:Value)(s':Shared):Prop:=
 ∃ v H',s'.os=s.os∧AllBare s'.gens∧Un (frs outer) [] H H' s.heap s'.heap∧HOk P w H' s'.heap∧RelV v u∧Q v H'
def CR (CX:CXT)(outer:List Env)(P:Program)(w:World)(H:Hp)(s:Shared)(Q:VK)(E:XK)(r:Result)(s':Shared):Prop:=
 match r with
 | .ok (.ret u)=>CE outer P w H s Q u s'
 | .ok _=>False
 | .error e=>CX outer H s E e s'
structure D4 (P:Program) (w:World) (K:PySem.W.Frag) (mg:Str->Option Value) (base:Heap) (CX:CXT) (k:Nat) (f:Addr) (fd:FuncData) (ps:List Str) (sp:Sp):Prop where
 len:∀ vs H Q E,sp vs H Q E->vs.length=ps.length
 run:∀ (A:Around) (outer:List Env) (s:Shared) (H:Hp) (args:Args) (us:List Value) (vs:List V) (Q:VK) (E:XK),Room k A->Ua P w K mg base A outer s H->BindsTo s fd args (ps.zip us)->Vals vs us->sp vs H Q E ->
  codeAny (model P w) A (.call (.ref f) args) (CR CX outer P w H s Q E) s
section
variable {X:Cx} {pins:List (Addr×Obj)} {σ:St} {H:Hp} {s s':Shared}
theorem Inv.env0 (I:Inv X pins σ H s):Ua X.prog X.w X.K X.mg X.base X.A X.stack s H:=
 ⟨I.ok.frames,I.ok.mod,I.bs,AN I.ok.bsz I.sz,I.stack,I.stkFree,I.hok,I.bare⟩
theorem Inv.after {Q:VK}{u:Value}(I:Inv X pins σ H s)(h:CE X.stack X.prog X.w H s Q u s'):EP X pins σ Q u s':=by
 obtain ⟨v,H',os,bare,un,hok,r,q⟩:=h
 obtain ⟨hh,g,d,t,os'⟩:=s'
 obtain rfl:os'=s.os:=os
 exact ⟨v,H',I.call (h':=hh) (g':=g) (d':=d) (t':=t) (ch:=[]) un hok bare (λb z=>absurd z (by simp)),r,q⟩
end
def YW (sp:Sp)(dvs:List V)(E:XK)(t:TA):TE:=fun σ H Q=>t σ H λvs H1=>sp (vs++dvs) H1 Q E
def Binds (K:PySem.W.Frag)(fd:FuncData)(ps:List Str)(ds:List Value):Prop:=
 ∀ (s:Shared) (us:List Value),K.In s.heap->(us++ds).length=ps.length->BindsTo s fd ⟨us,[]⟩ (ps.zip (us++ds))
theorem Binds.all {K:PySem.W.Frag}{fd:FuncData}{ps:List Str}(h:∀ us:List Value,us.length=ps.length->bindArgs fd ⟨us,[]⟩=pure (ps.zip us)):Binds K fd ps []:=λs us _ hl=>by
 rw [List.append_nil] at hl ⊢
 exact .of_eq (h us hl)
def Passes (CX:CXT)(X:Cx)(E:XK):Prop:=∀ (pins:List (Addr×Obj)) (σ:St) (H:Hp) (s:Shared) (e:Value) (s':Shared),Inv X pins σ H s->CX X.stack H s E e s'->X.xe e s'
section
variable {X:Cx} {CX:CXT} {k:Nat} {f C:Addr} {fd:FuncData} {ps:List Str} {sp:Sp} {dvs:List V} {ds:List Value} {E:XK} {x m:Str} {p pos apos:Pos} {e o:Expr} {es:List Expr} {ta:TE} {t:TA}
theorem WT {pins:List (Addr×Obj)}{σ:St}{H:Hp}{s:Shared}{Q:VK}{us:List Value}{vs:List V}(F:D4 X.prog X.w X.K X.mg X.base CX k f fd ps sp)(hr:Room k X.A)(hb:Binds X.K fd ps ds)(hd:Vals dvs ds)(hx:Passes CX X E)
  (I:Inv X pins σ H s) (r:Vals vs us) (h:sp (vs++dvs) H Q E):wpAny (model X.prog X.w) X.A (call (.ref f) us) (EP X pins σ Q) X.xe s:=by
 have r2:Vals (vs++dvs) (us++ds):=r.append hd
 have hl:(us++ds).length=ps.length:=by rw [← r2.length];exact F.len _ _ _ _ h
 refine wpAny_call (codeAny_mono (F.run X.A X.stack s H ⟨us,[]⟩ (us++ds) (vs++dvs) Q E hr I.env0 (hb s us I.kIn hl) r2 h) λr s' hq=>?_)
 cases r with
 | error e=>exact hx pins σ H s e s' I hq
 | ok fl =>
  cases fl with
  | ret u=>exact I.after hq
  | next=>exact False.elim hq
  | brk=>exact False.elim hq
  | cont=>exact False.elim hq
theorem T7 (F:D4 X.prog X.w X.K X.mg X.base CX k f fd ps sp)(hr:Room k X.A)(hg:Gl X x)(hm:X.mg x=some (.ref f))(hk:PySem.W.keepIn X.K (.ref f)=true)(hb:Binds X.K fd ps ds)(hd:Vals dvs ds)(hx:Passes CX X E)
  (ha:PA X (e::es) t) (hdb:(x==("__debug__":Str))=false:=by decide) (he:starEach (e::es) X.env=(false,eval e X.env)::starEach es X.env:=by rfl) (hpl:(backTo pos (starEach es X.env)).any (·.1)=false:=by rfl) :
  PE X (.Call (.Name x p) (e::es) [] pos) (YW sp dvs E t):=by
 intro pins s σ H Q I h
 refine wpAny_Call_Name_kw (OY I hg hm ?_ hdb)
 refine PySem.W.callWith_K (h₀:=X.base) I.ok.mod.kin hk (thn (ha pos pins s σ H _ I h) λus s1 ⟨vs,H1,I1,r,q⟩=>⟨I1.kIn,?_⟩) he hpl
 exact WT F hr hb hd hx I1 r q
end
structure CG (N P:List Str) (sc:Scope):Prop where
 kind:sc.kind=.function
 co:sc.isCoroutine=false
 gen:sc.isGenerator=false
 nd:N.Nodup
 pre:N.take P.length=P
 par:∀ x∈P,sc.names.lookup x=some .local∨sc.names.lookup x=some .cell
 nofree:∀ y∈sc.names,y.2≠.free
theorem KY {kindOf:Str->Option NameKind}{x:Str}:∀ {binds:List (Str×Value)} {m:Str->Option Value},(∀ v,(x,v)∉binds)->bindL kindOf binds m x=m x
 | [],_,_=>rfl
 | (n,v)::r,m,h=>by
  unfold bindL
  rw [KY λw hw=>h w (Bz _ hw)]
  split
  ·have:x≠n:=by rintro rfl;exact h v List.mem_cons_self
   simp [this]
  ·rfl
theorem Kk {kindOf:Str->Option NameKind}{x:Str}:∀ {binds:List (Str×Value)} {m:Str->Option Value},(∀ v,(x,v)∉binds)->bindC kindOf binds m x=m x
 | [],_,_=>rfl
 | (n,v)::r,m,h=>by
  unfold bindC
  rw [Kk λw hw=>h w (Bz _ hw)]
  split
  ·rfl
  ·have:x≠n:=by rintro rfl;exact h v List.mem_cons_self
   simp [this]
theorem Kt {kindOf:Str->Option NameKind}{x:Str}{v:Value}:∀ {P:List Str} {vs:List Value} {i:Nat} {m:Str->Option Value},P.Nodup->P[i]? = some x->vs[i]? = some v->kindOf x=some .local ->
  bindL kindOf (P.zip vs) m x=some v
 | [],_,_,_,_,h,_,_=>by simp at h
 | _::_,[],_,_,_,_,h,_=>by simp at h
 | p::P,w::vs,0,m,nd,h1,h2,hk=>by
  simp at h1 h2;subst h1;subst h2
  show bindL kindOf ((p,w)::P.zip vs) m p=_
  unfold bindL
  rw [KY λv hv=>(Bx.mp nd).1 (List.of_mem_zip hv).1,if_pos hk]
  simp
 | p::P,w::vs,i+1,m,nd,h1,h2,hk=>by
  show bindL kindOf ((p,w)::P.zip vs) m x=_
  unfold bindL
  exact Kt (i:=i) (Bx.mp nd).2 (by simpa using h1) (by simpa using h2) hk
theorem KJ {kindOf:Str->Option NameKind}{x:Str}{v:Value}:∀ {P:List Str} {vs:List Value} {i:Nat} {m:Str->Option Value},P.Nodup->P[i]? = some x->vs[i]? = some v->kindOf x≠some .local ->
  bindC kindOf (P.zip vs) m x=some v
 | [],_,_,_,_,h,_,_=>by simp at h
 | _::_,[],_,_,_,_,h,_=>by simp at h
 | p::P,w::vs,0,m,nd,h1,h2,hk=>by
  simp at h1 h2;subst h1;subst h2
  show bindC kindOf ((p,w)::P.zip vs) m p=_
  unfold bindC
  rw [Kk λv hv=>(Bx.mp nd).1 (List.of_mem_zip hv).1,if_neg hk]
  simp
 | p::P,w::vs,i+1,m,nd,h1,h2,hk=>by
  show bindC kindOf ((p,w)::P.zip vs) m x=_
  unfold bindC
  exact KJ (i:=i) (Bx.mp nd).2 (by simpa using h1) (by simpa using h2) hk
noncomputable def start (N:List Str)(vs:List V):St:=vs.map some++List.replicate (N.length-vs.length) none
noncomputable def Ka (CX:CXT)(P:Program)(w:World)(K:PySem.W.Frag)(mg:Str->Option Value)(base:Heap)(N:List Str)(qual:Str)(scope:Scope)(f:Addr)(cd:Value)(A:Around)(outer:List Env)(s:Shared)(H:Hp)(E:XK):Cx where
 prog:=P
 w:=w
 K:=K
 mg:=mg
 base:=base
 A:=A.deeper (envOfC qual scope s.heap.objs.size f cd)
 N:=N
 s₀:=s
 H₀:=H
 env:=envOfC qual scope s.heap.objs.size f cd
 outer:=outer
 stack:=envOfC qual scope s.heap.objs.size f cd::outer
 ex:=[]
 calm:=true
 fn:=λ_=>true
 pn:=[]
 xe:=λe s'=>wpAny (model P w) (A.deeper (envOfC qual scope s.heap.objs.size f cd)) (leaving (envOfC qual scope s.heap.objs.size f cd) e) (λ_ s''=>CX outer H s E e s'') (λe' s''=>CX outer H s E e' s'') s'
theorem ME {sc:Scope}{n:Nat}{x:Str}(h:sc.names.lookup x=some .cell):∃ c,(cellsFrom n sc.names []).lookup x=some c:=by
 have q:=PySem.W.cellsFrom_some sc.names n [] (.inl h)
 exact Option.isSome_iff_exists.mp q
theorem Qt {CX:CXT}{P:Program}{w:World}{K:PySem.W.Frag}{mg:Str->Option Value}{base:Heap}{N ps:List Str}{qual:Str}{scope:Scope}{f:Addr}{cd:Value}{A:Around}{outer:List Env}{s s1:Shared}{H:Hp}{E:XK}{us:List Value}{vs:List V}
  (S:CG N ps scope) (hd:A.handled=none) (e0:Ua P w K mg base A outer s H) (hl:vs.length=ps.length) (r:Vals vs us)
  (x:InCallC s s.heap.objs.size (bindL (envOfC qual scope s.heap.objs.size f cd).kindOf (ps.zip us) λ_=>none) (cellsFrom (s.heap.objs.size+1) scope.names []) (bindC (envOfC qual scope s.heap.objs.size f cd).kindOf (ps.zip us) λ_=>none) s1) :
  Inv (Ka CX P w K mg base N qual scope f cd A outer s H E) [] (start N vs) H s1:=by
 have hpl:ps.length≤N.length:=by have:=congrArg List.length S.pre;rw [AZ] at this;ext
 obtain ⟨h1,tk,rfl,hk⟩:=x.done
 have noA:∀ b:Addr,b∉(Ka CX P w K mg base N qual scope f cd A outer s H E).ex:=λb z=>absurd (show b∈([]:List Addr) from z) (by simp)
 refine ⟨⟨e0.mod,S.kind,rfl,rfl,Aj _,λy z c h1 h2=>?_,λy hy=>?_,λy c _ h=>?_,λ_=>hd,Around.frames_deeper e0.frames,.inr ⟨rfl,rfl⟩,λb z=>absurd z (noA b),e0.bs,e0.bsz,λb _ _=>noA b,λb z=>absurd z (noA b),e0.funs,e0.frf⟩,
  rfl,e0.bare,Un.kept hk,⟨_,x.toInCall.ns,λi y v h1 h2 h3=>?_⟩,λy c h=>⟨_,x.cell y c h⟩,e0.hok.fresh (Aj _),λy c h=>?_,λp hp=>absurd (show p∈([]:List (Addr×Obj)) from hp) (by simp),e0.hok.kept hk,?_⟩
 ·exact name_of_addr x.apart (BN h1) (BN h2)
 ·have hy:scope.names.lookup y=some .cell∨scope.names.lookup y=some .free:=hy
  rcases hy with hy|hy
  ·exact ME hy
  ·exact absurd rfl (S.nofree _ (BN hy))
 ·exact Nat.le_of_lt (x.above y c (BN h))
 ·have hi:i<vs.length:=by
   unfold start at h2
   by_cases hi:i<vs.length
   ·exact hi
   ·rw [Bt (by simpa using hi)] at h2
    rw [BK] at h2
    split at h2<;>cases h2
  have ha:vs[i]? = some v:=by
   unfold start at h2
   rw [Av (by simpa using hi),Ap] at h2
   cases e:vs[i]? with
   | none=>rw [e] at h2;cases h2
   | some a=>rw [e] at h2;cases h2;rfl
  obtain ⟨u,hu,rv⟩:=r.get ha
  have hp:ps[i]? = some y:=by
   rw [← S.pre,Bp (by ext)];exact h1
  have ndP:ps.Nodup:=by rw [← S.pre];exact S.nd.sublist (List.take_sublist _ _)
  refine ⟨u,rv,?_⟩
  rcases S.par y (Al hp) with k|k
  ·exact .inl ⟨k,Kt ndP hp hu k⟩
  ·obtain ⟨c,e⟩:=ME (n:=s.heap.objs.size+1) k
   refine .inr ⟨.inl k,c,e,?_⟩
   have q:=x.cell y c e
   rw [KJ ndP hp hu (by show scope.names.lookup y≠_;rw [k];decide)] at q
   exact q
 ·exact e0.hok.fresh (Nat.le_of_lt (x.above y c (BN h)))
 ·unfold start
  show _=N.length
  rw [Ag,Ac,List.length_replicate]
  ext
theorem Yv {CX:CXT}{P:Program}{w:World}{K:PySem.W.Frag}{mg:Str->Option Value}{base:Heap}{k:Nat}{f:Addr}{name qual:Str}{params:Arguments}{body:List Stmt}{scope:Scope}{dV kV doc pm cdv ct oc:Value}{an od:Option Addr}
  {osl:Array (Option Value)} {N ps:List Str} {sp:Sp} (lk:K.lookup f=some ⟨oc,od,.func (PySem.W.fnOf name qual params body scope dV kV doc pm an cdv ct),osl⟩) (hcd:PySem.W.codeIn K cdv qual=true) (S:CG N ps scope)
  (len:∀ vs H Q E,sp vs H Q E->vs.length=ps.length)
  (hbody:∀ (A:Around) (outer:List Env) (s:Shared) (H:Hp) (vs:List V) (Q:VK) (E:XK),Room k (A.deeper (envOfC qual scope s.heap.objs.size f cdv))->sp vs H Q E ->
   ∃ t,PSs (Ka CX P w K mg base N qual scope f cdv A outer s H E) body t∧t { nx:=λ_ H'=>Q .non H',rt:=Q } (start N vs) H) :
  D4 P w K mg base CX (k+1) f (PySem.W.fnOf name qual params body scope dV kV doc pm an cdv ct) ps sp:=by
 refine ⟨len,λA outer s H args us vs Q E hr e0 hb r hsp=>?_⟩
 have hl:=len _ _ _ _ hsp
 have KX:K.In s.heap:=e0.mod.kin.keeps λb o e=>(e0.bs b o e).1
 have lim:s.heap.NoLimit:=e0.mod.nolimit.keeps λb o e=>(e0.bs b o e).1
 have hkind:∀ y∈ps.zip us,scope.names.lookup y.1=some .local∨(scope.names.lookup y.1=some .cell∧((cellsFrom (s.heap.objs.size+1) scope.names []).lookup y.1).isSome=true):=λ⟨n,v⟩ hy=>by
  rcases S.par n (List.of_mem_zip hy).1 with q|q
  ·exact .inl q
  ·exact .inr ⟨q,PySem.W.cellsFrom_some _ _ _ (.inl q)⟩
 refine codeAny_call_function hr.depth (KX _ _ lk) rfl S.co S.gen rfl (PySem.W.codeRec_of KX hcd) (hb _ _ _ _ ?_)
 refine wpAny_newFunctionEnv_cells S.kind hkind λenv he s1 x=>?_
 subst he
 refine ⟨lim.keeps x.toInCall.keep,codeAny_func ?_⟩
 obtain ⟨t,ht,hq⟩:=hbody A outer s H vs Q E (hr.deeper _) hsp
 have I:Inv (Ka CX P w K mg base N qual scope f cdv A outer s H E) [] (start N vs) H s1:=Qt S hr.hd e0 hl r x
 refine wpAny_mono (ht [] s1 (start N vs) H _ I hq) (λfl s' hs=>?_) λe s' hs=>hs
 have fin:∀ {σ':St} {H':Hp} {v:V} {u:Value},Inv (Ka CX P w K mg base N qual scope f cdv A outer s H E) [] σ' H' s'->RelV v u->Q v H'->CE outer P w H s Q u s':=
  λ{σ' H' v u} J rv q=>⟨v,H',J.os,J.bare,J.base,J.hok,rv,q⟩
 cases fl with
 | ret u =>
  obtain ⟨v,σ',H',J,rv,q⟩:=hs
  exact fin J rv q
 | next =>
  obtain ⟨σ',H',J,q⟩:=hs
  exact fin (v:=V.non) (u:=Value.none) J rfl q
 | brk =>
  obtain ⟨_,_,_,q⟩:=hs
  exact False.elim q
 | cont =>
  obtain ⟨_,_,_,q⟩:=hs
  exact False.elim q
section
variable {X:Cx} {x:Str} {p pos:Pos} {e:Expr} {es:List Expr} {t:TA} {id T:String} {r:List V->Hp->VK->Prop}
def tCB (r:List V->Hp->VK->Prop)(t:TA):TE:=fun σ H Q=>t σ H λvs H1=>r vs H1 Q
theorem Jv (hc:Fx X (.builtin id) r)(hg:Gl X x)(hm:X.mg x=none)(hv:bootBuiltins x=some (.builtin id))(ha:PA X (e::es) t)(hn:x≠"__name__":=by decide)(hdb:(x==("__debug__":Str))=false:=by decide)
  (he:starEach (e::es) X.env=(false,eval e X.env)::starEach es X.env:=by rfl) (hpl:(backTo pos (starEach es X.env)).any (·.1)=false:=by rfl):PE X (.Call (.Name x p) (e::es) [] pos) (tCB r t):=by
 intro pins s σ H Q I h
 refine wpAny_Call_Name_kw (HI I hg hm hv ?_ hn hdb)
 exact PyProof.Rows.callWith_builtin1 (thn (ha pos pins s σ H _ I h) λus s1 ⟨vs,H1,I1,r1,q1⟩=>hc pins s1 σ H1 vs us Q I1 r1 q1) he hpl
theorem Qu (hc:Fx X (.type T) r)(hg:Gl X x)(hm:X.mg x=none)(hv:bootBuiltins x=some (.type T))(ha:PA X (e::es) t)(hn:x≠"__name__":=by decide)(hdb:(x==("__debug__":Str))=false:=by decide)
  (he:starEach (e::es) X.env=(false,eval e X.env)::starEach es X.env:=by rfl) (hpl:(backTo pos (starEach es X.env)).any (·.1)=false:=by rfl):PE X (.Call (.Name x p) (e::es) [] pos) (tCB r t):=by
 intro pins s σ H Q I h
 refine wpAny_Call_Name_kw (HI I hg hm hv ?_ hn hdb)
 exact BB (thn (ha pos pins s σ H _ I h) λus s1 ⟨vs,H1,I1,r1,q1⟩=>hc pins s1 σ H1 vs us Q I1 r1 q1) he hpl
end
end L2
namespace HT
open PySem PyProof.Rows
section
open PySem.SeqAt
open PySem.AutoSeq1 (wpAny_loadPart')
open PySem.MeetsSeq PySem.MeetsSeq2 PySem.MeetsSeq3
end
section
variable {prog:Program} {w:World} {A:Around} {E:Value->Shared->Prop} {s:Shared}
theorem UJ {t b:Addr}{vs ws:List Value}{Q:Value->Shared->Prop}(ht:IsTup s.heap t vs.toArray)(hb:IsTup s.heap b ws.toArray)(hv:vs≠[])
  (h1:ws=[]->Q (.ref t) s) (h2:ws≠[]->Q (.ref s.heap.objs.size) { s with heap:=s.heap.push { cls:=.type "tuple",data:=.seq (vs++ws).toArray } })
  (hsz:vs.length+ws.length≤sizeLine):wpAny (model prog w) A (binaryOp .Add (.ref t) (.ref b)) Q E s:=by
 obtain ⟨⟨cls,dd,data,sl⟩,ho,hc,n,hd⟩:=id ht
 obtain ⟨⟨cls2,dd2,data2,sl2⟩,ho2,hc2,n2,hd2⟩:=id hb
 simp only at hc hd hc2 hd2
 subst hc hd hc2 hd2
 have e:vs.toArray++ws.toArray=(vs++ws).toArray:=by simp
 by_cases hw:ws=[]
 ·exact concat_meets ⟨_,ho,rfl⟩ ⟨_,ho2,rfl⟩ noFill_tuple_add seq_tuple_add PySem.F.slot_tuple_add PySem.F.entry_tuple_add (PySem.F.args_tuple_add_2 _ _)
   (tuple_addW1 t b vs.toArray ws.toArray n n2 dd dd2 sl sl2 (by simpa using hv) (by simp [hw])) ⟨ho,ho2,h1 hw⟩
 ·refine concat_meets ⟨_,ho,rfl⟩ ⟨_,ho2,rfl⟩ noFill_tuple_add seq_tuple_add PySem.F.slot_tuple_add PySem.F.entry_tuple_add (PySem.F.args_tuple_add_2 _ _)
   (tuple_addW2 t b vs.toArray ws.toArray n n2 dd dd2 sl sl2 (by simpa using hv) (by simpa using hw) (by rw [Aq,Aq];exact hsz)) ⟨ho,ho2,?_⟩
  rw [e]
  exact h2 hw
noncomputable def sIx (n d:Nat):Option Int->Nat
 | none=>d
 | some v=>if v<0 then (v+(n:Int)).toNat else min v.toNat n
theorem JE (n d:Nat):sIx n d none=d:=rfl
theorem HQ (n d k:Nat):sIx n d (some (k:Int))=min k n:=by
 show (if (k:Int)<0 then ((k:Int)+(n:Int)).toNat else min (k:Int).toNat n)=min k n
 rw [if_neg (by ext),Int.toNat_natCast]
theorem WN (n d:Nat)(hd:d≤n)(o:Option Int):sIx n d o≤n:=by
 cases o with
 | none=>exact hd
 | some v =>
  show (if v<0 then (v+(n:Int)).toNat else min v.toNat n)≤n
  by_cases hv:v<0
  ·rw [if_pos hv];ext
  ·rw [if_neg hv];exact Nat.min_le_right _ _
theorem Oz (v:Int)(n d:Nat):(if v<0 then max (v+(n:Int)) 0 else min v (n:Int))=((sIx n d (some v):Nat):Int):=by
 show (if v<0 then max (v+(n:Int)) 0 else min v (n:Int))=(((if v<0 then (v+(n:Int)).toNat else min v.toNat n):Nat):Int)
 by_cases hv:v<0
 ·simp only [if_pos hv];ext
 ·simp only [if_neg hv];ext
theorem Oc (lo hi:Option Int)(n:Nat):Builtin.Slice.sliceAdjust lo hi 1 (n:Int)=(((sIx n 0 lo:Nat):Int),((sIx n n hi:Nat):Int)):=by
 have h1:¬ ((1:Int)<0):=by ext
 unfold Builtin.Slice.sliceAdjust
 simp only [h1,Bu]
 refine Prod.ext ?_ ?_
 ·cases lo with
  | none=>rfl
  | some v=>exact Oz v n 0
 ·cases hi with
  | none=>rfl
  | some v=>exact Oz v n n
theorem NZ (i j:Nat):Builtin.Slice.slicePlaces (i:Int) (j:Int) 1=j-i:=by
 unfold Builtin.Slice.slicePlaces
 have h1:(1:Int) > 0:=by ext
 simp only [h1,if_true,Int.ediv_one]
 split<;>ext
theorem JC {v:Value}{o:Option Int}{Q:Option Int->Shared->Prop}(p:IsPart v o)(h:Q o s):wpAny (model prog w) A (Builtin.Slice.slicePartIndex v) Q E s:=by
 cases p with
 | none=>exact slicePart_none h
 | int i t=>exact slicePart_int h
theorem Ge {sl:Addr}{vl vu:Value}{lo hi:Option Int}{n:Nat}{Q:Int×Int×Nat->Shared->Prop}(hs:s.heap.IsSliceOf sl vl vu .none)(pl:IsPart vl lo)(pu:IsPart vu hi)
  (h:Q (((sIx n 0 lo:Nat):Int),1,sIx n n hi-sIx n 0 lo) s):wpAny (model prog w) A (Builtin.Slice.sliceApplied (.ref sl) (pure (n:Int))) Q E s:=by
 obtain ⟨os,hos,hcs,hds⟩:=id hs
 unfold Builtin.Slice.sliceApplied Builtin.Slice.sliceFields
 refine Aa (Aa (Bv hos hds (x:=vl) rfl (Aa (Bv hos hds (x:=vu) rfl (Aa (Bv hos hds (x:=.none) rfl (Ab ?_)))))))
 refine Aa (slicePart_none ?_)
 show wpAny _ _ (if ((1:Int)==0)=true then _ else _) _ _ s
 rw [if_neg (by decide)]
 refine Aa (JC pl (Aa (JC pu (Aa (Ab ?_)))))
 show wpAny _ _ (match Builtin.Slice.sliceAdjust lo hi 1 (n:Int) with|(lo,hi)=>pure (lo,(1:Int),Builtin.Slice.slicePlaces lo hi 1)) _ _ s
 rw [Oc lo hi n]
 show wpAny _ _ (pure (((sIx n 0 lo:Nat):Int),(1:Int),Builtin.Slice.slicePlaces ((sIx n 0 lo:Nat):Int) ((sIx n n hi:Nat):Int) 1)) _ _ s
 rw [NZ]
 exact Ab h
theorem Si (xs:Array Value)(i k:Nat):((List.range k).filterMap λ(m:Nat)=>xs[((i:Int)+(m:Int)*1).toNat]?).toArray=((xs.toList.drop i).take k).toArray:=by
 have e:(λ(m:Nat)=>xs[((i:Int)+(m:Int)*1).toNat]?)=λm=>xs[i+m]?:=by
  funext m
  have:((i:Int)+(m:Int)*1).toNat=i+m:=by ext
  rw [this]
 rw [e]
 have:=pick_run xs i k
 rw [List.filterMap_map] at this
 have e2:((λx=>xs[x]?)∘λx=>i+x)=λm=>xs[i+m]?:=rfl
 rw [e2] at this
 rw [this]
theorem Ii {t sl:Addr}{items:Array Value}{vl vu:Value}{lo hi:Option Int}{Q:Value->Shared->Prop}(ht:IsTup s.heap t items)(hs:s.heap.IsSliceOf sl vl vu .none)(pl:IsPart vl lo)(pu:IsPart vu hi)
  (hw:¬ (sIx items.size 0 lo=0∧sIx items.size items.size hi=items.size))
  (h:Q (.ref s.heap.objs.size) { s with heap:=s.heap.push { cls:=.type "tuple",data:=.seq ((items.toList.drop (sIx items.size 0 lo)).take (sIx items.size items.size hi-sIx items.size 0 lo)).toArray } })
  (hsz:items.size≤sizeLine):wpAny (model prog w) A (getItem (.ref t) (.ref sl)) Q E s:=by
 have htake:sizeOk (.seq ((items.toList.drop (sIx items.size 0 lo)).take (sIx items.size items.size hi-sIx items.size 0 lo)).toArray):=by
  show ((items.toList.drop (sIx items.size 0 lo)).take (sIx items.size items.size hi-sIx items.size 0 lo)).toArray.size≤sizeLine
  rw [Aq,AZ,BR,Array.length_toList]
  ext
 have hj:sIx items.size items.size hi≤items.size:=WN _ _ (Aj _) hi
 obtain ⟨os,hos,hcs,hds⟩:=id hs
 have hTs:s.TypeIs (.ref sl) "slice":=⟨os,hos,hcs⟩
 unfold getItem
 try with_reducible refine AH ?_
 first|refine Aa (Ab ?_)|skip
 refine Aa (wpAny_sequenceKey ht.typeIs (by decide) ?_)
 refine Aa (AK (name:=Str.ofString "__getitem__") ht.typeIs Be
  (AG Be ht.typeIs entry_tuple_getitem ?_ (args_tuple_getitem _ _)))
 show wpAny _ _ (Builtin.Tuple.tupleItemsOf (.ref t) >>= _) _ _ s
 refine Aa (tupleItemsOf_ ht ?_)
 refine Aa (Br hTs ?_)
 rw [if_pos (by decide)]
 refine Aa (Ge hs pl pu ?_)
 have hno:¬ ((((sIx items.size 0 lo:Nat):Int)==0&&(1:Int)==1&&(sIx items.size items.size hi-sIx items.size 0 lo)==items.size)=true):=by
  intro q
  rw [Ae,Ae] at q
  have q1:((sIx items.size 0 lo:Nat):Int)=0:=eq_of_beq q.1.1
  have q2:sIx items.size items.size hi-sIx items.size 0 lo=items.size:=eq_of_beq q.2
  exact hw ⟨by ext,by ext⟩
 show wpAny _ _ (if (((sIx items.size 0 lo:Nat):Int)==0&&(1:Int)==1&&(sIx items.size items.size hi-sIx items.size 0 lo)==items.size)=true then _ else _) _ _ s
 rw [if_neg hno,Si]
 first
  | exact Aa (m:=Builtin.Tuple.tupleExact _) (AU (Ab ⟨_,rfl,Ab h⟩) htake)
  | exact Aa (m:=Builtin.Tuple.tupleExact _) (AU (Aa (Ab (Ab ⟨_,rfl,Ab h⟩))) htake)
  | exact Aa (Aa (m:=Builtin.Tuple.tupleExact _) (AU (Ab (Ab ⟨_,rfl,Ab h⟩)) htake))
  | exact Aa (Aa (m:=Builtin.Tuple.tupleExact _) (AU (Ab ⟨_,rfl,Ab h⟩) htake))
end
end HT
namespace L2
open PySem PySem.Spec PyProof.Rows
abbrev TO:=St->Hp->(Option Int->Hp->Prop)->Prop
def PO (X:Cx)(e:Option Expr)(t:TO):Prop:=
 ∀ (pins:List (Addr×Obj)) (s:Shared) (σ:St) (H:Hp) (Q:Option Int->Hp->Prop),Inv X pins σ H s->t σ H Q ->
  wpAny (model X.prog X.w) X.A (evalPart e X.env) (λu s'=>∃ o H',Inv X pins σ H' s'∧IsPart u o∧Q o H') X.xe s
def U2:TO:=λ_ H Q=>Q none H
def Yz (t:TE):TO:=fun σ H Q=>t σ H λx H1=>∃ i,x=.int i∧Q (some i) H1
section
variable {X:Cx} {e:Expr} {te:TE} {lo hi:Option Expr} {tl th:TO} {pos p2:Pos}
theorem UY:PO X none U2:=by
 intro pins s σ H Q I h
 rw [evalPart_none]
 exact Ab ⟨none,H,I,.none,h⟩
theorem U1 (h:PE X e te):PO X (some e) (Yz te):=by
 intro pins s σ H Q I hw
 rw [evalPart_some]
 refine thn (h pins s σ H _ I hw) λu s1 ⟨x,H1,I1,r1,q1⟩=>?_
 obtain ⟨i,rfl,q⟩:=q1
 obtain ⟨t,rfl⟩:=r1
 exact ⟨some i,H1,I1,.int i t,q⟩
def SlR (X:Cx)(r:V->Option Int->Option Int->Hp->VK->Prop):Prop:=
 ∀ (pins:List (Addr×Obj)) (s:Shared) (σ:St) (H:Hp) (x:V) (v vl vu:Value) (lo hi:Option Int) (sl:Addr) (Q:VK),Inv X pins σ H s->RelV x v->s.heap.IsSliceOf sl vl vu .none->IsPart vl lo->IsPart vu hi->r x lo hi H Q ->
  ∃ T id,typeLookup (.type T) "__getitem__"=pure (some (.builtin id))∧s.TypeIs v T∧wpAny (model X.prog X.w) X.A (getItem v (.ref sl)) (EP X pins σ Q) X.xe s
def tSl (r:V->Option Int->Option Int->Hp->VK->Prop)(te:TE)(tl th:TO):TE:=fun σ H Q=>te σ H λx H1=>tl σ H1 λl H2=>th σ H2 λu H3=>r x l u H3 Q
theorem SN {r:V->Option Int->Option Int->Hp->VK->Prop}(hr:SlR X r)(he:PE X e te)(hl:PO X lo tl)(hu:PO X hi th):PE X (.Subscript e (.Slice lo hi none p2) pos) (tSl r te tl th):=by
 intro pins s σ H Q I h
 refine Subscript_ (thn (he pins s σ H _ I h) λv s1 ⟨x,H1,I1,r1,q1⟩=>?_)
 refine wpAny_Slice (thn (hl pins s1 σ H1 _ I1 q1) λvl s2 ⟨l,H2,I2,pl,q2⟩=>thn (hu pins s2 σ H2 _ I2 q2) λvu s3 ⟨u,H3,I3,pu,q3⟩=>?_)
 rw [evalPart_none]
 refine Ab ?_
 have I4:Inv X pins σ H3 { s3 with heap:=s3.heap.push { cls:=.type "slice",data:=.fields #[vl,vu,.none] } }:=I3.kept (t':=s3.toks) λb ob q=>Ad _ q
 obtain ⟨T,id,hT,ht,hg⟩:=hr pins { s3 with heap:=s3.heap.push { cls:=.type "slice",data:=.fields #[vl,vu,.none] } } σ H3 x v vl vu l u s3.heap.objs.size Q I4 r1 (Heap.IsSliceOf.new ..) pl pu q3
 show wpAny (model X.prog X.w) X.A (subscriptTail e (.Slice lo hi none p2) v (.ref s3.heap.objs.size)) (EP X pins σ Q) X.xe { s3 with heap:=s3.heap.push { cls:=.type "slice",data:=.fields #[vl,vu,.none] } }
 exact tail_any (ops:=[.ref s3.heap.objs.size,v]) ht hT hg (by with_unfolding_all rfl)
def Mn (xs:List V)(lo hi:Option Int):List V:=(xs.drop (HT.sIx xs.length 0 lo)).take (HT.sIx xs.length xs.length hi-HT.sIx xs.length 0 lo)
theorem IV (xs:List V)(lo hi:Option Int):(Mn xs lo hi).length≤xs.length:=by
 unfold Mn
 rw [AZ,BR]
 ext
def ZD (K:PySem.W.Frag):V->Option Int->Option Int->Hp->VK->Prop:=λx lo hi H Q=>∃ a xs,x=.ref a∧SqT K H a xs ∧
 ¬ (HT.sIx xs.length 0 lo=0∧HT.sIx xs.length xs.length hi=xs.length)∧∀ p,H p=none->Q (.ref p) (upd H p (.tup (Mn xs lo hi)))
theorem WE:SlR X (ZD X.K):=by
 intro pins s σ H x v vl vu lo hi sl Q I rx hs pl pu h
 obtain ⟨a,xs,rfl,hx,hw,q⟩:=h
 cases rx
 obtain ⟨its,r,ht,hz⟩:=I.tuple hx
 have hlen:its.toArray.size=xs.length:=by rw [Aq];exact r.length.symm
 refine ⟨"tuple",_,Be.lookup,ht.typeIs,?_⟩
 refine HT.Ii ht hs pl pu (by rw [hlen];exact hw) ?_ (by rw [hlen];exact hz)
 rw [hlen]
 refine ⟨.ref s.heap.objs.size,_,I.laid (t':=s.toks) (o:=.tup (Mn xs lo hi)) (λb ob q=>Ad _ q) (Aj _) ?_,rfl,q _ (I.hok.fresh (Aj _))⟩
 exact ⟨⟨AN (IV xs lo hi) hz,⟨_,Ai _ rfl,rfl⟩⟩,_,(r.drop (HT.sIx xs.length 0 lo)).take (HT.sIx xs.length xs.length hi-HT.sIx xs.length 0 lo),IsTup.new _ _⟩
def YG (K:PySem.W.Frag):R2:=λx y H Q=>∃ a b xs ys,x=.ref a∧y=.ref b∧SqT K H a xs∧SqT K H b ys∧xs≠[]∧xs.length+ys.length≤sizeLine ∧
 (ys=[]->Q (.ref a) H)∧(ys≠[]->∀ p,H p=none->Q (.ref p) (upd H p (.tup (xs++ys))))
theorem Vals.nil_iff {xs:List V}{us:List Value}(r:Vals xs us):us=[] ↔ xs=[]:=by
 cases r with
 | nil=>simp
 | cons _ _=>simp
theorem TC:OpR X (binaryOp .Add) (YG X.K):=by
 intro pins s σ H x y v u Q I rx ry h
 obtain ⟨a,b,xs,ys,rfl,rfl,ha,hb,hx,hz,q1,q2⟩:=h
 cases rx
 cases ry
 obtain ⟨its,r1,p1,_⟩:=I.tuple ha
 obtain ⟨its2,r2,p2,_⟩:=I.tuple hb
 refine HT.UJ p1 p2 (λz=>hx (r1.nil_iff.mp z)) (λz=>⟨.ref a,H,I,rfl,q1 (r2.nil_iff.mp z)⟩) (λz=>?_) (by rw [← r1.length,← r2.length];exact hz)
 refine ⟨.ref s.heap.objs.size,_,I.laid (t':=s.toks) (o:=.tup (xs++ys)) (λb ob q=>Ad _ q) (Aj _) ?_,rfl,q2 (λw=>z (r2.nil_iff.mpr w)) _ (I.hok.fresh (Aj _))⟩
 exact ⟨⟨by rw [Ag];exact hz,⟨_,Ai _ rfl,rfl⟩⟩,_,r1.append r2,IsTup.new _ _⟩
end
noncomputable def ixN (n:Nat)(i:Int):Option Nat:=if 0≤i then (if i<n then some i.toNat else none) else if -(n:Int)≤i then some (i+n).toNat else none
def atI {α:Type}(xs:List α)(i:Int):Option α:=(ixN xs.length i).bind λj=>xs[j]?
theorem Oy {n:Nat}{i:Int}{j:Nat}(h:ixN n i=some j):seqIndex? i n=some j∧j<n∧-(n:Int)≤i∧i<n:=by
 unfold ixN at h
 by_cases h0:0≤i
 ·rw [if_pos h0] at h
  by_cases h1:i<n
  ·rw [if_pos h1] at h
   have e:i.toNat=j:=AI h
   exact ⟨by rw [seqIndex_of h0 h1,e],by ext,by ext,h1⟩
  ·rw [if_neg h1] at h;cases h
 ·rw [if_neg h0] at h
  by_cases h1:-(n:Int)≤i
  ·rw [if_pos h1] at h
   have e:(i+n).toNat=j:=AI h
   exact ⟨by rw [seqIndex_neg (by ext) h1,e],by ext,h1,by ext⟩
  ·rw [if_neg h1] at h;cases h
theorem Jr {α:Type}{xs:List α}{i:Int}{v:α}(h:atI xs i=some v):∃ j,seqIndex? i xs.length=some j∧xs[j]? = some v∧j<xs.length∧-(xs.length:Int)≤i∧i<xs.length:=by
 unfold atI at h
 cases e:ixN xs.length i with
 | none=>rw [e] at h;cases h
 | some j =>
  rw [e] at h
  obtain ⟨h1,h2,h3,h4⟩:=Oy e
  exact ⟨j,h1,h,h2,h3,h4⟩
def Lv (b:Expr):Prop:=∀ o i,subscripted b false o i=operate [o,i] (getItem o i)
def IxR (X:Cx)(r:R2):Prop:=
 ∀ (value slice:Expr) (pins:List (Addr×Obj)) (s:Shared) (σ:St) (H:Hp) (x y:V) (v u:Value) (Q:VK),Inv X pins σ H s->RelV x v->RelV y u->r x y H Q ->
  subscripted slice false v u=operate [v,u] (getItem v u)->wpAny (model X.prog X.w) X.A (subscriptTail value slice v u) (EP X pins σ Q) X.xe s
def MtR (X:Cx)(id:String)(r:V->List V->Hp->VK->Prop):Prop:=
 ∀ (pins:List (Addr×Obj)) (s:Shared) (σ:St) (H:Hp) (x:V) (xs:List V) (v:Value) (us:List Value) (Q:VK),Inv X pins σ H s->RelV x v->Vals xs us->r x xs H Q ->
  wpAny (model X.prog X.w) X.A (call (.builtin id) (v::us)) (EP X pins σ Q) X.xe s
section
variable {X:Cx} {a b:Expr} {ta tb:TE} {pos:Pos}
theorem IxR.or {r r':R2}(h:IxR X r)(h':IxR X r'):IxR X (λx y H Q=>r x y H Q∨r' x y H Q):=by
 intro value slice pins s σ H x y v u Q I rx ry q hs
 rcases q with q|q
 ·exact h value slice pins s σ H x y v u Q I rx ry q hs
 ·exact h' value slice pins s σ H x y v u Q I rx ry q hs
theorem Vj {r:R2}(hr:IxR X r)(ha:PE X a ta)(hb:PE X b tb)(hs:Lv b):PE X (.Subscript a b pos) (tOp r ta tb):=by
 intro pins s σ H Q I h
 exact Subscript_ (WG ha hb I h λv u s2 x y H2 I2 rx ry q=>hr a b pins s2 σ H2 x y v u Q I2 rx ry q (hs _ _))
def V9 (K:PySem.W.Frag):R2:=λx y H Q=>∃ p xs i v,x=.ref p∧y=.int i∧SqL K H p xs∧atI xs i=some v∧Q v H
def Ya (K:PySem.W.Frag):R2:=λx y H Q=>∃ p xs i v,x=.ref p∧y=.int i∧SqT K H p xs∧atI xs i=some v∧Q v H
def Zh:R2:=λx y H Q=>∃ z i c,x=.str z∧y=.int i∧z.length≤sizeLine∧atI z.cps.toList i=some c∧Q (.str ⟨#[c]⟩) H
theorem TU:IxR X (V9 X.K):=by
 intro value slice pins s σ H x y v u Q I rx ry h hs
 obtain ⟨p,xs,i,z,rfl,rfl,hq,he,q⟩:=h
 cases rx
 obtain ⟨t,rfl⟩:=ry
 obtain ⟨its,r,pl,hz⟩:=I.list hq
 obtain ⟨j,h1,h2,h3,h4,h5⟩:=Jr he
 obtain ⟨w,ew,rw'⟩:=r.get h2
 have hl:=r.length
 have hn:=II
 have fin:EP X pins σ Q w s:=⟨z,H,I,rw',q⟩
 by_cases h0:0≤i
 ·have hj:i.toNat=j:=by
   rw [seqIndex_of h0 h5] at h1
   exact AI h1
  exact item_listR pl.isList h0 (by ext) (by rw [hj];simpa using ew) fin hs
 ·have hj:(i+(its.toArray.size:Int)).toNat=j:=by
   rw [seqIndex_neg (by ext) h4] at h1
   rw [Aq,← hl]
   exact AI h1
  exact subscriptTail_builtinR (x:=w) pl.isList.typeIs slot_list_getitem.lookup
   (wpAny_getItem_list_neg (Q:=λr s'=>r=w∧EP X pins σ Q r s') pl.isList (by ext) (by rw [Aq]<;>ext) (by ext) (by rw [hj];simpa using ew) ⟨rfl,fin⟩) hs
theorem WI:IxR X (Ya X.K):=by
 intro value slice pins s σ H x y v u Q I rx ry h hs
 obtain ⟨p,xs,i,z,rfl,rfl,hq,he,q⟩:=h
 cases rx
 obtain ⟨t,rfl⟩:=ry
 obtain ⟨its,r,pl,hz⟩:=I.tuple hq
 obtain ⟨j,h1,h2,h3,h4,h5⟩:=Jr he
 obtain ⟨w,ew,rw'⟩:=r.get h2
 have hl:=r.length
 have hn:=II
 have fin:EP X pins σ Q w s:=⟨z,H,I,rw',q⟩
 exact subscriptTail_builtinR (x:=w) pl.typeIs slot_tuple_getitem.lookup
  (getItem_tuple (j:=j) (Q:=λr s'=>r=w∧EP X pins σ Q r s') pl (by ext) (by ext) (by rw [Aq,← hl];exact h1) (by simpa using ew) ⟨rfl,fin⟩) hs
theorem Wu:IxR X Zh:=by
 intro value slice pins s σ H x y v u Q I rx ry h hs
 obtain ⟨z,i,c,rfl,rfl,hz,he,q⟩:=h
 obtain ⟨t,rfl⟩:=rx
 obtain ⟨t',rfl⟩:=ry
 obtain ⟨j,h1,h2,h3,h4,h5⟩:=Jr he
 have hl:z.cps.toList.length=z.length:=by simp [Str.length]
 rw [hl] at h1 h4 h5
 have hn:=II
 exact tail_any (typeIs_str s z t) slot_str_getitem.lookup (getItem_str (c:=c) (by
  have e1:decide (i < -(2 ^ 63:Int))=false:=AX (by ext)
  have e2:decide (i ≥ 2 ^ 63)=false:=AX (by ext)
  rw [e1,e2,Bool.or_false]) (by rw [h1];simpa using h2) ⟨.str ⟨#[c]⟩,H,I.tok _,⟨_,rfl⟩,q⟩) hs
def rIx (K:PySem.W.Frag):R2:=λx y H Q=>V9 K x y H Q∨Ya K x y H Q∨Zh x y H Q
theorem Xi:IxR X (rIx X.K):=TU.or (WI.or Wu)
theorem Ni (its:List Value)(n j:Nat)(u:Value):Obj.mapSeq (·.setIfInBounds j u) { cls:=.type "list",data:=.seq its.toArray n }={ cls:=.type "list",data:=.seq (its.set j u).toArray n }:=by
 simp [Obj.mapSeq]
theorem Inv.lst {pins:List (Addr×Obj)}{σ:St}{H:Hp}{s:Shared}{p:Addr}{xs:List V}(I:Inv X pins σ H s)(h:H p=some (.lst xs)) :
  ∃ (its:List Value) (n:Nat),Vals xs its∧s.heap.get? p=some { cls:=.type "list",data:=.seq its.toArray n }∧xs.length≤sizeLine:=by
 obtain ⟨z,its,n,r,e⟩:=I.hok p _ h
 exact ⟨its,n,r,e,z⟩
theorem Inv.lstUpd {pins:List (Addr×Obj)}{σ:St}{H:Hp}{s:Shared}{p:Addr}{xs ys:List V}{its its':List Value}{n n':Nat}{f:Obj->Obj}(I:Inv X pins σ H s)(h:H p=some (.lst xs))
  (ho:s.heap.get? p=some { cls:=.type "list",data:=.seq its.toArray n }) (hf:f { cls:=.type "list",data:=.seq its.toArray n }={ cls:=.type "list",data:=.seq its'.toArray n' }) (r:Vals ys its') (hz:ys.length≤sizeLine) (t:Nat) :
  Inv X pins σ (upd H p (.lst ys)) { s with heap:=s.heap.update p f,toks:=t }:=by
 have e:(s.heap.update p f).get? p=some { cls:=.type "list",data:=.seq its'.toArray n' }:=by
  rw [AS f ho (by rw [hf]<;>rfl),hf]
 refine I.write (x:=p) (e:=p) (by rw [h];trivial) (.inl rfl) (λb u hb q=>(Bk _ _ (Ne.symm hb)).trans q) ⟨_,e⟩ ?_
 exact ⟨hz,its',n',r,e⟩
def Y3:V->V->V->Hp->(Hp->Prop)->Prop:=λo i v H Q=>∃ p xs k j,o=.ref p∧i=.int k∧H p=some (.lst xs)∧ixN xs.length k=some j∧Q (upd H p (.lst (xs.set j v)))
theorem set_list:T2 X Y3:=by
 intro pins s σ H o i v ov iv u Q I ro ri rv h
 obtain ⟨p,xs,k,j,rfl,rfl,hp,hj,q⟩:=h
 cases ro
 obtain ⟨t,rfl⟩:=ri
 obtain ⟨its,n,r,ho,hz⟩:=I.lst hp
 obtain ⟨h1,h2,h3,h4⟩:=Oy hj
 have hl:=r.length
 have hn:=II
 have I':Inv X pins σ (upd H p (.lst (xs.set j v))) { s with heap:=s.heap.update p (Obj.mapSeq (·.setIfInBounds j u)) }:=
  I.lstUpd hp ho (Ni its n j u) (r.set rv j) (by rw [List.length_set];exact hz) s.toks
 by_cases h0:0≤k
 ·have hk:k.toNat=j:=by
   rw [seqIndex_of h0 h4] at h1
   exact AI h1
  exact PySem.W.ki_setAt ho h0 (by ext) (by rw [Aq,← hl];exact h4) (by rw [hk];exact ⟨_,I',q⟩)
 ·have hk:(k+(its.toArray.size:Int)).toNat=j:=by
   rw [seqIndex_neg (by ext) h3] at h1
   rw [Aq,← hl]
   exact AI h1
  exact PySem.W.ki_setBack ho (by ext) (by rw [Aq,← hl];exact h3) (by ext) (by rw [hk];exact ⟨_,I',q⟩)
theorem Lf (lo hi:Option Int)(n:Nat):(sliceBounds lo hi none n).1=((HT.sIx n 0 lo:Nat):Int)∧(sliceBounds lo hi none n).2.1=((HT.sIx n n hi:Nat):Int)∧(sliceBounds lo hi none n).2.2=1:=by
 refine ⟨?_,?_,rfl⟩
 ·cases lo with
  | none=>simp [sliceBounds,HT.sIx]
  | some i =>
   simp only [sliceBounds,HT.sIx,Option.getD_none,show (1:Int) > 0 by decide,if_true]
   by_cases h:i<0
   ·simp only [h,if_true]<;>ext
   ·simp only [h,Bu]<;>ext
 ·cases hi with
  | none=>simp [sliceBounds,HT.sIx]
  | some i =>
   simp only [sliceBounds,HT.sIx,Option.getD_none,show (1:Int) > 0 by decide,if_true]
   by_cases h:i<0
   ·simp only [h,if_true]<;>ext
   ·simp only [h,Bu]<;>ext
theorem Ki (its:List Value)(lo hi:Option Int):slicePick its.toArray lo hi none=((its.drop (HT.sIx its.length 0 lo)).take (HT.sIx its.length its.length hi-HT.sIx its.length 0 lo)).toArray:=by
 obtain ⟨h1,h2,h3⟩:=Lf lo hi its.toArray.size
 unfold slicePick
 rw [h1,h2,h3]
 simp only [sliceRange_one,pick_run,Aq]<;>rfl
def YX (K:PySem.W.Frag):V->Option Int->Option Int->Hp->VK->Prop:=λx lo hi H Q=>∃ a xs,x=.ref a∧SqL K H a xs∧∀ p,H p=none->Q (.ref p) (upd H p (.lst (Mn xs lo hi)))
theorem UD:SlR X (YX X.K):=by
 intro pins s σ H x v vl vu lo hi sl Q I rx hs pl pu h
 obtain ⟨a,xs,rfl,hx,q⟩:=h
 cases rx
 obtain ⟨its,r,ht,hz⟩:=I.list hx
 have hlen:=r.length
 refine ⟨"list",_,slot_list_getitem.lookup,ht.isList.typeIs,?_⟩
 refine wpAny_getItem_list_slice ht.isList hs pl pu .none (by simp) ?_ (by rw [Aq]<;>ext)
 rw [Ki,← hlen]
 refine ⟨.ref s.heap.objs.size,_,I.laid (t':=s.toks) (o:=.lst (Mn xs lo hi)) (λb ob q=>Ad _ q) (Aj _) ?_,rfl,q _ (I.hok.fresh (Aj _))⟩
 exact ⟨AN (IV xs lo hi) hz,_,0,(r.drop (HT.sIx xs.length 0 lo)).take (HT.sIx xs.length xs.length hi-HT.sIx xs.length 0 lo),Ai _ rfl⟩
theorem GA:Fx X (.builtin "len") (λxs H Q=>∃ p ys,xs=[.ref p]∧(SqL X.K H p ys∨SqT X.K H p ys)∧Q (.int ys.length) H):=by
 intro pins s σ H xs us Q I r h
 obtain ⟨p,ys,rfl,hq,q⟩:=h
 obtain ⟨u,rfl,rx⟩:=vals1 r
 cases rx
 have hn:=II
 rcases hq with hq|hq
 ·obtain ⟨its,r',pl,hz⟩:=I.list hq
  have hlen:=r'.length
  exact Calls.call_len_list pl.isList (by simp only [Aq]<;>ext) ⟨.int ys.length,H,I.tok _,⟨s.toks+1,by rw [Aq,hlen]⟩,q⟩
 ·obtain ⟨its,r',pl,hz⟩:=I.tuple hq
  have hlen:=r'.length
  exact len_tuple pl (by simp only [Aq]<;>ext) ⟨.int ys.length,H,I.tok _,⟨s.toks+1,by rw [Aq,hlen]⟩,q⟩
theorem LG:Fx X (.builtin "len") (λxs H Q=>∃ z,xs=[.str z]∧z.length≤sizeLine∧Q (.int z.length) H):=by
 intro pins s σ H xs us Q I r h
 obtain ⟨z,rfl,hz,q⟩:=h
 obtain ⟨u,rfl,t,rfl⟩:=vals1 r
 have hn:=II
 exact len_str (by ext) ⟨.int z.length,H,I.tok _,⟨_,rfl⟩,q⟩
theorem LV:Fx X (.type "list") (λxs H Q=>∃ p ys,xs=[.ref p]∧(SqL X.K H p ys∨SqT X.K H p ys)∧∀ l,H l=none->Q (.ref l) (upd H l (.lst ys))):=by
 intro pins s σ H xs us Q I r h
 obtain ⟨p,ys,rfl,hq,q⟩:=h
 obtain ⟨u,rfl,rx⟩:=vals1 r
 cases rx
 have fin:∀ (its:List Value),Vals ys its->ys.length≤sizeLine->∀ (h':Heap) (c':Nat),(∀ b o',s.heap.get? b=some o'->h'.get? b=some o') ->
   h'.get? s.heap.objs.size=some { cls:=.type "list",dict:=none,data:=.seq its.toArray c',slots:=#[] }->EP X pins σ Q (.ref s.heap.objs.size) { s with heap:=h' }:=λits r' hz h' c' kp e =>
  ⟨.ref s.heap.objs.size,_,I.laid (t':=s.toks) kp (Aj _) (show ObjOk X.prog X.w _ h' _ (.lst ys) from ⟨hz,its,c',r',e⟩),rfl,q _ (I.hok.fresh (Aj _))⟩
 rcases hq with hq|hq
 ·obtain ⟨its,r',pl,hz⟩:=I.list hq
  have hlen:=r'.length
  obtain ⟨o,ho,hc,n,hd⟩:=pl.isList
  exact call_list_seq p (.inl rfl) ho hc hd (λh' c' kp e=>fin its r' hz h' c' kp e) (by simp only [Aq]<;>ext)
 ·obtain ⟨its,r',pl,hz⟩:=I.tuple hq
  have hlen:=r'.length
  obtain ⟨o,ho,hc,n,hd⟩:=pl
  exact call_list_seq p (.inr rfl) ho hc hd (λh' c' kp e=>fin its r' hz h' c' kp e) (by simp only [Aq]<;>ext)
theorem Kj:Fx X (.type "tuple") (λxs H Q=>∃ p ys,xs=[.ref p]∧((SqL X.K H p ys∧∀ l,H l=none->Q (.ref l) (upd H l (.tup ys)))∨(SqT X.K H p ys∧Q (.ref p) H))):=by
 intro pins s σ H xs us Q I r h
 obtain ⟨p,ys,rfl,h⟩:=h
 obtain ⟨u,rfl,rx⟩:=vals1 r
 cases rx
 rcases h with ⟨hq,q⟩|⟨hq,q⟩
 ·obtain ⟨its,r',pl,hz⟩:=I.list hq
  have hlen:=r'.length
  refine call_tuple_list pl.isList (λh' kp=>?_) (by simp only [Aq]<;>ext)
  have I1:Inv X pins σ H { s with heap:=h' }:=I.kept (t':=s.toks) kp
  have I2:Inv X pins σ (upd H h'.objs.size (.tup ys)) { s with heap:=h'.push { cls:=.type "tuple",data:=.seq its.toArray } }:=
   I1.laid (t':=s.toks) (λb o e=>Ad _ e) (Aj _) (show ObjOk X.prog X.w _ _ _ (.tup ys) from ⟨⟨hz,⟨_,Ai _ rfl,rfl⟩⟩,its,r',IsTup.new _ _⟩)
  exact ⟨.ref h'.objs.size,_,I2,rfl,q _ (I1.hok.fresh (Aj _))⟩
 ·obtain ⟨its,r',pl,hz⟩:=I.tuple hq
  exact call_tuple_same pl ⟨.ref p,H,I,rfl,q⟩
def tyV (K:PySem.W.Frag)(T:String)(x:V)(H:Hp):Prop:=match x with
 | .str _=>T="str"
 | .int _=>T="int"
 | .ref p=>(T="list"∧∃ xs,SqL K H p xs)∨(T="tuple"∧∃ o,K.lookup p=some o∧o.cls=.type "tuple"∧o.dict=none) ∨
   (T="dict"∧((∃ kvs,H p=some (.dK kvs))∨∃ kvs,H p=some (.dT kvs)))∨(T="set"∧∃ S n,H p=some (.set S n))
 | _=>False
theorem V5 {pins:List (Addr×Obj)}{σ:St}{H:Hp}{s:Shared}{T:String}{x:V}{v:Value}(I:Inv X pins σ H s)(r:RelV x v)(ty:tyV X.K T x H) :
  s.TypeIs v T∧∀ a,v=.ref a->∃ ob,s.heap.get? a=some ob∧ob.dict=none:=by
 cases x with
 | str z =>
  obtain ⟨t,rfl⟩:=r
  cases (show T="str" from ty)
  exact ⟨typeIs_str s z t,λ_ e=>nomatch e⟩
 | int i =>
  obtain ⟨t,rfl⟩:=r
  cases (show T="int" from ty)
  exact ⟨typeIs_int s i t,λ_ e=>nomatch e⟩
 | ref p =>
  cases r
  rcases ty with ⟨rfl,xs,hq⟩|⟨rfl,o,hk,hc,hd⟩|⟨rfl,hk⟩|⟨rfl,S,n,hk⟩
  ·obtain ⟨its,_,pl,_⟩:=I.list hq
   refine ⟨pl.isList.typeIs,λa e=>?_⟩
   cases e
   obtain ⟨o,n,e,c,hd,_⟩:=pl
   exact ⟨o,e,hd⟩
  ·refine ⟨⟨o,I.kIn p o hk,hc⟩,λa e=>?_⟩
   cases e
   exact ⟨o,I.kIn _ o hk,hd⟩
  ·have z:∃ o,s.heap.get? p=some o∧o.ExactDict:=by
    rcases hk with ⟨kvs,hk⟩|⟨kvs,hk⟩
    ·obtain ⟨_,_,_,_,o,_,_,e,ex,_⟩:=I.hok p _ hk
     exact ⟨o,e,ex⟩
    ·obtain ⟨_,_,_,_,o,_,_,e,ex,_⟩:=I.hok p _ hk
     exact ⟨o,e,ex⟩
   obtain ⟨o,e,ex⟩:=z
   refine ⟨⟨o,e,ex.1⟩,λa e2=>?_⟩
   cases e2
   exact ⟨o,e,ex.2.1⟩
  ·obtain ⟨o,_,_,_,e,ex,_⟩:=I.hok p _ hk
   refine ⟨⟨o,e,ex.1⟩,λa e2=>?_⟩
   cases e2
   exact ⟨o,e,ex.2.1⟩
 | _=>exact False.elim ty
def tBM (K:PySem.W.Frag)(T:String)(r:V->List V->Hp->VK->Prop)(to:TE)(t:TA):TE:=fun σ H Q=>to σ H λx H1=>tyV K T x H1∧t σ H1 λxs H2=>r x xs H2 Q
variable {o e:Expr} {es:List Expr} {to:TE} {t:TA} {name:Str} {apos cpos:Pos} {T id:String} {r:V->List V->Hp->VK->Prop}
theorem Rv (pa:PlainAttrs T)(slot:Slot T name id)(hty:typeOf (.builtin id)=pure (.type "method_descriptor"))(hm:MtR X id r)(ho:PE X o to)(ha:PA X (e::es) t)
  (hbase:attributeBase o name X.env (eval o X.env)=eval o X.env:=by rfl)
  (hfew:((backTo cpos (starEach (e::es) X.env)).all (λx=>!x.1)&&(backToKw cpos (keywordEach [] X.env)).all (λx=>x.1.isSome)
   && decide ((e::es).length+([]:List Keyword).length+(if ([]:List Keyword).isEmpty then 0 else 1)<30))=true:=by rfl)
  (hline:(apos.endLine==cpos.line)=true:=by rfl) (hs:starEach (e::es) X.env=(false,eval e X.env)::starEach es X.env:=by rfl) (hplain:(backTo cpos (starEach es X.env)).any (·.1)=false:=by rfl) :
  PE X (.Call (.Attribute o name apos) (e::es) [] cpos) (tBM X.K T r to t):=by
 intro pins s σ H Q I h
 refine wpAny_Call_method_late hbase hfew hline rfl (thn (ho pins s σ H _ I h) λv s1 ⟨x,H1,I1,r1,ty,q1⟩=>?_)
 obtain ⟨h1,h2⟩:=V5 I1 r1 ty
 refine ⟨T,id,pa,slot,hty,h1,h2,?_⟩
 have hA:=ha cpos pins s1 σ H1 _ I1 q1
 rw [hs] at hA ⊢
 refine Calls.callWith_builtin (by show (false||(backTo cpos (starEach es X.env)).any (·.1))=false;rw [hplain]<;>rfl) (Calls.evalArgs_plain ?_)
 exact thn hA λus s2 ⟨vs,H2,I2,r2,q2⟩=>hm pins s2 σ H2 x vs v us Q I2 r1 r2 q2
end
def MtM (X:Cx)(id:String)(r:V->List V->Hp->VK->Prop):Prop:=
 ∀ (pins:List (Addr×Obj)) (s:Shared) (σ:St) (H:Hp) (x:V) (xs:List V) (v:Value) (us:List Value) (Q:VK),Inv X pins σ H s->RelV x v->Vals xs us->r x xs H Q ->
  wpAny (model X.prog X.w) X.A (call (.builtin id) (v::us)) (EP X pins σ Q) X.xe s
theorem Vals.one:∀ {x:V} {us:List Value},Vals [x] us->∃ u,us=[u]∧RelV x u
 | _,_,.cons r .nil=>⟨_,rfl,r⟩
section
variable {X:Cx} {pins:List (Addr×Obj)} {σ:St} {H:Hp} {s:Shared} {l b:Addr} {xs ys zs:List V}
theorem Inv.lset {its its':List Value}{n:Nat}{f:Array Value->Array Value}{t':Nat}(I:Inv X pins σ H s)(hH:H l=some (.lst xs))
  (e:s.heap.get? l=some { cls:=.type "list",data:=.seq its.toArray n }) (hf:f its.toArray=its'.toArray) (hv:Vals ys its') (hz:ys.length≤sizeLine) :
  Inv X pins σ (upd H l (.lst ys)) { s with heap:=s.heap.update l (Obj.mapSeq f),toks:=t' }:=by
 have q:=PySem.IsL.update e f
 rw [hf] at q
 refine I.write (x:=l) (e:=l) (by rw [hH];exact trivial) (.inl rfl) (λb' u hb hu=>(Bk s.heap (Obj.mapSeq f) (Ne.symm hb)).trans hu) ⟨_,q⟩ ?_
 exact ⟨hz,its',_,hv,q⟩
theorem Inv.lstM (I:Inv X pins σ H s)(hH:H l=some (.lst xs)):xs.length≤sizeLine∧∃ (its:List Value) (n:Nat),Vals xs its∧xs.length=its.length∧s.heap.get? l=some { cls:=.type "list",data:=.seq its.toArray n }:=by
 obtain ⟨z,its,n,r,e⟩:=I.hok l _ hH
 exact ⟨z,its,n,r,r.length,e⟩
end
section
variable {X:Cx}
def TV:V->List V->Hp->VK->Prop:=λx vs H Q=>∃ l xs y,x=.ref l∧vs=[y]∧H l=some (.lst xs)∧xs.length<sizeLine∧Q .non (upd H l (.lst (xs++[y])))
theorem Pt:MtM X "list.append" TV:=by
 intro pins s σ H x vs v us Q I rx rv h
 obtain ⟨l,xs,y,rfl,rfl,hH,hz,q⟩:=h
 cases rx
 obtain ⟨u,rfl,ru⟩:=rv.one
 obtain ⟨z,its,n,r,hl,e⟩:=I.lstM hH
 refine call_meets F.slot_list_append ⟨_,e,rfl⟩ F.entry_list_append (F.args_list_append_2 _ _) (PySem.list_append l its.toArray n u (by rw [Aq];ext)) ⟨e,?_⟩
 refine ⟨.non,_,I.lset (its':=its++[u]) hH e (by simp) (r.append (.cons ru .nil)) ?_,rfl,q⟩
 rw [Ag,List.length_singleton]
 ext
end
end L2
namespace Att
open PySem PySem.W PySem.Calls PyProof.Rows
theorem Je {P:Params}{h:Heap}:∀ (ns:List Int) (vs:List Value),WellAll P h vs (ns.map WData.int)->IntsAre vs ns:=by
 intro ns
 induction ns with
 | nil =>
  intro vs w
  rw [List.map_nil] at w
  cases w
  exact .nil
 | cons n ns ih =>
  intro vs w
  rw [AO] at w
  cases w with
  | cons a b =>
   cases a
   exact .cons _ _ (ih _ b)
theorem PN {l:OpenLaw}{n:Nat}(hn:l.most=some n){P:Params}{h:Heap}{args:List WData}{vals:List Value}
  (hpre:l.row.toRowW.claim.pre args=true) (hwl:WellAll P h vals args) :
  ∃ a vs ns,vals=[Value.ref a]∧args=[WData.list (ns.map WData.int)]∧h.get? a=some { cls:=.type "list",data:=.seq vs.toArray }∧IntsAre vs ns∧ns.length≤n:=by
 have hsh:WShape.hasAll [] args [.list .int]=true:=(pre_splitW hpre).1
 have hc:l.pre.holds [] { args:=args }=true:=(pre_splitW hpre).2
 obtain ⟨d,r,rfl,h1,h2⟩:=hasAllW_cons hsh
 obtain rfl:=hasAllW_nil h2
 obtain ⟨xs,rfl,h3⟩:=hasW_list h1
 obtain ⟨ns,rfl⟩:=items_int h3
 have hlen:ns.length≤n:=by
  unfold OpenLaw.pre at hc
  have h4:(WTm.not (.lt (.lit (.int (n:Int))) (.len (.arg 0)))).holds [] { args:=[.list (ns.map .int)] }=true:=by
   have h4:=(holds_andW hc).1
   rw [hn] at h4
   exact h4
  have h5:=condW_of h4 (w_not (w_lt w_lit (w_len_list (w_arg rfl))))
  rw [Ac] at h5
  refine Nat.le_of_not_lt λq=>?_
  have q':(n:Int)<((ns.length:Nat):Int):=by ext
  first
   | (rw [A9 q'] at h5;exact absurd h5 (by decide))
   | (simp at h5;ext)
 cases hwl with
 | cons w1 w2 =>
  cases w2
  cases w1 with
  | list ho hall=>exact ⟨_,_,ns,rfl,rfl,ho,Je ns _ hall,hlen⟩
theorem Qi (l:OpenLaw)(args:List WData):l.row.toRowW.claim.post args (.bool true) args=true:=
 postW_of (r:=l.row.toRowW) (X:=(true==true))
  (show WShape.has [] (.bool true) .bool=true by first|rfl|decide|simp [WShape.has,WShape.arms,WShape.armsAll])
  (show (WTm.eq .res (.lit (.bool true))).value [] { args:=args,res:=some (.bool true),after:=args }=some (.bool (true==true)) from w_eq_bool (w_res rfl) w_lit) rfl
theorem Ms {l:OpenLaw}{n:Nat}{q:Program}{loose:List Str}{XP:(Str->Option Value)->Heap->Prop}{YP:World->Heap->Prop}{d:DefRec}
  (hn:l.most=some n) (hdf:d.params.defaults=[])
  (call:∀ (w:World) (s₀ s₁:Shared) (mg mb:Str->Option Value) (fa:Addr) (o:Obj) (pm cd doc:Value) (a:Addr) (vs:List Value) (ns:List Int),
   Ground q loose [] XP w s₀ mg mb s₁.heap->YP w s₁.heap ->
   s₁.heap.get? fa=some o->o.data=.func (docDef d.name d.params d.body d.scope pm cd doc)->s₁.heap.CodeRec cd d.name->mg d.name=some (.ref fa) ->
   s₁.heap.get? a=some { cls:=.type "list",data:=.seq vs.toArray }->IntsAre vs ns->ns.length≤n->s₁.gens=#[] ->
   codeAny (model l.prog w) callerA (.call (.ref fa) ⟨[.ref a],[]⟩) (λr s'=>r=.ok (.ret (.bool true))∧OldK s₁.heap s'.heap∧s'.os=s₁.os∧AllBare s'.gens) s₁) :
  WalkO q loose XP YP l.row.toRowW d [] (λf vs=>PySem.call f vs):=by
 intro w s₀ s₁ mg mb G Y fa o pm cd doc dV kV ho hd hcd hD hmg hg args vals as hpre hlay hrd hwl hlo
 obtain rfl:dV=.none:=Dflts.none hD hdf
 obtain rfl:kV=.none:=Dflts.noKw hD
 obtain ⟨a,vs,ns,rfl,rfl,hobj,hints,hlen⟩:=PN hn hpre hwl
 refine enter_call (codeAny_mono (call w s₀ s₁ mg mb fa o pm cd doc a vs ns G Y ho (fd_plain hd) hcd hmg hobj hints hlen hg) λr s' hq=>?_)
 obtain ⟨rfl,h2,h3,h4⟩:=hq
 exact ⟨.inl ⟨.bool true,.bool true,[],rfl,λ_=>rfl,.bool true,Qi l _,λ_=>⟨List.Pairwise.nil,λ_ hm=>(nomatch hm)⟩⟩,h2,h3,h4⟩
end Att
namespace L2
open PySem PySem.Spec PyProof.Rows
theorem KG:∀ {vs:List Value} {ns:List Int},IntsAre vs ns->Vals (ns.map V.int) vs
 | _,_,.nil=>.nil
 | _,_,.cons n t h=>.cons ⟨t,rfl⟩ (KG h)
def WW (H:Hp):Prop:=∀ b,H b=none∨∃ o xs,H b=some (.frz o (.lst xs))
theorem Sg {P:Program}{w:World}{K:PySem.W.Frag}{mg mb:Str->Option Value}{CX:CXT}{k:Nat}{fa a:Addr}{fd:FuncData}{x:Str}{sp:Sp}{s₁:Shared}{vs:List Value}{ns:List Int}
  (KX:K.In s₁.heap) (hns:s₁.heap.Ns mainGlobals mg) (hb:s₁.heap.Ns builtinsNs mb) (hbb:∀ x:Str,x≠"__name__"->mb x=bootBuiltins x) (hlim:s₁.heap.NoLimit) (hg:s₁.gens=#[])
  (ha:s₁.heap.get? a=some { cls:=.type "list",data:=.seq vs.toArray }) (hi:IntsAre vs ns) (hl:ns.length≤sizeLine) (hr:Room k callerA)
  (F:∀ base:Heap,K.In base->base.Ns mainGlobals mg->D4 P w K mg base CX k fa fd [x] sp) (hbind:∀ (s:Shared) (u:Value),BindsTo s fd ⟨[u],[]⟩ [(x,u)])
  (hsp:∀ H:Hp,WW H->SqL K H a (ns.map V.int)->sp [.ref a] H (λv _=>v=.bl true) λ_ _ _=>False)
  (hCX:∀ H e s',CX [] H s₁ (λ_ _ _=>False) e s'->False) :
  codeAny (model P w) callerA (.call (.ref fa) ⟨[.ref a],[]⟩) (λr s'=>r=.ok (.ret (.bool true))∧OldK s₁.heap s'.heap∧s'.os=s₁.os∧AllBare s'.gens) s₁:=by
 have rv:=KG hi
 have lenV:=hi.length
 have core:∀ H:Hp,WW H->SqL K H a (ns.map V.int)->HOk P w H s₁.heap->(∀ b,H b≠none->b=a)->(H a≠none->K.lookup a=none) ->
   codeAny (model P w) callerA (.call (.ref fa) ⟨[.ref a],[]⟩) (λr s'=>r=.ok (.ret (.bool true))∧OldK s₁.heap s'.heap∧s'.os=s₁.os∧AllBare s'.gens) s₁:=by
  intro H hO hS hok hA hK
  have base_of:∀ {b:Addr} {o:Obj},s₁.heap.get? b=some o->H b=none->(LH s₁.heap H).get? b=some o:=λe n=>Tc e n
  have noA:∀ {b:Addr} {o:Obj} {es:Array DictEntry} {ep:Nat},s₁.heap.get? b=some o->o.data=.dict es ep->H b=none:=λ{b o es ep} e d=>by
   cases q:H b with
   | none=>rfl
   | some u =>
    have e':b=a:=hA b (by rw [q];simp)
    subst e'
    rw [ha] at e;cases e
    have d':Data.seq vs.toArray _=Data.dict es ep:=d
    cases d'
  have nsK:∀ {b:Addr} {m:Str->Option Value},s₁.heap.Ns b m->(LH s₁.heap H).Ns b m:=λ{b m} ⟨o,es,ep,e,d,r⟩=>⟨o,es,ep,base_of e (noA e d),d,r⟩
  have hKb:K.In (LH s₁.heap H):=λb o e=>base_of (KX b o e) (by
   cases q:H b with
   | none=>rfl
   | some u =>
    have e':b=a:=hA b (by rw [q];simp)
    subst e'
    rw [hK (by rw [q];simp)] at e;cases e)
  have hM:Mod K mg (LH s₁.heap H):=⟨hKb,nsK hns,⟨mb,nsK hb,hbb⟩,let ⟨mc,h1,h2⟩:=hlim;⟨mc,nsK h1,h2⟩⟩
  have e0:Ua P w K mg (LH s₁.heap H) callerA [] s₁ H:=⟨rfl,hM,λb o e=>TK e,Nat.le_of_eq (Pk _ _),trivial,λb hb=>absurd (show b∈([]:List Addr) from hb) (by simp),hok,.of_eq hg⟩
  refine codeAny_mono ((F _ hKb (nsK hns)).run callerA [] s₁ H ⟨[.ref a],[]⟩ [.ref a] [.ref a] _ _ hr e0 (hbind s₁ (.ref a)) (.cons rfl .nil) (hsp H hO hS)) λr s' h=>?_
  cases r with
  | error e=>exact (hCX H e s' h).elim
  | ok fl =>
   cases fl with
   | next=>exact False.elim h
   | brk=>exact False.elim h
   | cont=>exact False.elim h
   | ret u =>
    obtain ⟨v,H',os,bare,un,hok',r',q⟩:=h
    have q':v=.bl true:=q
    subst q'
    obtain rfl:u=Value.bool true:=r'
    refine ⟨rfl,OldK.of_keep λb o e=>?_,os,bare⟩
    cases q:H b with
    | none=>exact un.keep b o e q (by intro z;exact absurd (show b∈([]:List Addr) from z) (by simp)) (by simp)
    | some u =>
     rcases hO b with z|⟨ob,xs,z⟩
     ·rw [q] at z;cases z
     ·have z2:=un.frzs b ob _ z
      obtain ⟨e1,_⟩:=hok b _ z
      obtain ⟨e2,_⟩:=hok' b _ z2
      rw [e] at e1;cases e1
      exact e2
 cases hk:K.lookup a with
 | some o =>
  have e:=KX a o hk
  rw [ha] at e
  cases e
  refine core (λ_=>none) (λ_=>.inl rfl) (.inr ⟨_,vs.toArray,_,hk,rfl,rfl,rfl,by rw [Aq,lenV];exact hl,by simpa using rv⟩) (λb u z=>by have z':(none:Option HO)=some u:=z;cases z') (λb z=>absurd rfl z) λz=>absurd rfl z
 | none =>
  refine core (λb=>if b=a then some (.frz { cls:=.type "list",data:=.seq vs.toArray } (.lst (ns.map V.int))) else none) (λb=>?_) (.inl (.inr ⟨{ cls:=.type "list",data:=.seq vs.toArray },if_pos rfl⟩)) (λb u z=>?_) (λb z=>?_) λ_=>hk
  ·by_cases hb:b=a
   ·exact .inr ⟨_,_,if_pos hb⟩
   ·exact .inl (if_neg hb)
  ·by_cases hb:b=a
   ·have z':=(if_pos hb).symm.trans z
    cases z'
    subst hb
    exact ⟨ha,by rw [Ac];exact hl,vs,_,rv,ha⟩
   ·have z':=(if_neg hb).symm.trans z
    cases z'
  ·by_cases hb:b=a
   ·exact hb
   ·exact absurd (if_neg hb) z
theorem U5 {l:PySem.W.OpenLaw}{n k:Nat}{q:Program}{loose:List Str}{XP:(Str->Option Value)->Heap->Prop}{YP:World->Heap->Prop}{d:DefRec}{K:Params->PySem.W.Frag}{CX:World->CXT}{sp:World->Sp}{x:Str}
  (hn:l.most=some n) (hn2:n≤sizeLine) (hdf:d.params.defaults=[]) (hr:Room k callerA)
  (hY:∀ (w:World) (h:Heap),YP w h->(K w.params).In h)
  (F:∀ (w:World) (mg:Str->Option Value) (fa:Addr) (h:Heap),(K w.params).In h->h.Ns mainGlobals mg->mg d.name=some (.ref fa) ->
   ∃ fd:FuncData,(∀ (s:Shared) (u:Value),BindsTo s fd ⟨[u],[]⟩ [(x,u)]) ∧
    ∀ base:Heap,(K w.params).In base->base.Ns mainGlobals mg->D4 l.prog w (K w.params) mg base (CX w) k fa fd [x] (sp w))
  (hsp:∀ (w:World) (H:Hp) (a:Addr) (ns:List Int),ns.length≤n->WW H->SqL (K w.params) H a (ns.map V.int)->sp w [.ref a] H (λv _=>v=.bl true) λ_ _ _=>False)
  (hCX:∀ (w:World) (H:Hp) (s:Shared) (e:Value) (s':Shared),CX w [] H s (λ_ _ _=>False) e s'->False) :
  PySem.W.WalkO q loose XP YP l.row.toRowW d [] (λf vs=>PySem.call f vs):=by
 refine Att.Ms hn hdf λw s₀ s₁ mg mb fa o pm cd doc a vs ns G Y ho hd hcd hmg hobj hints hlen hg=>?_
 have KX:=hY w _ Y
 obtain ⟨fd,hb,hF⟩:=F w mg fa _ KX G.T.g hmg
 exact Sg KX G.T.g G.T.b G.T.builtins G.T.nolimit hg hobj hints (AN hlen hn2) hr hF hb (λH hO hS=>hsp w H a ns hlen hO hS) λH e s'=>hCX w H s₁ e s'
noncomputable def GG (s:Stmt):Arguments:=match s with
 | .FunctionDef _ a _ _ _ _ _ _ _ _=>a
 | _=>{ posonlyargs:=[],args:=[],vararg:=none,kwonlyargs:=[],kw_defaults:=[],kwarg:=none,defaults:=[] }
noncomputable def Er (s:Stmt):List Stmt:=match s with
 | .FunctionDef _ _ b _ _ _ _ _ _ _=>b
 | _=>[]
noncomputable def B7 (s:Stmt):Scope:=match s with
 | .FunctionDef _ _ _ _ _ _ sc _ _ _=>sc
 | _=>{ kind:=.function,names:=[],isGenerator:=false,isCoroutine:=false }
abbrev CX0:CXT:=λ_ _ _ _ _ _=>False
abbrev E0:XK:=λ_ _ _=>False
theorem XR {X:Cx}:Passes CX0 X E0:=λ_ _ _ _ _ _ _ h=>h.elim
structure Fun (K:PySem.W.Frag) (x qual:Str) (st:Stmt) (f:Addr) (fd:FuncData):Prop where
 ex:∃ (oc:Value) (od:Option Addr) (kV doc pm:Value) (an:Option Addr) (cdv ct:Value) (osl:Array (Option Value)),
  fd=PySem.W.fnOf x qual (GG st) (Er st) (B7 st) .none kV doc pm an cdv ct∧K.lookup f=some ⟨oc,od,.func fd,osl⟩∧PySem.W.codeIn K cdv qual=true
 kp:PySem.W.keepIn K (.ref f)=true
section
variable {P:Program} {w:World} {K:PySem.W.Frag} {mg:Str->Option Value} {base:Heap}
theorem Fun.ok {x qual:Str}{st:Stmt}{f:Addr}{fd:FuncData}{N ps:List Str}{k:Nat}{sp:Sp}(F:Fun K x qual st f fd)(S:CG N ps (B7 st))(len:∀ vs H Q E,sp vs H Q E->vs.length=ps.length)
  (hbody:∀ (cdv:Value) (A:Around) (outer:List Env) (s:Shared) (H:Hp) (vs:List V) (Q:VK) (E:XK),Room k (A.deeper (envOfC qual (B7 st) s.heap.objs.size f cdv))->sp vs H Q E ->
   ∃ t,PSs (Ka CX0 P w K mg base N qual (B7 st) f cdv A outer s H E).nox (Er st) t∧t { nx:=λ_ H'=>Q .non H',rt:=Q } (start N vs) H):D4 P w K mg base CX0 (k+1) f fd ps sp:=by
 obtain ⟨oc,od,kV,doc,pm,an,cdv,ct,osl,rfl,lk,hcd⟩:=F.ex
 refine Yv lk hcd S len λA outer s H vs Q E hr hsp=>?_
 obtain ⟨t,h,q⟩:=hbody cdv A outer s H vs Q E hr hsp
 exact ⟨t,h.nox,q⟩
theorem Fun.binds {x qual:Str}{st:Stmt}{f:Addr}{fd:FuncData}{ps:List Str}(F:Fun K x qual st f fd)
  (h:∀ (kV doc pm:Value) (an:Option Addr) (cdv ct:Value) (us:List Value),us.length=ps.length->bindArgs (PySem.W.fnOf x qual (GG st) (Er st) (B7 st) .none kV doc pm an cdv ct) ⟨us,[]⟩=pure (ps.zip us)):Binds K fd ps []:=by
 obtain ⟨oc,od,kV,doc,pm,an,cdv,ct,osl,rfl,lk,hcd⟩:=F.ex
 exact .all (h kV doc pm an cdv ct)
theorem RF {x qual:Str}{st:Stmt}{f:Addr}{oc:Value}{od an:Option Addr}{osl:Array (Option Value)}{kV doc pm cdv ct:Value}(l:K.lookup f=some ⟨oc,od,.func (PySem.W.fnOf x qual (GG st) (Er st) (B7 st) .none kV doc pm an cdv ct),osl⟩)
  (c:PySem.W.codeIn K cdv qual=true) (k:PySem.W.keepIn K (.ref f)=true):Fun K x qual st f (PySem.W.fnOf x qual (GG st) (Er st) (B7 st) .none kV doc pm an cdv ct):=⟨⟨oc,od,kV,doc,pm,an,cdv,ct,osl,rfl,l,c⟩,k⟩
end
section
variable {X:Cx}
theorem pv (i:Nat){x:Str}{pos:Pos}(hN:X.N[i]? = some x:=by rfl)(hv:Vis X.env.scope x:=by first|exact Or.inl rfl|exact Or.inr (Or.inl rfl)|exact Or.inr (Or.inr rfl))(hd:(x==("__debug__":Str))=false:=by decide)
  (hcd:(x==("__classdict__":Str))=false:=by decide):PE X (.Name x pos) (XU i):=S2 hN hv hd hcd
end
abbrev Go (prog:Program) (w:World) (A:Around) {α:Type} (t:Sem α) (Q:α->Shared->Prop) (s:Shared):Prop:=wpAny (model prog w) A t Q (λ_ _=>False) s
noncomputable def tests (env:Env)(ifs:List Expr):Sem Bool:=forIn ifs true λc r =>
 if r=true then (isTrue c env (eval c env) >>= λok=>pure (ForInStep.yield ok)) else pure (ForInStep.yield r)
theorem NF {scope:Scope}{env:Env}(h:∀ y∈scope.names,y.2=.free->∃ c,env.cells.lookup y.1=some c) :
  ∃ cl,closureFor scope env=pure cl∧(∀ x c,cl.lookup x=some c->env.cells.lookup x=some c)∧∀ y∈scope.names,y.2=.free->∃ c,cl.lookup y.1=some c:=by
 have gen:∀ (l:List (Str×NameKind)) (acc:List (Str×Addr)),(∀ y∈l,y.2=.free->∃ c,env.cells.lookup y.1=some c)->(∀ x c,acc.lookup x=some c->env.cells.lookup x=some c) ->
   ∃ cl,(forIn l acc λ(x:Str×NameKind) (r:List (Str×Addr))=>if (x.2==NameKind.free)=true then do let c←cellOf env x.1;pure (ForInStep.yield ((x.1,c)::r)) else pure (ForInStep.yield r))=(pure cl:Sem (List (Str×Addr))) ∧
    (∀ x c,cl.lookup x=some c->env.cells.lookup x=some c)∧(∀ y∈l,y.2=.free->∃ c,cl.lookup y.1=some c)∧∀ x c,acc.lookup x=some c->∃ c',cl.lookup x=some c':=by
  intro l
  induction l with
  | nil=>intro acc _ ha;exact ⟨acc,rfl,ha,λ_ z=>(nomatch z),λx c e=>⟨c,e⟩⟩
  | cons y r ih =>
   intro acc hl ha
   obtain ⟨n,k⟩:=y
   by_cases hk:k=.free
   ·subst hk
    obtain ⟨c,hc⟩:=hl (n,.free) List.mem_cons_self rfl
    have ha':∀ x c',((n,c)::acc).lookup x=some c'->env.cells.lookup x=some c':=λx c' e=>by
     by_cases hx:x=n
     ·subst hx
      have hb:(x==x)=true:=beq_iff_eq.mpr rfl
      simp only [List.lookup,hb] at e
      cases e;exact hc
     ·have hb:(x==n)=false:=beq_eq_false_iff_ne.mpr hx
      simp only [List.lookup,hb] at e
      exact ha x c' e
    obtain ⟨cl,h1,h2,h3,h4⟩:=ih ((n,c)::acc) (λy hy=>hl y (Bz _ hy)) ha'
    refine ⟨cl,?_,h2,λy hy hf=>?_,λx c' e=>?_⟩
    ·rw [List.forIn_cons]
     have e:cellOf env n=pure c:=by unfold cellOf;rw [hc]
     simp only [beq_self_eq_true,if_true,e,pure_bind]
     exact h1
    ·refine (Ah.mp hy).elim (λz=>?_) λhy=>?_
     ·subst z
      have hb:(n==n)=true:=beq_iff_eq.mpr rfl
      exact h4 n c (by simp only [List.lookup,hb])
     ·exact h3 y hy hf
    ·by_cases hx:x=n
     ·subst hx
      have hb:(x==x)=true:=beq_iff_eq.mpr rfl
      exact h4 x c (by simp only [List.lookup,hb])
     ·have hb:(x==n)=false:=beq_eq_false_iff_ne.mpr hx
      exact h4 x c' (by simp only [List.lookup,hb];exact e)
   ·obtain ⟨cl,h1,h2,h3,h4⟩:=ih acc (λy hy=>hl y (Bz _ hy)) ha
    refine ⟨cl,?_,h2,λy hy hf=>?_,h4⟩
    ·rw [List.forIn_cons]
     have e:(k==NameKind.free)=false:=by simpa using hk
     simp only [e,AR,Bu,pure_bind]
     exact h1
    ·refine (Ah.mp hy).elim (λz=>?_) λhy=>?_
     ·subst z
      exact absurd hf hk
     ·exact h3 y hy hf
 obtain ⟨cl,h1,h2,h3,_⟩:=gen scope.names [] h (λx c e=>by simp at e)
 refine ⟨cl,?_,h2,h3⟩
 unfold closureFor
 rw [← h1]
 simp only [bind_pure]
noncomputable def CQ (X:Cx)(scope:Scope)(N:List Str)(cl:List (Str×Addr))(C:Addr)(s₁:Shared)(H₁:Hp)(fp:List Addr):Cx where
 prog:=X.prog
 w:=X.w
 K:=X.K
 mg:=X.mg
 base:=X.base
 A:=X.A
 N:=N
 s₀:=s₁
 H₀:=H₁
 env:=compEnvC scope cl C X.env
 outer:=X.stack
 stack:=X.stack
 ex:=fp
 fn:=λ_=>false
 calm:=X.calm
 pn:=[]
 xe:=λ_ _=>False
def PF (X:Cx)(ifs:List Expr)(t:TT):Prop:=
 ∀ (pins:List (Addr×Obj)) (s:Shared) (σ:St) (H:Hp) (Q:Bool->Hp->Prop),Inv X pins σ H s->t σ H Q ->
  wpAny (model X.prog X.w) X.A (tests X.env ifs) (TP X pins σ Q) X.xe s
def Aaa:TT:=λ_ H Q=>Q true H
theorem W9 {X:Cx}:PF X [] Aaa:=λ_ _ _ H _ I h=>wpAny_tests_nil ⟨H,I,h⟩
theorem VL {X:Cx}{c:Expr}{t:TT}(h:PT X c t):PF X [c] t:=λpins s σ H Q I q=>wpAny_tests_one (h pins s σ H Q I q)
def FvOk (X:Cx)(sc:Scope):List (Nat×Str)->Prop
 | []=>True
 | p::r=>(X.N[p.1]? = some p.2∧(X.env.scope.names.lookup p.2=some .cell∨X.env.scope.names.lookup p.2=some .free)∧(sc.names.lookup p.2=some .cell∨sc.names.lookup p.2=some .free))∧FvOk X sc r
theorem FvOk.get {X:Cx}{sc:Scope}:∀ {l:List (Nat×Str)} {k:Nat} {p:Nat×Str},FvOk X sc l->l[k]? = some p ->
  X.N[p.1]? = some p.2∧(X.env.scope.names.lookup p.2=some .cell∨X.env.scope.names.lookup p.2=some .free)∧(sc.names.lookup p.2=some .cell∨sc.names.lookup p.2=some .free)
 | [],_,_,_,h=>(by simp at h)
 | _::_,0,_,hf,h=>by simp at h;subst h;exact hf.1
 | _::_,k+1,_,hf,h=>FvOk.get (k:=k) hf.2 (by simpa using h)
noncomputable def st0 (nc:Nat)(fv:List (Nat×Str))(σ:St):St:=List.replicate nc none++fv.map λp=>σ.getD p.1 none
theorem IK {scope:Scope}{env:Env}{x:Str}(hcell:∀ y∈scope.names,y.2≠.cell)
  (h:(relabel scope env).names.lookup x=some .cell∨(relabel scope env).names.lookup x=some .free):(x,NameKind.free)∈scope.names:=by
 have key:∀ k,(relabel scope env).names.lookup x=some k->k=.cell∨k=.free->(x,NameKind.free)∈scope.names:=λk hk hkk=>by
  have hm:=BN hk
  obtain ⟨⟨n,k'⟩,hy,e⟩:=Aw.mp hm
  dsimp only at e
  by_cases hc:(k'==NameKind.free&&env.scope.kind==.function&&env.kindOf n==some .cell)=true
  ·rw [if_pos hc] at e
   cases e
   have:k'=.free:=by
    rw [Ae,Ae] at hc
    exact beq_iff_eq.mp hc.1.1
   subst this
   exact hy
  ·rw [if_neg hc] at e
   cases e
   rcases hkk with e|e
   ·subst e;exact absurd rfl (hcell _ hy)
   ·subst e;exact hy
 rcases h with h|h
 ·exact key _ h (.inl rfl)
 ·exact key _ h (.inr rfl)
theorem Un.lay {fs ex:List Addr}{H H':Hp}{h h':Heap}{D:Addr}{o:HO}(u:Un fs ex H H' h h')(hD:h.objs.size≤D)(hn:H' D=none):Un fs ex H (upd H' D o) h h' where
 keep:=u.keep
 slot:=u.slot
 free:=λb ob q n hx=>by
  rw [CK (AA (Az (An q) hD))]
  exact u.free b ob q n hx
 there:=u.there
 tups:=λb xs q=>by have:=u.tups b xs q;rw [CK (CM this hn)];exact this
 frzs:=λb ob xs q=>by have:=u.frzs b ob xs q;rw [CK (CM this hn)];exact this
 tbls:=λb ps q=>by
  obtain ⟨m,e⟩:=u.tbls b ps q
  exact ⟨m,by rw [CK (CM e hn)];exact e⟩
theorem HOk.lay {P:Program}{w:World}{H:Hp}{h:Heap}{D:Addr}{o:HO}(x:HOk P w H h)(hn:H D=none)(new:ObjOk P w (upd H D o) h D o):HOk P w (upd H D o) h:=λb u e=>by
 by_cases hb:b=D
 ·subst hb;rw [DG] at e;cases e;exact new
 ·rw [CK hb] at e
  exact (x b u e).stay (λc v _ q=>q) (λc q=>by rw [CK (CM q hn)];exact q) λc xs q=>by rw [CK (CM q hn)];exact q
section
variable {X:Cx} {tg iter elt:Expr} {ifs:List Expr} {scope:Scope} {pos:Pos} {wi:TI} {own:List Str} {fv:List (Nat×Str)} {g:TG} {tt:TT} {te:TE}
structure L0 (X:Cx) (scope:Scope) (fv:List (Nat×Str)):Prop where
 calm:X.calm=true
 kind:scope.kind=.function
 cell:∀ y∈scope.names,y.2≠.cell
 names:∀ y∈scope.names,y.2=.local->scope.names.lookup y.1=some .local
 free:∀ y∈scope.names,y.2=.free->X.env.kindOf y.1=some .cell∨X.env.kindOf y.1=some .free
 fv:FvOk X (relabel scope X.env) fv
end
section
variable {X:Cx}
theorem Sn:OpR X (compareOp .Is) (λx y H Q=>∃ a b,x=.bl a∧y=.bl b∧Q (.bl (a==b)) H):=by
 intro pins s σ H x y v u Q I rx ry h
 obtain ⟨a,b,rfl,rfl,q⟩:=h
 cases rx
 cases ry
 exact is_bool (LK I q rfl)
theorem U4 {bs:List Bool}{us:List Value}(r:Vals (bs.map V.bl) us){i:Nat}{v:Value}(e:us[i]? = some v):∃ b,bs[i]? = some b∧v=.bool b:=by
 have hl:=r.length
 rw [Ac] at hl
 have hi:i<us.length:=(Af.mp e).1
 obtain ⟨u,hu,ru⟩:=r.get (i:=i) (x:=V.bl (bs[i]'(by ext))) (by simp)
 rw [e] at hu
 cases hu
 exact ⟨_,by simp,ru⟩
theorem M9 (bs:List Bool):((List.range bs.length).all λi=>(bs[i]?).getD true)=bs.all id:=by
 refine Bool.eq_iff_iff.mpr ⟨λh=>Ar.mpr λb hb=>?_,λh=>Ar.mpr λi hi=>?_⟩
 ·obtain ⟨k,lk,rfl⟩:=List.mem_iff_getElem.mp hb
  simpa [lk] using Ar.mp h k (BC.mpr lk)
 ·have lk:i<bs.length:=BC.mp hi
  simpa [lk] using Ar.mp h bs[i] (BS lk)
theorem UH {ss:List Str}:∀ {us:List Value},Vals (ss.map V.str) us->StrsAre us ss:=by
 induction ss with
 | nil=>intro us r;rw [List.map_nil] at r;cases r;exact .nil
 | cons b bs ih =>
  intro us r
  rw [AO] at r
  cases r with
  | cons r1 r2 =>
   obtain ⟨t,rfl⟩:=r1
   exact .cons b t (ih r2)
theorem O8:∀ {us:List Value} {ss:List Str},StrsAre us ss->Vals (ss.map V.str) us
 | _,_,.nil=>.nil
 | _,_,.cons b t r=>.cons ⟨t,rfl⟩ (O8 r)
theorem Sl (hc:X.calm=true):Fx X (.builtin "all") (λxs H Q=>∃ (p:Addr) (bs:List Bool),xs=[.ref p]∧SqL X.K H p (bs.map V.bl)∧Q (.bl (bs.all id)) H):=by
 intro pins s σ H xs us Q I r h
 obtain ⟨p,bs,rfl,hq,q⟩:=h
 obtain ⟨u,rfl,ru⟩:=vals1 r
 cases ru
 obtain ⟨its,rv,pl,hz⟩:=I.list hq
 obtain ⟨m,F⟩:=I.fr
 have hlt:p<s.heap.objs.size:=by obtain ⟨o,n,e,_⟩:=pl;exact An e
 refine call_all_walk (wpAny_pyIter_list pl.isList ?_)
 refine ⟨s.heap.objs.size,[s.heap.objs.size,p],[s.heap.objs.size],its.toArray.size,_,_,λi=>(bs[i]?).getD true,rfl,
  Walks.list (A:=X.A.in1) (I.ok.hd hc) _ p (AA hlt) its.toArray,⟨⟨_,Ai _ rfl,rfl,rfl⟩,pl.isList.push _⟩,λi v s' Q' E' hP hQ=>?_,λh' tk hk=>?_⟩
 ·obtain ⟨b,e,rfl⟩:=U4 rv (i:=i) (v:=v) (by simpa using hP)
  exact Bh (by simpa only [e,Option.getD_some] using hQ)
 ·have e:((List.range its.toArray.size).all λi=>(bs[i]?).getD true)=bs.all id:=by
   rw [Aq,← rv.length,Ac]
   exact M9 bs
  rw [e]
  exact ⟨.bl _,H,I.kept λb x e=>hk b x (λhm=>absurd (An e) (by rw [Ao.mp hm];exact A8 _)) (Ad _ e),rfl,q⟩
theorem NA:OpR X (binaryOp .Mult) (λx y H Q=>∃ (z:Str) (n:Int),x=.str z∧y=.int n∧MulOk z n∧Q (.str (Txt.mul z n)) H):=by
 intro pins s σ H x y v u Q I rx ry h
 obtain ⟨z,n,rfl,rfl,hok,q⟩:=h
 obtain ⟨t,rfl⟩:=rx
 obtain ⟨t',rfl⟩:=ry
 exact SB.mul hok λt' k=>⟨.str _,H,I.tok _,⟨_,rfl⟩,q⟩
theorem part_of {v:Value}{o:Option Int}(p:IsPart v o):∃ l:Option (Int×Tok),v=partValue l∧l.map (·.1)=o:=by
 cases p with
 | none=>exact ⟨none,rfl,rfl⟩
 | int i t=>exact ⟨some (i,t),rfl,rfl⟩
theorem Wb:SlR X (λx lo hi H Q=>∃ z:Str,x=.str z∧z.length≤sizeLine∧Q (.str (Txt.slice z lo hi)) H):=by
 intro pins s σ H x v vl vu lo hi sl Q I rx hs pl pu h
 obtain ⟨z,rfl,hz,q⟩:=h
 obtain ⟨t,rfl⟩:=rx
 obtain ⟨l,rfl,rfl⟩:=part_of pl
 obtain ⟨u,rfl,rfl⟩:=part_of pu
 refine ⟨"str",_,PySem.F.slot_str_getitem.lookup,typeIs_str _ _ _,?_⟩
 refine wpAny_getItem_str_slice (l:=l) (u:=u) (st:=none) hs rfl (post_val_or_str ⟨AN (Txt.slice_le z _ _) hz,λt' k=>?_⟩)
 exact ⟨.str _,H,I.tok _,⟨_,rfl⟩,q⟩
end
section
variable {X:Cx} {pins:List (Addr×Obj)} {σ:St} {H:Hp} {s:Shared} {h':Heap}
theorem Inv.turnedL {t':Nat}{ch:List Addr}(I:Inv X pins σ H s)(k:∀ b o,b∉ch->s.heap.get? b=some o->h'.get? b=some o)(hf:∀ b∈ch,Hv X pins H b):Inv X pins σ H { s with heap:=h',toks:=t' }:=by
 have nit:∀ b u,H b=some u->b∉ch:=λb u e z=>by rw [(hf b z).1] at e;cases e
 refine I.step (g':=s.gens) (d':=s.drawn) (ch:=ch) (λb hb=>?_) (λb o _ _ hc e _=>k b o hc e) (λb o _ _ hc e _=>⟨o.slots,k b o hc e⟩) (λ_ _ _ _ n=>n) (λb o hc e=>⟨o,k b o hc e⟩)
  (λ_ _ e=>e) (λ_ _ _ e=>e) (λb ps e=>⟨#[],by rw [e];simp⟩) (λm hm=>?_) (λb u e=>?_) I.bare
 ·obtain ⟨_,f1,_,f3,f4,f5⟩:=hf b hb
  exact ⟨f3,f1,f4,f5⟩
 ·obtain ⟨o,es,ep,ho,r⟩:=hm
  exact ⟨o,es,ep,k _ o (λz=>(hf _ z).2.1 rfl) ho,r⟩
 ·refine (I.hok b u e).stay (λc v hc q=>k c v ?_ q) (λ_ q=>q) λ_ _ q=>q
  rcases hc with z|z
  ·rw [z];exact nit b u e
  ·exact nit c _ z
theorem Inv.lay {T:Addr}{o:HO}(I:Inv X pins σ H s)(hf:Hv X pins H T)(hs:X.s₀.heap.objs.size≤T)(new:ObjOk X.prog X.w (upd H T o) s.heap T o):Inv X pins σ (upd H T o) s:=by
 obtain ⟨f0,f1,f2,f3,f4,f5⟩:=hf
 refine ⟨I.ok,I.os,I.bare,I.base.lay hs f0,I.loc,I.cell,?_,λx c e=>?_,λp hp=>?_,I.hok.lay f0 new,I.len⟩
 ·rw [CK (Ne.symm f1)];exact I.free
 ·rw [CK (f4 x c e)];exact I.freeC x c e
 ·obtain ⟨e,n,r⟩:=I.pin p hp
  exact ⟨e,by rw [CK (f5 p hp)];exact n,r⟩
end
noncomputable def Its (x:Str):It:=⟨λi _=>i<x.cps.size,λi H v H'=>H'=H∧∃ c,x.cps[i]? = some c∧v=.str ⟨#[c]⟩,λi _=>i=x.cps.size⟩
theorem QJ {P:Program}{w:World}{K:PySem.W.Frag}{tg:Expr}{ty:String}(x:Str)(t:Tok)(it:Addr)
  (W:∀ A:Around,A.handled=none->Walks P w A it [it] [it] x.cps.size (SignAt x) (λi h=>h.IsStrIter it ty x t i)) (W0:∀ A:Around,∀ i (s:Shared) (Q:Value->Shared->Prop) (E:Value->Shared->Prop),s.heap.IsStrIter it ty x t i->Q (.ref it) s->wpAny (model P w) A (pyIter (.ref it)) Q E s)
  (hn:["enumerate","zip","dict_itemiterator","dict_reverseitemiterator","odict_iterator","itertools.zip_longest","itertools.pairwise"].contains ty=false):Turn P w K tg (Its x) [it] it (λi h=>h.IsStrIter it ty x t i) where
 mem:=by simp
 obj:=λi h st b hb=>by
  have e:b=it:=by simpa using hb
  subst e
  obtain ⟨o,e,c,d⟩:=st
  exact ⟨o,e,λv z=>by rw [d] at z;cases z⟩
 keep:=λi h h' st k=>by
  obtain ⟨o,e,r⟩:=st
  exact ⟨o,k it (by simp) o e,r⟩
 item:=by
  intro X hP hw hK hc i pins s σ H E I hf st hg
  subst hP hw hK
  refine (W X.A (I.ok.hd hc)).item i s _ _ hg st λv h' tk hv st' kk=>?_
  obtain ⟨c,u,hc',rfl⟩:=hv
  have I1:Inv X pins σ H { s with heap:=h',toks:=tk }:=I.turnedL kk hf
  obtain ⟨o,e,c2,d⟩:=id st'
  exact ⟨_,rfl,L1 (s:={ s with heap:=h',toks:=tk }) e c2 d hn ⟨.str ⟨#[c]⟩,H,I1,⟨u,rfl⟩,⟨rfl,c,hc',rfl⟩,st',λb hb=>(hf b hb).1⟩⟩
 done:=by
  intro X hP hw hK hc i pins s σ H E I hf st hg
  subst hP hw hK
  have e:i=x.cps.size:=hg
  subst e
  exact (W X.A (I.ok.hd hc)).done s _ _ st λh' tk kk=>⟨rfl,I.turnedL kk hf⟩
 self:=λA i s Q E st h=>W0 A i s Q E st h
def ZE (tl:TE):TI:=fun σ H R=>tl σ H λx H1=>∃ z,x=.str z∧R (Its z) H1
theorem W8 {X:Cx}{tg l:Expr}{tl:TE}(hl:PE X l tl):PI X tg l (ZE tl):=by
 intro pins s σ H R I h
 refine thn (hl pins s σ H _ I h) λv s1 ⟨x,H1,I1,r1,q1⟩=>?_
 obtain ⟨z,e,q⟩:=q1
 subst e
 obtain ⟨t,rfl⟩:=r1
 have fin:∀ ty:String,(∀ A:Around,A.handled=none->Walks X.prog X.w A s1.heap.objs.size [s1.heap.objs.size] [s1.heap.objs.size] z.cps.size (SignAt z) (λi h=>h.IsStrIter s1.heap.objs.size ty z t i)) ->
   (∀ A:Around,∀ i (s:Shared) (Q:Value->Shared->Prop) (E:Value->Shared->Prop),s.heap.IsStrIter s1.heap.objs.size ty z t i->Q (.ref s1.heap.objs.size) s->wpAny (model X.prog X.w) A (pyIter (.ref s1.heap.objs.size)) Q E s) ->
   ["enumerate","zip","dict_itemiterator","dict_reverseitemiterator","odict_iterator","itertools.zip_longest","itertools.pairwise"].contains ty=false ->
   PIE X pins σ tg R (.ref s1.heap.objs.size) { s1 with heap:=s1.heap.push { cls:=.type ty,data:=.fields #[.str z t,.int 0 0] } }:=λty W W0 hn=>by
  refine ⟨s1.heap.objs.size,[s1.heap.objs.size],_,_,H1,rfl,I1.kept (t':=s1.toks) λb o e=>Ad _ e,QJ z t _ W W0 hn,⟨_,Ai _ rfl,rfl,rfl⟩,λb hb=>?_,q⟩
  have e:b=s1.heap.objs.size:=by simpa using hb
  subst e
  exact I1.fpOk (Aj _) (I1.hok.fresh (Aj _))
 cases ha:z.cps.all (·<128)
 ·exact wpAny_pyIter_wide ha (fin _ (λA hA=>Walks.strWide hA _ z t) (λA i s Q E st h=>wpAny_pyIter_striter_wide st h) (by decide))
 ·exact wpAny_pyIter_ascii ha (fin _ (λA hA=>Walks.strAscii hA _ z t) (λA i s Q E st h=>wpAny_pyIter_striter_ascii st h) (by decide))
def Itz (K:PySem.W.Frag)(a b:Addr):It:=
 ⟨λi H=>∃ xs ys x y,SqL K H a xs∧SqL K H b ys∧xs[i]? = some x∧ys[i]? = some y,
  λi H v H'=>∃ T x y,v=.ref T∧H T=none∧H'=upd H T (.tup [x,y])∧(∀ xs,SqL K H a xs->xs[i]? = some x)∧∀ ys,SqL K H b ys->ys[i]? = some y,
  λi H=>∃ xs ys,SqL K H a xs∧SqL K H b ys∧(xs.length≤i∨ys.length≤i)⟩
def X5 (z TI TO i1 i2 l1 l2:Addr)(i:Nat)(h:Heap):Prop:=
 IsZip h z TI TO .none∧IsPair h TI (.ref i1) (.ref i2)∧(∃ a b,IsPair h TO a b)∧h.IsListIter i1 l1 i∧h.IsListIter i2 l2 i
theorem Sf {P:Program}{w:World}{K:PySem.W.Frag}{elts:List Expr}{k:Nat}{pos:Pos}(z TI TO i1 i2 l1 l2:Addr)(D:ZipApart z TI TO i1 i2 l1 l2) :
  Turn P w K (.Tuple elts k pos) (Itz K l1 l2) [z,TI,TO,i1,i2] z (X5 z TI TO i1 i2 l1 l2) where
 mem:=by simp
 obj:=λi h st b hb=>by
  obtain ⟨h1,h2,⟨_,_,h3⟩,⟨o4,h4,_,d4⟩,⟨o5,h5,_,d5⟩⟩:=st
  have hb':b=z∨b=TI∨b=TO∨b=i1∨b=i2:=by simpa using hb
  rcases hb' with e|e|e|e|e<;>subst e
  ·exact ⟨_,h1,λv e=>by cases e⟩
  ·exact ⟨_,h2,λv e=>by cases e⟩
  ·exact ⟨_,h3,λv e=>by cases e⟩
  ·exact ⟨_,h4,λv e=>by rw [d4] at e;cases e⟩
  ·exact ⟨_,h5,λv e=>by rw [d5] at e;cases e⟩
 keep:=λi h h' st kk=>by
  obtain ⟨h1,h2,⟨a,b,h3⟩,h4,h5⟩:=st
  exact ⟨kk z (by simp) _ h1,kk TI (by simp) _ h2,⟨a,b,kk TO (by simp) _ h3⟩,h4.at λo e=>kk i1 (by simp) o e,h5.at λo e=>kk i2 (by simp) o e⟩
 item:=by
  intro X hP hw hK hc i pins s σ H E I hf st hg
  subst hP hw hK
  obtain ⟨xs,ys,x,y,hq1,hq2,hx,hy⟩:=hg
  obtain ⟨its1,rv1,p1,hz1⟩:=I.list hq1
  obtain ⟨its2,rv2,p2,hz2⟩:=I.list hq2
  obtain ⟨u1,hu1,ru1⟩:=rv1.get hx
  obtain ⟨u2,hu2,ru2⟩:=rv2.get hy
  obtain ⟨h1,h2,⟨a,b,h3⟩,h4,h5⟩:=st
  have D':=D
  refine wpAny_pyNext_zip_item D h1 h2 h3 h4 h5 p1.isList p2.isList (x:=u1) (y:=u2) (by simpa using hu1) (by simpa using hu2) λh' a1 a2 a3 a4 a5 a6 hk=>?_
  have lt:∀ {c:Addr} {o:Obj},s.heap.get? c=some o->c≠s.heap.objs.size:=λe=>AA (An e)
  refine ⟨_,rfl,wpAny_letOwnedTupleGo_zip a1 λh'' b1 sb=>?_⟩
  have nT:s.heap.objs.size≠z:=Ne.symm (lt h1)
  have kk:∀ b o,b∉[z,TI,TO,i1,i2]->s.heap.get? b=some o->h''.get? b=some o:=λb o hb e=>by
   simp only [Ah,Au,AY,not_or] at hb
   exact (sb.2 b hb.1).trans (hk b o hb.1 hb.2.2.1 hb.2.2.2.1 hb.2.2.2.2 e)
  have I1:Inv X pins σ H { s with heap:=h'',toks:=s.toks }:=I.turnedL kk hf
  have hn:H s.heap.objs.size=none:=I.hok.fresh (Aj _)
  have fT:Hv X pins H s.heap.objs.size:=I.fpOk (Aj _) hn
  have I2:Inv X pins σ (upd H s.heap.objs.size (.tup [x,y])) { s with heap:=h'',toks:=s.toks }:=I1.lay fT I.sz
   ⟨⟨by show 2≤sizeLine;decide,_,(sb.2 _ nT).trans a5,rfl⟩,[u1,u2],.cons ru1 (.cons ru2 .nil),⟨_,(sb.2 _ nT).trans a5,rfl,_,rfl⟩⟩
  refine ⟨.ref s.heap.objs.size,_,I2,rfl,⟨_,x,y,rfl,hn,rfl,λxs' hx'=>by rw [I.list_inj hx' hq1];exact hx,λys' hy'=>by rw [I.list_inj hy' hq2];exact hy⟩,?_,λb hb=>?_⟩
  ·exact ⟨b1,(sb.2 _ D.TIz).trans (hk _ _ D.TIz D.TITO D.TIi1 D.TIi2 h2),⟨_,_,(sb.2 _ D.TOz).trans a2⟩,a3.at λo e=>(sb.2 _ D.i1z).trans e,a4.at λo e=>(sb.2 _ D.i2z).trans e⟩
  ·have hb':b=z∨b=TI∨b=TO∨b=i1∨b=i2:=by simpa using hb
   have ne:b≠s.heap.objs.size:=by
    obtain ⟨o4,e4,_⟩:=h4
    obtain ⟨o5,e5,_⟩:=h5
    rcases hb' with e|e|e|e|e<;>subst e
    ·exact lt h1
    ·exact lt h2
    ·exact lt h3
    ·exact lt e4
    ·exact lt e5
   rw [CK ne]
   exact (hf b hb).1
 done:=by
  intro X hP hw hK hc i pins s σ H E I hf st hg
  subst hP hw hK
  obtain ⟨xs,ys,hq1,hq2,hend⟩:=hg
  obtain ⟨its1,rv1,p1,hz1⟩:=I.list hq1
  obtain ⟨its2,rv2,p2,hz2⟩:=I.list hq2
  obtain ⟨h1,h2,⟨a,b,h3⟩,h4,h5⟩:=st
  have l1:=rv1.length
  have l2:=rv2.length
  refine wpAny_pyNext_zip_end (I.ok.hd hc) D h1 h2 h3 h4 h5 p1.isList p2.isList (by
   rcases hend with e|e
   ·exact .inl (by simp;ext)
   ·exact .inr (by simp;ext)) λh' hk=>⟨rfl,I.turnedL (t':=s.toks) (λb o hb e=>?_) hf⟩
  simp only [Ah,Au,AY,not_or] at hb
  exact hk b o hb.1 hb.2.2.1 hb.2.2.2.1 hb.2.2.2.2 e
 self:=λA i s Q E st h=>wpAny_pyIter_zip st.1 h
theorem WO {a b:Nat}(h:a<b∨b<a):a≠b:=by ext
theorem L9 (n a b:Nat)(h1:a<n)(h2:b<n):ZipApart (n+4) (n+2) (n+3) n (n+1) a b:=by
 constructor<;>(refine WO ?_;ext)
def ZQ (K:PySem.W.Frag)(ta:TA):TI:=fun σ H R=>ta σ H λvs H1=>∃ a b,vs=[.ref a,.ref b]∧(∃ xs,SqL K H1 a xs)∧(∃ ys,SqL K H1 b ys)∧R (Itz K a b) H1
theorem Wg {X:Cx}{a b:Expr}{ta:TA}{p pos:Pos}{elts:List Expr}{k:Nat}{tp:Pos}(hg:Gl X "zip")(hm:X.mg "zip"=none)(hz:bootBuiltins "zip"=some (.type "zip"))(ha:PA X [a,b] ta)(hs:starEach [a,b] X.env=[(false,eval a X.env),(false,eval b X.env)]:=by rfl)(hs2:starEach [b] X.env=[(false,eval b X.env)]:=by rfl) :
  PI X (.Tuple elts k tp) (.Call (.Name "zip" p) [a,b] [] pos) (ZQ X.K ta):=by
 intro pins s σ H R I h
 refine Call_ (HI I hg hm hz (BB (thn (ha pos pins s σ H _ I h) λus s1 ⟨vs,H1,I1,r1,q1⟩=>?_) (by rw [hs,hs2]) (by rw [hs2];rfl)))
 obtain ⟨a1,a2,e,⟨xs,hx⟩,⟨ys,hy⟩,q⟩:=q1
 subst e
 obtain ⟨u1,u2,rfl,ra,rb⟩:=vals2 r1
 cases ra
 cases rb
 obtain ⟨its1,rv1,p1,_⟩:=I1.list hx
 obtain ⟨its2,rv2,p2,_⟩:=I1.list hy
 have lt1:a1<s1.heap.objs.size:=by obtain ⟨o,n,e,_⟩:=p1;exact An e
 have lt2:a2<s1.heap.objs.size:=by obtain ⟨o,n,e,_⟩:=p2;exact An e
 refine call_zip_2 p1.isList p2.isList λh' z1 z2 z3 z4 z5 hsz hk=>?_
 refine wpAny_pyIter_zip z1 ?_
 refine ⟨s1.heap.objs.size+4,[s1.heap.objs.size+4,s1.heap.objs.size+2,s1.heap.objs.size+3,s1.heap.objs.size,s1.heap.objs.size+1],_,_,H1,rfl,I1.kept (t':=s1.toks) λb o e=>hk b o e,
  Sf _ _ _ _ _ a1 a2 ?_,⟨z1,z2,⟨_,_,z3⟩,z4,z5⟩,λb hb=>?_,q⟩
 ·exact L9 _ _ _ lt1 lt2
 ·have hle:s1.heap.objs.size≤b:=by
   have hb':b=s1.heap.objs.size+4∨b=s1.heap.objs.size+2∨b=s1.heap.objs.size+3∨b=s1.heap.objs.size∨b=s1.heap.objs.size+1:=by simpa using hb
   rcases hb' with rfl|rfl|rfl|rfl|rfl<;>simp
  exact I1.fpOk hle (I1.hok.fresh hle)
structure LcS (esc scope:Scope):Prop where
 kind:scope.kind=.function
 cell:∀ y∈scope.names,y.2≠.cell
 names:∀ y∈scope.names,y.2=.local->scope.names.lookup y.1=some .local
 free:∀ y∈scope.names,y.2=.free->esc.names.lookup y.1=some .cell∨esc.names.lookup y.1=some .free
theorem FP {X:Cx}{scope:Scope}{fv:List (Nat×Str)}(esc:Scope)(he:X.env.scope=esc)(hc:X.calm=true)(h:LcS esc scope)(hf:FvOk X (relabel scope X.env) fv):L0 X scope fv:=
 ⟨hc,h.kind,h.cell,h.names,λy hy hk=>by subst he;exact h.free y hy hk,hf⟩
end L2
namespace PV
open PySem L2 PySem.Spec PyProof.Rows
noncomputable def adv (mask:Nat)(p:SetTable.Probe):SetTable.Probe:=
 if p.more > 0 then { p with j:=p.j+1,more:=p.more-1 } else
 { p with j:=(SetTable.leap mask p.i p.perturb).1,more:=SetTable.runEnd mask (SetTable.leap mask p.i p.perturb).1-(SetTable.leap mask p.i p.perturb).1,i:=(SetTable.leap mask p.i p.perturb).1,perturb:=(SetTable.leap mask p.i p.perturb).2 }
noncomputable def rn (mask:Nat)(q:Nat×Nat):SetTable.Probe:={ j:=q.1,more:=SetTable.runEnd mask q.1-q.1,i:=q.1,perturb:=q.2,dummy:=none }
noncomputable def lp (mask:Nat)(h:Int):Nat->Nat×Nat
 | 0=>(SetTable.bits h % (mask+1),SetTable.bits h)
 | k+1=>SetTable.leap mask (lp mask h k).1 (lp mask h k).2
noncomputable def pth (mask:Nat)(h:Int):Nat->SetTable.Probe
 | 0=>rn mask (lp mask h 0)
 | n+1=>adv mask (pth mask h n)
def Xg (mask:Nat):Prop:=mask=7∨mask=31∨mask=127∨mask=15∨mask=63∨mask=255
structure TW (mask:Nat) (pl:List Nat) (es:List (Int×Value)):Prop where
 so:pl.Pairwise (·<·)
 ln:pl.length=es.length
 mo:Xg mask
 lt:es.length≤mask
 bd:∀ j∈pl,j≤mask
 rc:∀ (i j:Nat) (e:Int×Value),pl[i]? = some j->es[i]? = some e->∃ n,n<10*SetTable.turns mask∧(pth mask e.1 n).j=j∧∀ m,m≤n->(pth mask e.1 m).j∈pl
structure Zc where
 K:PySem.W.Frag
 P:Program
 w:World
noncomputable abbrev _root_.L2.Cx.z (X:Cx):Zc:=⟨X.K,X.prog,X.w⟩
inductive D where
 | non|bl (b:Bool)|int (i:Int)|str (x:Str)|tup (ds:List D)|lst (ds:List D)|dct (ks vs:List D)|set (ds:List D)|ref (k:Nat)
noncomputable instance:DecidableEq D:=λa b=>Classical.propDecidable (a=b)
inductive MO where
 | lst (ds:List D)|dct (ks ds:List D)
abbrev Sto:=List MO
abbrev Rs (α:Type):=Option (α×Sto)
abbrev Ro:=List (Option D)
abbrev Ex:=Ro->Sto->Rs D
abbrev Exs:=Ro->Sto->Rs (List D)
abbrev Tx:=Ro->Sto->Rs Bool
inductive Fl where
 | nx|bk|ct|rt (d:D)
abbrev Sx:=Ro->Sto->Rs (Fl×Ro)
abbrev Fn:=List D->Sto->Rs D
noncomputable def bM {α β:Type}(r:Rs α)(f:α->Sto->Rs β):Rs β:=match r with
 | none=>none
 | some (a,m)=>f a m
theorem CA {α β:Type}{a:α}{m:Sto}{f:α->Sto->Rs β}:bM (some (a,m)) f=f a m:=rfl
theorem EW {α β:Type}{r:Rs α}{f:α->Sto->Rs β}{b:β}{m':Sto}(h:bM r f=some (b,m')):∃ a m,r=some (a,m)∧f a m=some (b,m'):=by
 cases r with
 | none=>cases h
 | some p=>exact ⟨p.1,p.2,rfl,h⟩
mutual
noncomputable def DJ (w:World):D->Int
 | .non=>reduceHash 0xFCA86420
 | .int i=>hashInt i
 | .str x=>hashStr w x
 | .tup ds=>reduceHash (Builtin.Tuple.tupleHashOf (EO w ds))
 | _=>0
noncomputable def EO (w:World):List D->List Int
 | []=>[]
 | d::ds=>DJ w d::EO w ds
end
mutual
noncomputable def dpt:D->Nat
 | .tup ds=>Lc ds+1
 | _=>0
noncomputable def Lc:List D->Nat
 | []=>0
 | d::ds=>max (dpt d) (Lc ds)
end
mutual
noncomputable def hsh:D->Bool
 | .non=>true
 | .int _=>true
 | .str _=>true
 | .tup ds=>GZ ds
 | _=>false
noncomputable def GZ:List D->Bool
 | []=>true
 | d::ds=>hsh d&&GZ ds
end
def DQ (d:D):Bool:=hsh d&&decide (dpt d≤8)
structure KeysOk (ks:List D):Prop where
 len:ks.length≤sizeLine
 nd:ks.Nodup
 ok:∀ k∈ks,DQ k=true
theorem Ez (w:World)(ds:List D):EO w ds=ds.map (DJ w):=by induction ds with
 | nil=>rfl
 | cons d ds ih=>rw [EO,ih];rfl
def VU (a:Addr)(xs:List (Int×V×V))(h:Heap):Prop:=(a==sysModules)=false∧∃ o es ep,h.get? a=some o∧o.ExactDict∧o.data=.dict es ep∧Paired (λ(x:Int×V×V) (e:DictEntry)=>e.hash=x.1∧RelV x.2.1 e.key∧RelV x.2.2 e.val) xs es.toList∧ep=es.size
noncomputable def E3 (a:Addr)(xs:List (Int×V×V)):HO:=.ext (VU a xs)
def ZF (w:World)(a:Addr)(us:List (Int×V))(h:Heap):Prop:=∃ o es ep t,h.get? a=some o∧o.ExactSet∧o.data=.set es ep t∧es.size<scanBound∧t.fits es.size=true∧Vals (us.map (·.2)) (es.toList.map (·.2)) ∧
 (w.params.followText "set-order"=true∨t.led=true∧(t.plain=false∨es.size≤1)) ∧
 ((∃ n x,(n,V.str x)∈us)∨t.dummies=#[]∧TW t.mask t.place.toList es.toList∧es.size*5<t.mask*3∧t.led=(!w.params.followText "set-order")∧(t.plain=false∨es.size=0))∧us.map (·.1)=es.toList.map (·.1)
noncomputable def UC (w:World)(a:Addr)(us:List (Int×V)):HO:=.ext (ZF w a us)
def FzL (K:Zc)(th:List Addr)(H:Hp)(a:Addr)(vs:List V):Prop:=(a∉th∧Rd H a (.lst vs)) ∨
 ∃ (o:Obj) (its:Array Value) (n:Nat),K.K.lookup a=some o∧o.cls=.type "list"∧o.dict=none∧o.data=.seq its n∧its.size≤sizeLine∧Vals vs its.toList
theorem FzL.sq {K:Zc}{th:List Addr}{H:Hp}{a:Addr}{vs:List V}(h:FzL K th H a vs):SqL K.K H a vs:=h.elim (λh=>.inl h.2) .inr
mutual
def Rep (K:Zc)(th:List Addr)(H:Hp):D->V->Prop
 | .non,v=>v=.non
 | .bl b,v=>v=.bl b
 | .int i,v=>v=.int i
 | .str x,v=>v=.str x∧x.length≤sizeLine∧PyData.strOk x=true
 | .tup ds,v=>∃ a vs,v=.ref a∧SqT K.K H a vs∧RepL K th H ds vs∧ds.length≤sizeLine
 | .lst ds,v=>∃ a vs,v=.ref a∧FzL K th H a vs∧RepL K th H ds vs∧ds.length≤sizeLine
 | .dct ks ds,v=>∃ a xs,v=.ref a∧a∉th∧H a=some (E3 a xs)∧xs.map (·.1)=EO K.w ks∧RepL K th H ks (xs.map (·.2.1))∧RepL K th H ds (xs.map (·.2.2))∧KeysOk ks
 | .set ds,v=>∃ a us vs,v=.ref a∧a∉th∧H a=some (UC K.w a us)∧us.Perm ((EO K.w ds).zip vs)∧RepL K th H ds vs∧ds.Nodup
 | .ref k,v=>∃ a,v=.ref a∧th[k]? = some a
def RepL (K:Zc)(th:List Addr)(H:Hp):List D->List V->Prop
 | [],vs=>vs=[]
 | d::ds,vs=>∃ v r,vs=v::r∧Rep K th H d v∧RepL K th H ds r
end
section
variable {K:Zc} {th th':List Addr} {H H':Hp}
theorem RepL.nil:RepL K th H [] []:=by unfold RepL;rfl
theorem RepL.cons {d:D}{ds:List D}{v:V}{r:List V}(h:Rep K th H d v)(t:RepL K th H ds r):RepL K th H (d::ds) (v::r):=by unfold RepL;exact ⟨v,r,rfl,h,t⟩
theorem RepL.inv {d:D}{ds:List D}{vs:List V}(h:RepL K th H (d::ds) vs):∃ v r,vs=v::r∧Rep K th H d v∧RepL K th H ds r:=by unfold RepL at h;exact h
theorem RepL.inv0 {vs:List V}(h:RepL K th H [] vs):vs=[]:=by unfold RepL at h;exact h
theorem RepL.len:∀ {ds:List D} {vs:List V},RepL K th H ds vs->vs.length=ds.length
 | [],_,h=>by rw [h.inv0];rfl
 | d::ds,_,h=>by obtain ⟨v,r,rfl,_,t⟩:=h.inv;simp [RepL.len t]
theorem RepL.get:∀ {ds:List D} {vs:List V} {i:Nat} {d:D},RepL K th H ds vs->ds[i]? = some d->∃ v,vs[i]? = some v∧Rep K th H d v
 | [],_,_,_,_,e=>by simp at e
 | d::ds,_,0,d',h,e=>by obtain ⟨v,r,rfl,h1,_⟩:=h.inv;simp at e;subst e;exact ⟨v,rfl,h1⟩
 | d::ds,_,i+1,d',h,e=>by
  obtain ⟨v,r,rfl,_,t⟩:=h.inv
  obtain ⟨u,e1,e2⟩:=RepL.get (i:=i) t (by simpa using e)
  exact ⟨u,by simpa using e1,e2⟩
theorem RepL.getV:∀ {ds:List D} {vs:List V} {i:Nat} {v:V},RepL K th H ds vs->vs[i]? = some v->∃ d,ds[i]? = some d∧Rep K th H d v
 | [],_,_,_,h,e=>by rw [h.inv0] at e;simp at e
 | d::ds,_,0,v',h,e=>by obtain ⟨v,r,rfl,h1,_⟩:=h.inv;simp at e;subst e;exact ⟨d,rfl,h1⟩
 | d::ds,_,i+1,v',h,e=>by
  obtain ⟨v,r,rfl,_,t⟩:=h.inv
  obtain ⟨u,e1,e2⟩:=RepL.getV (i:=i) t (by simpa using e)
  exact ⟨u,by simpa using e1,e2⟩
theorem RepL.app:∀ {ds es:List D} {vs us:List V},RepL K th H ds vs->RepL K th H es us->RepL K th H (ds++es) (vs++us)
 | [],_,_,_,h,t=>by rw [h.inv0];exact t
 | d::ds,_,_,_,h,t=>by obtain ⟨v,r,rfl,h1,h2⟩:=h.inv;exact .cons h1 (RepL.app h2 t)
theorem RepL.take:∀ {ds:List D} {vs:List V} (n:Nat),RepL K th H ds vs->RepL K th H (ds.take n) (vs.take n)
 | _,_,0,_=>by simp only [List.take_zero];exact .nil
 | [],_,n+1,h=>by rw [h.inv0];exact .nil
 | d::ds,_,n+1,h=>by obtain ⟨v,r,rfl,h1,h2⟩:=h.inv;exact .cons h1 (RepL.take n h2)
theorem RepL.drop:∀ {ds:List D} {vs:List V} (n:Nat),RepL K th H ds vs->RepL K th H (ds.drop n) (vs.drop n)
 | _,_,0,h=>h
 | [],_,n+1,h=>by rw [h.inv0];exact .nil
 | d::ds,_,n+1,h=>by obtain ⟨v,r,rfl,h1,h2⟩:=h.inv;exact RepL.drop n h2
theorem RepL.setAt:∀ {ds:List D} {vs:List V} (i:Nat) {d:D} {v:V},RepL K th H ds vs->Rep K th H d v->RepL K th H (ds.set i d) (vs.set i v)
 | [],_,_,_,_,h,_=>by rw [h.inv0];exact .nil
 | d::ds,_,0,_,_,h,g=>by obtain ⟨v,r,rfl,h1,h2⟩:=h.inv;exact .cons g h2
 | d::ds,_,i+1,_,_,h,g=>by obtain ⟨v,r,rfl,h1,h2⟩:=h.inv;exact .cons h1 (RepL.setAt i h2 g)
structure Ext (th:List Addr) (H:Hp) (th':List Addr) (H':Hp):Prop where
 pre:∃ more,th'=th++more
 out:∀ a o,a∉th->H a=some o->a∉th'
 keep:∀ a o,a∉th->H a=some o->H' a=some o
theorem Ext.refl (th:List Addr)(H:Hp):Ext th H th H:=⟨⟨[],by simp⟩,λ_ _ n _=>n,λ_ _ _ h=>h⟩
theorem Ext.trans {th2:List Addr}{H2:Hp}(a:Ext th H th' H')(b:Ext th' H' th2 H2):Ext th H th2 H2:=by
 obtain ⟨m1,e1⟩:=a.pre
 obtain ⟨m2,e2⟩:=b.pre
 exact ⟨⟨m1++m2,by rw [e2,e1,List.append_assoc]⟩,λx o n h=>b.out x o (a.out x o n h) (a.keep x o n h),λx o n h=>b.keep x o (a.out x o n h) (a.keep x o n h)⟩
theorem Ext.at (e:Ext th H th' H'){k:Nat}{a:Addr}(h:th[k]? = some a):th'[k]? = some a:=by
 obtain ⟨m,rfl⟩:=e.pre
 rw [Av (Af.mp h).1]
 exact h
theorem Ext.new {p:Addr}(h:H p=none)(o:HO):Ext th H th (upd H p o):=⟨⟨[],by simp⟩,λ_ _ n _=>n,λa u _ e=>by rw [CK (CM e h)];exact e⟩
theorem Ext.newM {p:Addr}(h:H p=none)(o:HO):Ext th H (th++[p]) (upd H p o):=⟨⟨[p],rfl⟩,λa u n e z=>(AE.mp z).elim n λz=>(by rw [Ao.mp z,h] at e;cases e),
 λa u _ e=>by rw [CK (CM e h)];exact e⟩
theorem Ext.mut {p:Addr}(h:p∈th)(o:HO):Ext th H th (upd H p o):=⟨⟨[],by simp⟩,λ_ _ n _=>n,λa u n e=>by rw [CK (λz=>n (by rw [z];exact h))];exact e⟩
theorem Ext.rd (e:Ext th H th' H'){a:Addr}{u:HO}(n:a∉th)(h:Rd H a u):a∉th'∧Rd H' a u:=by
 rcases h with h|⟨o,h⟩
 ·exact ⟨e.out _ _ n h,.inl (e.keep _ _ n h)⟩
 ·exact ⟨e.out _ _ n h,.inr ⟨o,e.keep _ _ n h⟩⟩
theorem Ext.fz (e:Ext th H th' H'){a:Addr}{vs:List V}(h:FzL K th H a vs):FzL K th' H' a vs:=h.elim (λh=>.inl (e.rd h.1 h.2)) .inr
def HC (th:List Addr)(H:Hp):Prop:=∀ a,a∈th->∃ o,H a=some o∧((∃ xs,o=.lst xs)∨∃ φ,o=.ext φ)
theorem Ext.sqT (e:Ext th H th' H')(t:HC th H){a:Addr}{xs:List V}(h:SqT K.K H a xs):SqT K.K H' a xs:=by
 rcases h with h|h
 ·refine .inl (e.rd (λz=>?_) h).2
  obtain ⟨o',q,q2⟩:=t a z
  rcases h with h|⟨o,h⟩
  ·rcases q2 with ⟨_,rfl⟩|⟨_,rfl⟩<;>(rw [q] at h;cases h)
  ·rcases q2 with ⟨_,rfl⟩|⟨_,rfl⟩<;>(rw [q] at h;cases h)
 ·exact .inr h
mutual
theorem Rep.ext (e:Ext th H th' H')(t:HC th H):∀ {d:D} {v:V},Rep K th H d v->Rep K th' H' d v
 | .non,_,h=>h
 | .bl _,_,h=>h
 | .int _,_,h=>h
 | .str _,_,h=>h
 | .tup ds,_,h=>by
  unfold Rep at h ⊢
  obtain ⟨a,vs,q,h1,h2,z⟩:=h
  exact ⟨a,vs,q,e.sqT t h1,RepL.ext e t h2,z⟩
 | .lst ds,_,h=>by
  unfold Rep at h ⊢
  obtain ⟨a,vs,q,h1,h2,z⟩:=h
  exact ⟨a,vs,q,e.fz h1,RepL.ext e t h2,z⟩
 | .dct ks ds,_,h=>by
  unfold Rep at h ⊢
  obtain ⟨a,xs,q,n,h1,h2,h3,h4,h5⟩:=h
  exact ⟨a,xs,q,e.out _ _ n h1,e.keep _ _ n h1,h2,RepL.ext e t h3,RepL.ext e t h4,h5⟩
 | .set ds,_,h=>by
  unfold Rep at h ⊢
  obtain ⟨a,us,vs,q,n,h1,h2,h3,h4⟩:=h
  exact ⟨a,us,vs,q,e.out _ _ n h1,e.keep _ _ n h1,h2,RepL.ext e t h3,h4⟩
 | .ref k,_,h=>by
  unfold Rep at h ⊢
  obtain ⟨a,q,h1⟩:=h
  exact ⟨a,q,e.at h1⟩
theorem RepL.ext (e:Ext th H th' H')(t:HC th H):∀ {ds:List D} {vs:List V},RepL K th H ds vs->RepL K th' H' ds vs
 | [],_,h=>by rw [h.inv0];exact .nil
 | _::_,_,h=>by
  obtain ⟨v,r,rfl,h1,h2⟩:=h.inv
  exact .cons (Rep.ext e t h1) (RepL.ext e t h2)
end
theorem Vz {N:List Addr}(hN:N.Nodup){i j:Nat}{x:Addr}(a:N[i]? = some x)(b:N[j]? = some x):i=j:=by
 obtain ⟨hi,ei⟩:=Af.mp a
 obtain ⟨hj,ej⟩:=Af.mp b
 have:=List.pairwise_iff_getElem.mp hN
 rcases Nat.lt_trichotomy i j with h|h|h
 ·exact absurd (ei.trans ej.symm) (this i j hi hj h)
 ·exact h
 ·exact absurd (ej.trans ei.symm) (this j i hj hi h)
def MRep (K:Zc)(th:List Addr)(H:Hp)(a:Addr):MO->Prop
 | .lst ds=>∃ vs,H a=some (.lst vs)∧RepL K th H ds vs∧ds.length≤sizeLine
 | .dct ks ds=>∃ xs,H a=some (E3 a xs)∧xs.map (·.1)=EO K.w ks∧RepL K th H ks (xs.map (·.2.1))∧RepL K th H ds (xs.map (·.2.2))∧KeysOk ks
theorem MRep.ext (e:Ext th H th' H')(t:HC th H){a:Addr}{o:MO}(ha:∀ u,H a=some u->H' a=some u)(h:MRep K th H a o):MRep K th' H' a o:=by
 cases o with
 | lst ds=>obtain ⟨vs,q1,q2,z⟩:=h;exact ⟨vs,ha _ q1,q2.ext e t,z⟩
 | dct ks ds=>obtain ⟨xs,q1,q2,q3,q4,z⟩:=h;exact ⟨xs,ha _ q1,q2,q3.ext e t,q4.ext e t,z⟩
structure StoOk (K:Zc) (th:List Addr) (mu:Sto) (H:Hp):Prop where
 len:th.length=mu.length
 nd:th.Nodup
 at':∀ (k:Nat) (a:Addr) (o:MO),th[k]? = some a->mu[k]? = some o->MRep K th H a o
theorem StoOk.out {mu:Sto}(s:StoOk K th mu H):HC th H:=λa ha=>by
 obtain ⟨k,hk,rfl⟩:=List.mem_iff_getElem.mp ha
 have hk':k<mu.length:=by rw [← s.len];exact hk
 have q:=s.at' k th[k] mu[k] (by simp) (by simp)
 cases e:mu[k] with
 | lst ds=>rw [e] at q;obtain ⟨vs,q,_⟩:=q;exact ⟨_,q,.inl ⟨_,rfl⟩⟩
 | dct ks ds=>rw [e] at q;obtain ⟨vs,q,_⟩:=q;exact ⟨_,q,.inr ⟨_,rfl⟩⟩
theorem StoOk.new {mu:Sto}(s:StoOk K th mu H){p:Addr}(h:H p=none)(o:HO):StoOk K th mu (upd H p o):=
 ⟨s.len,s.nd,λk a o' e1 e2=>(s.at' k a o' e1 e2).ext (.new h o) s.out λu q=>by rw [CK (CM q h)];exact q⟩
theorem StoOk.newG {mu:Sto}(s:StoOk K th mu H){p:Addr}(h:H p=none)(o:HO)(mo:MO)(r:MRep K (th++[p]) (upd H p o) p mo):StoOk K (th++[p]) (mu++[mo]) (upd H p o):=by
 have ex:Ext th H (th++[p]) (upd H p o):=.newM h _
 refine ⟨by simp [s.len],?_,λk a o' e1 e2=>?_⟩
 ·refine BL.mpr ⟨s.nd,by simp,λx hx y hy=>?_⟩
  rw [Ao.mp hy]
  obtain ⟨xs,q,_⟩:=s.out x hx
  exact CM q h
 ·by_cases hk:k<th.length
  ·rw [Av hk] at e1
   rw [Av (by rw [← s.len];exact hk)] at e2
   exact (s.at' k a o' e1 e2).ext ex s.out λu q=>by rw [CK (CM q h)];exact q
  ·have hk2:k=th.length:=by
    have:=(Af.mp e1).1
    simp at this
    ext
   subst hk2
   have e1':a=p:=by simpa using e1.symm
   have e2':o'=mo:=by rw [s.len] at e2;simpa using e2.symm
   subst e1' e2'
   exact r
theorem StoOk.newM {mu:Sto}(s:StoOk K th mu H){p:Addr}(h:H p=none){ds:List D}{vs:List V}(r:RepL K th H ds vs)(hz:ds.length≤sizeLine):StoOk K (th++[p]) (mu++[.lst ds]) (upd H p (.lst vs)):=
 s.newG h _ _ ⟨vs,DG,r.ext (.newM h _) s.out,hz⟩
theorem StoOk.putG {mu:Sto}(s:StoOk K th mu H){k:Nat}{a:Addr}(hk:th[k]? = some a)(o:HO)(mo:MO)(r:MRep K th (upd H a o) a mo):StoOk K th (mu.set k mo) (upd H a o):=by
 have ex:Ext th H th (upd H a o):=.mut (Al hk) _
 refine ⟨by simp [s.len],s.nd,λj b o' e1 e2=>?_⟩
 by_cases hj:j=k
 ·subst hj
  rw [hk] at e1
  cases e1
  have:j<mu.length:=by rw [← s.len];exact (Af.mp hk).1
  have e2':o'=mo:=by simpa [this] using e2.symm
  subst e2'
  exact r
 ·rw [AJ (Ne.symm hj)] at e2
  have nb:b≠a:=λz=>by
   subst z
   exact hj (Vz s.nd e1 hk)
  exact (s.at' j b o' e1 e2).ext ex s.out λu q=>by rw [CK nb];exact q
theorem StoOk.put {mu:Sto}(s:StoOk K th mu H){k:Nat}{a:Addr}(hk:th[k]? = some a){ds:List D}{vs:List V}(r:RepL K th H ds vs)(hz:ds.length≤sizeLine):StoOk K th (mu.set k (.lst ds)) (upd H a (.lst vs)):=
 s.putG hk _ _ ⟨vs,DG,r.ext (.mut (Al hk) _) s.out,hz⟩
theorem KeysOk.nil:KeysOk []:=⟨A0 _,List.nodup_nil,λ_ h=>nomatch h⟩
theorem StoOk.newD {mu:Sto}(s:StoOk K th mu H){p:Addr}(h:H p=none):StoOk K (th++[p]) (mu++[.dct [] []]) (upd H p (E3 p [])):=
 s.newG h _ _ ⟨[],DG,rfl,.nil,.nil,.nil⟩
def Tr (K:Zc){A:Type}(th:List Addr)(H:Hp)(r:Rs A)(k:A->List Addr->Sto->Hp->Prop):Prop:=
 ∃ a mu',r=some (a,mu')∧∀ th' H',Ext th H th' H'->StoOk K th' mu' H'->k a th' mu' H'
theorem Tr.mono {A:Type}{r:Rs A}{k k':A->List Addr->Sto->Hp->Prop}(h:Tr K th H r k)(f:∀ a th' mu' H',Ext th H th' H'->StoOk K th' mu' H'->k a th' mu' H'->k' a th' mu' H'):Tr K th H r k':=by
 obtain ⟨a,mu',e,q⟩:=h
 exact ⟨a,mu',e,λth' H' x s=>f a th' mu' H' x s (q th' H' x s)⟩
theorem Tr.ahead {A:Type}{r:Rs A}{k:A->List Addr->Sto->Hp->Prop}(h:Tr K th H r k)(x:Ext th H th' H'):Tr K th' H' r k:=by
 obtain ⟨a,mu',e,q⟩:=h
 exact ⟨a,mu',e,λth2 H2 y s=>q th2 H2 (x.trans y) s⟩
theorem Tr.bind {A B:Type}{r:Rs A}{f:A->Sto->Rs B}{k:B->List Addr->Sto->Hp->Prop}(h:Tr K th H (bM r f) k):Tr K th H r λa th1 mu1 H1=>Tr K th1 H1 (f a mu1) k:=by
 obtain ⟨b,mu',e,q⟩:=h
 obtain ⟨a,m,e1,e2⟩:=EW e
 exact ⟨a,m,e1,λth1 H1 x1 s1=>⟨b,mu',e2,λth' H' x s=>q th' H' (x1.trans x) s⟩⟩
theorem Tr.bindE {A B:Type}{r:Rs A}{f:A->Sto->Rs B}{k:B->List Addr->Sto->Hp->Prop}(h:Tr K th H (bM r f) k):Tr K th H r λa th1 mu1 H1=>r=some (a,mu1)∧Tr K th1 H1 (f a mu1) k:=by
 obtain ⟨b,mu',e,q⟩:=h
 obtain ⟨a,m,e1,e2⟩:=EW e
 exact ⟨a,m,e1,λth1 H1 x1 s1=>⟨e1,b,mu',e2,λth' H' x s=>q th' H' (x1.trans x) s⟩⟩
theorem Tr.ret {A:Type}{a:A}{mu:Sto}{k:A->List Addr->Sto->Hp->Prop}(h:Tr K th H (some (a,mu)) k)(s:StoOk K th mu H):k a th mu H:=by
 obtain ⟨b,mu',e,q⟩:=h
 cases e
 exact q th H (.refl _ _) s
theorem Tr.retX {A:Type}{a:A}{mu:Sto}{k:A->List Addr->Sto->Hp->Prop}(h:Tr K th H (some (a,mu)) k)(x:Ext th H th' H')(s:StoOk K th' mu H'):k a th' mu H':=by
 obtain ⟨b,mu',e,q⟩:=h
 cases e
 exact q th' H' x s
theorem Tr.no {A:Type}{k:A->List Addr->Sto->Hp->Prop}(h:Tr K th H (none:Rs A) k):False:=by
 obtain ⟨b,mu',e,q⟩:=h
 cases e
def EnvOk (K:Zc)(th:List Addr)(H:Hp)(ro:Ro)(st:L2.St):Prop:=ro.length=st.length∧∀ (i:Nat) (d:D),ro[i]? = some (some d)->∃ v,st[i]? = some (some v)∧Rep K th H d v
theorem EnvOk.ext {ro:Ro}{st:L2.St}(h:EnvOk K th H ro st)(e:Ext th H th' H')(t:HC th H):EnvOk K th' H' ro st:=⟨h.1,λi d q=>by
 obtain ⟨v,a,b⟩:=h.2 i d q
 exact ⟨v,a,b.ext e t⟩⟩
theorem EnvOk.set {ro:Ro}{st:L2.St}(h:EnvOk K th H ro st)(i:Nat){d:D}{v:V}(r:Rep K th H d v):EnvOk K th H (ro.set i (some d)) (st.set i (some v)):=by
 refine ⟨by simp [h.1],λj d' q=>?_⟩
 by_cases hj:j=i
 ·subst hj
  have hl:j<ro.length:=by
   have:=(Af.mp q).1
   simpa using this
  have:d'=d:=by simpa [hl] using q.symm
  subst this
  exact ⟨v,by simp [← h.1,hl],r⟩
 ·rw [AJ (Ne.symm hj)] at q ⊢
  exact h.2 j d' q
abbrev KV' (K:Zc) (Q:VK):D->List Addr->Sto->Hp->Prop:=λd th' _ H'=>∀ v,Rep K th' H' d v->Q v H'
def rdE (K:Zc)(m:Ex):TE:=λst H Q=>∃ th mu ro,StoOk K th mu H∧EnvOk K th H ro st∧Tr K th H (m ro mu) (KV' K Q)
def rdA (K:Zc)(m:Exs):TA:=λst H Q=>∃ th mu ro,StoOk K th mu H∧EnvOk K th H ro st∧Tr K th H (m ro mu) λds th' _ H'=>∀ vs,RepL K th' H' ds vs->Q vs H'
def rdT (K:Zc)(m:Tx):TT:=λst H Q=>∃ th mu ro,StoOk K th mu H∧EnvOk K th H ro st∧Tr K th H (m ro mu) λb _ _ H'=>Q b H'
def VZ (K:Zc)(E:Ends)(p:Fl×Ro)(th:List Addr)(_:Sto)(H:Hp):Prop:=∀ st',EnvOk K th H p.2 st'->match p.1 with
 | .nx=>E.nx st' H
 | .bk=>E.bk st' H
 | .ct=>E.ct st' H
 | .rt d=>∀ v,Rep K th H d v->E.rt v H
def rdS (K:Zc)(m:Sx):TS:=λE st H=>∃ th mu ro,StoOk K th mu H∧EnvOk K th H ro st∧Tr K th H (m ro mu) (VZ K E)
def r2 (K:Zc)(op:D->D->Sto->Rs D):R2:=λx y H Q=>∃ th mu d e,StoOk K th mu H∧Rep K th H d x∧Rep K th H e y∧Tr K th H (op d e mu) (KV' K Q)
def rL (K:Zc)(f:Fn):List V->Hp->VK->Prop:=λxs H Q=>∃ th mu ds,StoOk K th mu H∧RepL K th H ds xs∧Tr K th H (f ds mu) (KV' K Q)
end
structure SV (X:Cx) (e:Expr) (m:Ex):Prop where
 r:PE X e (rdE X.z m)
structure SVT (X:Cx) (e:Expr) (m:Tx):Prop where
 r:PT X e (rdT X.z m)
structure SVW (X:Cx) (e:Expr) (m:Tx):Prop where
 r:PW X e (rdT X.z m)
def SVA (X:Cx)(es:List Expr)(m:Exs):Prop:=PA X es (rdA X.z m)∧∀ ro mu ds mu',m ro mu=some (ds,mu')->ds.length=es.length
structure SVS (X:Cx) (s:Stmt) (m:Sx):Prop where
 r:PS X s (rdS X.z m)
structure SVB (X:Cx) (b:List Stmt) (m:Sx):Prop where
 r:PSs X b (rdS X.z m)
def OpV (X:Cx)(f:Value->Value->Sem Value)(op:D->D->Sto->Rs D):Prop:=OpR X f (r2 X.z op)
def CallV (X:Cx)(f:Value)(g:Fn):Prop:=Fx X f (rL X.z g)
theorem PE.weak {X:Cx}{e:Expr}{t t':TE}(h:PE X e t)(f:∀ st H Q,t' st H Q->t st H Q):PE X e t':=λpins s st H Q I q=>h pins s st H Q I (f st H Q q)
theorem PT.weak {X:Cx}{e:Expr}{t t':TT}(h:PT X e t)(f:∀ st H Q,t' st H Q->t st H Q):PT X e t':=λpins s st H Q I q=>h pins s st H Q I (f st H Q q)
theorem PW.weak {X:Cx}{e:Expr}{t t':TT}(h:PW X e t)(f:∀ st H Q,t' st H Q->t st H Q):PW X e t':=λwh pins s st H Q I q=>h wh pins s st H Q I (f st H Q q)
theorem PA.weak {X:Cx}{e:List Expr}{t t':TA}(h:PA X e t)(f:∀ st H Q,t' st H Q->t st H Q):PA X e t':=λpos pins s st H Q I q=>h pos pins s st H Q I (f st H Q q)
theorem PS.weak {X:Cx}{e:Stmt}{t t':TS}(h:PS X e t)(f:∀ E st H,t' E st H->t E st H):PS X e t':=λpins s st H E I q=>h pins s st H E I (f E st H q)
theorem PSs.weak {X:Cx}{e:List Stmt}{t t':TS}(h:PSs X e t)(f:∀ E st H,t' E st H->t E st H):PSs X e t':=λpins s st H E I q=>h pins s st H E I (f E st H q)
section
variable {X:Cx} {K:Zc} {th:List Addr} {mu:Sto} {H:Hp}
noncomputable def BX (i:Nat):Ex:=λro mu=>match ro[i]? with
 | some (some d)=>some (d,mu)
 | _=>none
noncomputable def eC (d:D):Ex:=λ_ mu=>some (d,mu)
theorem BY (i:Nat){x:Str}{pos:Pos}(hN:X.N[i]? = some x:=by rfl)(hv:Vis X.env.scope x:=by first|exact Or.inl rfl|exact Or.inr (Or.inl rfl)|exact Or.inr (Or.inr rfl))(hd:(x==("__debug__":Str))=false:=by decide)
  (hcd:(x==("__classdict__":Str))=false:=by decide):SV X (.Name x pos) (BX i):=⟨PE.weak (S2 hN hv hd hcd) λst H Q h=>by
 obtain ⟨th,mu,ro,so,en,t⟩:=h
 unfold BX at t
 cases e:ro[i]? with
 | none=>rw [e] at t;exact t.no.elim
 | some o =>
  cases o with
  | none=>rw [e] at t;exact t.no.elim
  | some d =>
   rw [e] at t
   obtain ⟨v,ev,rv⟩:=en.2 i d e
   exact ⟨v,ev,t.ret so v rv⟩⟩
theorem FW {e:Expr}{d:D}{v:V}(h:PE X e (tC v))(r:∀ K th H,Rep K th H d v):SV X e (eC d):=⟨PE.weak h λst H Q q=>by
 obtain ⟨th,mu,ro,so,en,t⟩:=q
 exact t.ret so v (r _ _ _)⟩
theorem B4 {i j pos}:SV X (.Constant (.int i) j pos) (eC (.int i)):=FW WJ λ_ _ _=>by unfold Rep;rfl
theorem KQ {i j pos}:SV X (.Constant (.bool i) j pos) (eC (.bl i)):=FW YQ λ_ _ _=>by unfold Rep;rfl
theorem Dw {j pos}:SV X (.Constant .none j pos) (eC .non):=FW Wc λ_ _ _=>by unfold Rep;rfl
theorem Cj {i j pos}(h:i.length≤sizeLine∧PyData.strOk i=true:=by symm):SV X (.Constant (.str i) j pos) (eC (.str i)):=FW V1 λ_ _ _=>by unfold Rep;exact ⟨rfl,h⟩
theorem LD {x:Str}{i:Int}{pos:Pos}(hm:∃ t,X.mg x=some (.int i t))(hg:Gl X x:=by rfl)(hd:(x==("__debug__":Str))=false:=by decide):SV X (.Name x pos) (eC (.int i)):=by
 obtain ⟨t,hm⟩:=hm
 exact FW (HY (v:=.int i) hg hm ⟨t,rfl⟩ hd) λ_ _ _=>by unfold Rep;rfl
theorem OK {x:Str}{i:Str}{pos:Pos}(hm:∃ t,X.mg x=some (.str i t))(h:i.length≤sizeLine∧PyData.strOk i=true:=by symm)(hg:Gl X x:=by rfl)(hd:(x==("__debug__":Str))=false:=by decide):SV X (.Name x pos) (eC (.str i)):=by
 obtain ⟨t,hm⟩:=hm
 exact FW (HY (v:=.str i) hg hm ⟨t,rfl⟩ hd) λ_ _ _=>by unfold Rep;exact ⟨rfl,h⟩
def B2 (g:D->D->Sto->Rs D)(a b:Ex):Ex:=λro mu=>bM (a ro mu) λx m1=>bM (b ro m1) λy m2=>g x y m2
theorem LC {a b:Ex}{g:D->D->Sto->Rs D}{st:L2.St}{Q:VK}(h:rdE K (B2 g a b) st H Q):tOp (r2 K g) (rdE K a) (rdE K b) st H Q:=by
 obtain ⟨th,mu,ro,so,en,t⟩:=h
 refine ⟨th,mu,ro,so,en,t.bind.mono λx th1 mu1 H1 e1 s1 t1 v rv=>?_⟩
 exact ⟨th1,mu1,ro,s1,en.ext e1 so.out,t1.bind.mono λy th2 mu2 H2 e2 s2 t2 u ru=>⟨th2,mu2,x,y,s2,rv.ext e2 s1.out,ru,t2⟩⟩
theorem Cc {a b:Expr}{op:Operator}{g:D->D->Sto->Rs D}{ma mb:Ex}{pos:Pos}(ho:OpV X (binaryOp op) g)(ha:SV X a ma)(hb:SV X b mb):SV X (.BinOp a op b pos) (B2 g ma mb):=
 ⟨PE.weak (Yn ho ha.r hb.r) λ_ _ _ h=>LC h⟩
theorem IG {a b:Expr}{op:CmpOp}{g:D->D->Sto->Rs D}{ma mb:Ex}{pos:Pos}(ho:OpV X (compareOp op) g)(ha:SV X a ma)(hb:SV X b mb)(hm:behindInMarks op b=false:=by first|exact Nb _|with_unfolding_all rfl):SV X (.Compare a [op] [b] pos) (B2 g ma mb):=
 ⟨PE.weak (Ub ho ha.r hb.r hm) λ_ _ _ h=>LC h⟩
theorem CI {a b:Expr}{g:D->D->Sto->Rs D}{ma mb:Ex}{pos:Pos}(ho:IxR X (r2 X.z g))(ha:SV X a ma)(hb:SV X b mb)(hs:Lv b:=by intro _ _;rfl):SV X (.Subscript a b pos) (B2 g ma mb):=
 ⟨PE.weak (Vj ho ha.r hb.r hs) λ_ _ _ h=>LC h⟩
noncomputable def e1 (g:D->Sto->Rs D)(a:Ex):Ex:=λro mu=>bM (a ro mu) λx m1=>g x m1
noncomputable def asB:D->Option Bool
 | .bl b=>some b
 | _=>none
def tV (a:Ex):Tx:=λro mu=>bM (a ro mu) λx m1=>(asB x).map λb=>(b,m1)
theorem Jk {d:D}{b:Bool}{v:V}(h:asB d=some b)(r:Rep K th H d v):v=.bl b:=by
 cases d with
 | bl c=>cases h;exact r
 | _=>cases h
theorem OM {a:Ex}{st:L2.St}{Q:Bool->Hp->Prop}(h:rdT K (tV a) st H Q):SI (rdE K a) st H Q:=by
 obtain ⟨th,mu,ro,so,en,t⟩:=h
 refine ⟨th,mu,ro,so,en,t.bind.mono λx th1 mu1 H1 e1 s1 t1 v rv=>?_⟩
 cases e:asB x with
 | none=>rw [e] at t1;exact t1.no.elim
 | some b=>rw [e] at t1;exact ⟨b,Jk e rv,t1.ret s1⟩
theorem E6 {e:Expr}{m:Ex}(h:SV X e m)(he:∀ whole,isTrue e X.env whole=(do let v←whole;standAt e.pos;holding [v] (truthy v)):=by intro _;rfl):SVT X e (tV m):=⟨PT.weak (WA h.r he) λ_ _ _ h=>OM h⟩
theorem Co {a b:Expr}{op:CmpOp}{g:D->D->Sto->Rs D}{ma mb:Ex}{pos:Pos}(ho:OpV X (compareOp op) g)(ha:SV X a ma)(hb:SV X b mb)(hm:behindInMarks op b=false:=by first|exact Nb _|with_unfolding_all rfl):SVT X (.Compare a [op] [b] pos) (tV (B2 g ma mb)):=
 ⟨PT.weak (OZ ho ha.r hb.r hm) λ_ _ _ h=>by
  obtain ⟨th,mu,ro,so,en,t⟩:=OM h
  exact LC ⟨th,mu,ro,so,en,t⟩⟩
def tNt (a:Tx):Tx:=λro mu=>bM (a ro mu) λb m1=>some (!b,m1)
theorem FG {e:Expr}{m:Tx}{pos:Pos}(h:SVT X e m):SVT X (.UnaryOp .Not e pos) (tNt m):=⟨PT.weak (Wj h.r) λst H Q h=>by
 obtain ⟨th,mu,ro,so,en,t⟩:=h
 exact ⟨th,mu,ro,so,en,t.bind.mono λb th1 mu1 H1 e1 s1 t1=>t1.ret s1⟩⟩
def tAn (a b:Tx):Tx:=λro mu=>bM (a ro mu) λx m1=>if x=true then b ro m1 else some (false,m1)
def tO (a b:Tx):Tx:=λro mu=>bM (a ro mu) λx m1=>if x=true then some (true,m1) else b ro m1
theorem Mm {a:Expr}{m:Tx}{pos:Pos}(ha:SVT X a m):SVW X (.BoolOp .And [a] pos) m:=⟨Tw ha.r⟩
theorem Fj {a:Expr}{m:Tx}{pos:Pos}(ha:SVT X a m):SVW X (.BoolOp .Or [a] pos) m:=⟨Xx ha.r⟩
theorem Pa {a b:Expr}{rest:List Expr}{m n:Tx}{pos:Pos}(ha:SVT X a m)(hb:SVW X (.BoolOp .And (b::rest) pos) n):SVW X (.BoolOp .And (a::b::rest) pos) (tAn m n):=⟨PW.weak (Wv ha.r hb.r) λst H Q h=>by
 obtain ⟨th,mu,ro,so,en,t⟩:=h
 refine ⟨th,mu,ro,so,en,t.bind.mono λb th1 mu1 H1 e1 s1 t1=>?_⟩
 cases b with
 | true=>exact ⟨th1,mu1,ro,s1,en.ext e1 so.out,t1⟩
 | false=>exact t1.ret s1⟩
theorem FQ {a b:Expr}{rest:List Expr}{m n:Tx}{pos:Pos}(ha:SVT X a m)(hb:SVW X (.BoolOp .Or (b::rest) pos) n):SVW X (.BoolOp .Or (a::b::rest) pos) (tO m n):=⟨PW.weak (XM ha.r hb.r) λst H Q h=>by
 obtain ⟨th,mu,ro,so,en,t⟩:=h
 refine ⟨th,mu,ro,so,en,t.bind.mono λb th1 mu1 H1 e1 s1 t1=>?_⟩
 cases b with
 | true=>exact t1.ret s1
 | false=>exact ⟨th1,mu1,ro,s1,en.ext e1 so.out,t1⟩⟩
theorem SVW.t {e:Expr}{m:Tx}(h:SVW X e m):SVT X e m:=⟨PW.pt h.r⟩
def eAn (a b:Ex):Ex:=λro mu=>bM (a ro mu) λx m1=>match asB x with
 | none=>none
 | some c=>if c=true then b ro m1 else some (.bl false,m1)
noncomputable def eO (a b:Ex):Ex:=λro mu=>bM (a ro mu) λx m1=>match asB x with
 | none=>none
 | some c=>if c=true then some (.bl true,m1) else b ro m1
def eNt (a:Ex):Ex:=λro mu=>bM (a ro mu) λx m1=>match asB x with
 | none=>none
 | some c=>some (.bl (!c),m1)
theorem RJ {a:Expr}{op}{m:Ex}{pos:Pos}(h:SV X a m):SV X (.BoolOp op [a] pos) m:=⟨Wi h.r⟩
theorem N2 {a b:Expr}{rest:List Expr}{m n:Ex}{pos:Pos}(ha:SV X a m)(hb:SV X (.BoolOp .And (b::rest) pos) n):SV X (.BoolOp .And (a::b::rest) pos) (eAn m n):=⟨PE.weak (WD ha.r hb.r) λst H Q h=>by
 obtain ⟨th,mu,ro,so,en,t⟩:=h
 refine ⟨th,mu,ro,so,en,t.bind.mono λx th1 mu1 H1 e1 s1 t1 v rv=>?_⟩
 cases e:asB x with
 | none=>rw [e] at t1;exact t1.no.elim
 | some c =>
  rw [e] at t1
  refine ⟨c,Jk e rv,?_⟩
  cases c with
  | true=>exact ⟨th1,mu1,ro,s1,en.ext e1 so.out,t1⟩
  | false=>exact t1.ret s1 _ (by unfold Rep;rfl)⟩
theorem WZ {a:Expr}{m:Ex}{pos:Pos}(ha:SV X a m):SV X (.UnaryOp .Not a pos) (eNt m):=⟨PE.weak (VQ ha.r) λst H Q h=>by
 obtain ⟨th,mu,ro,so,en,t⟩:=h
 refine ⟨th,mu,ro,so,en,t.bind.mono λx th1 mu1 H1 e1 s1 t1 v rv=>?_⟩
 cases e:asB x with
 | none=>rw [e] at t1;exact t1.no.elim
 | some c =>
  rw [e] at t1
  exact ⟨c,Jk e rv,t1.ret s1 _ (by unfold Rep;rfl)⟩⟩
def eIf (c:Tx)(a b:Ex):Ex:=λro mu=>bM (c ro mu) λx m1=>if x=true then a ro m1 else b ro m1
theorem En {c a b:Expr}{mc:Tx}{ma mb:Ex}{pos:Pos}(hc:SVT X c mc)(ha:SV X a ma)(hb:SV X b mb):SV X (.IfExp c a b pos) (eIf mc ma mb):=⟨PE.weak (Q0 hc.r ha.r hb.r) λst H Q h=>by
 obtain ⟨th,mu,ro,so,en,t⟩:=h
 refine ⟨th,mu,ro,so,en,t.bind.mono λb th1 mu1 H1 e1 s1 t1=>?_⟩
 cases b with
 | true=>exact ⟨th1,mu1,ro,s1,en.ext e1 so.out,t1⟩
 | false=>exact ⟨th1,mu1,ro,s1,en.ext e1 so.out,t1⟩⟩
noncomputable def B0:Exs:=λ_ mu=>some ([],mu)
def BW (a:Ex)(r:Exs):Exs:=λro mu=>bM (a ro mu) λx m1=>bM (r ro m1) λxs m2=>some (x::xs,m2)
theorem BZ:SVA X [] B0:=by
 refine ⟨PA.weak N6 λst H Q h=>?_,λro mu ds mu' h=>by cases h;rfl⟩
 obtain ⟨th,mu,ro,so,en,t⟩:=h
 exact t.ret so [] .nil
theorem BV {e:Expr}{es:List Expr}{m:Ex}{n:Exs}(ha:SV X e m)(hr:SVA X es n)(hs:starEach (e::es) X.env=(false,eval e X.env)::starEach es X.env:=by rfl):SVA X (e::es) (BW m n):=by
 refine ⟨PA.weak (Jl ha.r hr.1 hs) λst H Q h=>?_,λro mu ds mu' h=>?_⟩
 ·obtain ⟨th,mu,ro,so,en,t⟩:=h
  refine ⟨th,mu,ro,so,en,t.bind.mono λx th1 mu1 H1 e1 s1 t1 v rv=>?_⟩
  exact ⟨th1,mu1,ro,s1,en.ext e1 so.out,t1.bind.mono λxs th2 mu2 H2 e2 s2 t2 vs rvs=>t2.ret s2 _ (.cons (rv.ext e2 s1.out) rvs)⟩
 ·obtain ⟨x,m1,_,h⟩:=EW h
  obtain ⟨xs,m2,h1,h⟩:=EW h
  cases h
  rw [List.length_cons,List.length_cons,hr.2 _ _ _ _ h1]
def Cq (a:Exs):Ex:=λro mu=>bM (a ro mu) λxs m1=>some (.tup xs,m1)
def EL (a:Exs):Ex:=λro mu=>bM (a ro mu) λxs m1=>some (.lst xs,m1)
def G2 (a:Exs):Ex:=λro mu=>bM (a ro mu) λxs m1=>some (.ref m1.length,m1++[.lst xs])
theorem Rep.newTup (so:StoOk K th mu H){p:Addr}(h:H p=none){ds:List D}{vs:List V}(r:RepL K th H ds vs)(hz:ds.length≤sizeLine):Rep K th (upd H p (.tup vs)) (.tup ds) (.ref p):=by
 unfold Rep
 exact ⟨p,vs,rfl,SqT.of DG,r.ext (.new h _) so.out,hz⟩
theorem StoOk.notin (so:StoOk K th mu H){p:Addr}(h:H p=none):p∉th:=λz=>by
 obtain ⟨xs,e,_⟩:=so.out p z
 rw [h] at e
 cases e
theorem Rep.newLst (so:StoOk K th mu H){p:Addr}(h:H p=none){ds:List D}{vs:List V}(r:RepL K th H ds vs)(hz:ds.length≤sizeLine):Rep K th (upd H p (.lst vs)) (.lst ds) (.ref p):=by
 unfold Rep
 exact ⟨p,vs,rfl,.inl ⟨so.notin h,.inl DG⟩,r.ext (.new h _) so.out,hz⟩
theorem Cu {es:List Expr}{m:Exs}{x1}{pos:Pos}(h:SVA X es m)(hl:es.length≤1000:=by decide):SV X (.Tuple es x1 pos) (Cq m):=⟨PE.weak (VV h.1) λst H Q q=>by
 obtain ⟨th,mu,ro,so,en,t⟩:=q
 obtain ⟨d,mu',e,_⟩:=id t
 obtain ⟨xs0,m0,e0,_⟩:=EW e
 have hn:=h.2 _ _ _ _ e0
 have tb:Tr X.z th H (m ro mu) λds th' mu' H'=>ds.length≤1000∧Tr X.z th' H' (some (D.tup ds,mu')) (KV' X.z Q):=by
  obtain ⟨a,mu1,e1,q1⟩:=t.bind
  exact ⟨a,mu1,e1,λth' H' x s=>⟨by rw [h.2 _ _ _ _ e1];exact hl,q1 th' H' x s⟩⟩
 refine ⟨th,mu,ro,so,en,tb.mono λxs th1 mu1 H1 e1 s1 t1 vs rvs=>⟨?_,λp hp=>?_⟩⟩
 ·rw [rvs.len];exact AN t1.1 (by decide)
 ·exact t1.2.retX (.new hp _) (s1.new hp _) _ (Rep.newTup s1 hp rvs (AN t1.1 (by decide)))⟩
theorem Sb {es:List Expr}{m:Exs}{C:List D->Sto->Rs D}{st:L2.St}{ro:Ro}{k:D->List Addr->Sto->Hp->Prop}(h:SVA X es m)(hl:es.length≤1000)(t:Tr K th H (bM (m ro mu) C) k) :
  Tr K th H (m ro mu) λds th' mu' H'=>ds.length≤1000∧Tr K th' H' (C ds mu') k:=by
 obtain ⟨a,mu1,e1,q1⟩:=t.bind
 exact ⟨a,mu1,e1,λth' H' x s=>⟨by rw [h.2 _ _ _ _ e1];exact hl,q1 th' H' x s⟩⟩
theorem D1 {es:List Expr}{m:Exs}{pos:Pos}(h:SVA X es m)(hl:es.length≤1000:=by decide):SV X (.List es pos) (EL m):=⟨PE.weak (R4 h.1) λst H Q q=>by
 obtain ⟨th,mu,ro,so,en,t⟩:=q
 refine ⟨th,mu,ro,so,en,(Sb (st:=st) h hl t).mono λxs th1 mu1 H1 e1 s1 t1 vs rvs=>⟨?_,λp hp=>?_⟩⟩
 ·rw [rvs.len];exact AN t1.1 (by decide)
 ·exact t1.2.retX (.new hp _) (s1.new hp _) _ (Rep.newLst s1 hp rvs (AN t1.1 (by decide)))⟩
theorem Jq {es:List Expr}{m:Exs}{pos:Pos}(h:SVA X es m)(hl:es.length≤1000:=by decide):SV X (.List es pos) (G2 m):=⟨PE.weak (R4 h.1) λst H Q q=>by
 obtain ⟨th,mu,ro,so,en,t⟩:=q
 refine ⟨th,mu,ro,so,en,(Sb (st:=st) h hl t).mono λxs th1 mu1 H1 e1 s1 t1 vs rvs=>⟨?_,λp hp=>?_⟩⟩
 ·rw [rvs.len];exact AN t1.1 (by decide)
 ·refine t1.2.retX (.newM hp _) (s1.newM hp rvs (AN t1.1 (by decide))) _ ?_
  unfold Rep
  exact ⟨p,rfl,by rw [← s1.len];simp⟩⟩
def B1 (f:Fn)(a:Exs):Ex:=λro mu=>bM (a ro mu) λxs m1=>f xs m1
theorem SH {f:Fn}{a:Exs}{st:L2.St}{Q:VK}(h:rdE K (B1 f a) st H Q):tCB (rL K f) (rdA K a) st H Q:=by
 obtain ⟨th,mu,ro,so,en,t⟩:=h
 exact ⟨th,mu,ro,so,en,t.bind.mono λxs th1 mu1 H1 e1 s1 t1 vs rvs=>⟨th1,mu1,xs,s1,rvs,t1⟩⟩
theorem Cw {x:Str}{id:String}{g:Fn}{e:Expr}{es:List Expr}{m:Exs}{p pos:Pos}(hc:CallV X (.builtin id) g)(hm:X.mg x=none)(hv:bootBuiltins x=some (.builtin id))(ha:SVA X (e::es) m)(hg:Gl X x:=by rfl)
  (hn:x≠"__name__":=by decide) (hdb:(x==("__debug__":Str))=false:=by decide) (hs1:starEach (e::es) X.env=(false,eval e X.env)::starEach es X.env:=by rfl) (hs2:(backTo pos (starEach es X.env)).any (·.1)=false:=by rfl):SV X (.Call (.Name x p) (e::es) [] pos) (B1 g m):=
 ⟨PE.weak (Jv hc hg hm hv ha.1 hn hdb hs1 hs2) λ_ _ _ h=>SH h⟩
theorem Ct {x:Str}{T:String}{g:Fn}{e:Expr}{es:List Expr}{m:Exs}{p pos:Pos}(hc:CallV X (.type T) g)(hm:X.mg x=none)(hv:bootBuiltins x=some (.type T))(ha:SVA X (e::es) m)(hg:Gl X x:=by rfl)
  (hn:x≠"__name__":=by decide) (hdb:(x==("__debug__":Str))=false:=by decide) (hs1:starEach (e::es) X.env=(false,eval e X.env)::starEach es X.env:=by rfl) (hs2:(backTo pos (starEach es X.env)).any (·.1)=false:=by rfl):SV X (.Call (.Name x p) (e::es) [] pos) (B1 g m):=
 ⟨PE.weak (Qu hc hg hm hv ha.1 hn hdb hs1 hs2) λ_ _ _ h=>SH h⟩
def spF (K:Zc)(f:Fn)(n:Nat):Sp:=λvs H Q _=>∃ th mu ds,StoOk K th mu H∧RepL K th H ds vs∧ds.length=n∧Tr K th H (f ds mu) (KV' K Q)
structure Cal (P:Program) (w:World) (K:PySem.W.Frag) (mg:Str->Option Value) (base:Heap) (k:Nat) (x:Str) (f:Fn) (n:Nat):Prop where
 ex:∃ (ps:List Str) (a:Addr) (fd:FuncData),ps.length=n∧D4 P w K mg base CX0 k a fd ps (spF ⟨K,P,w⟩ f n)∧Binds K fd ps []∧PySem.W.keepIn K (.ref a)=true∧mg x=some (.ref a)
theorem B8 {x:Str}{k:Nat}{f:Fn}{n:Nat}{e:Expr}{es:List Expr}{m:Exs}{p pos:Pos}(C:Cal X.prog X.w X.K X.mg X.base k x f n)(hr:Room k X.A)(ha:SVA X (e::es) m)(hl:(e::es).length=n:=by rfl)(hg:Gl X x:=by rfl)
  (hdb:(x==("__debug__":Str))=false:=by decide) (he:starEach (e::es) X.env=(false,eval e X.env)::starEach es X.env:=by rfl) (hpl:(backTo pos (starEach es X.env)).any (·.1)=false:=by rfl):SV X (.Call (.Name x p) (e::es) [] pos) (B1 f m):=⟨by
 obtain ⟨ps,a,fd,hn,F,b,kp,mm⟩:=C.ex
 refine PE.weak (T7 F hr hg mm kp b .nil XR ha.1 hdb he hpl) λst H Q h=>?_
 obtain ⟨th,mu,ro,so,en,t⟩:=h
 have tb:Tr X.z th H (m ro mu) λds th' mu' H'=>ds.length=n∧Tr X.z th' H' (f ds mu') (KV' X.z Q):=by
  obtain ⟨a,mu1,e1,q1⟩:=t.bind
  exact ⟨a,mu1,e1,λth' H' x s=>⟨by rw [ha.2 _ _ _ _ e1];exact hl,q1 th' H' x s⟩⟩
 exact ⟨th,mu,ro,so,en,tb.mono λxs th1 mu1 H1 e1 s1 t1 vs rvs=>⟨th1,mu1,xs,s1,by simpa using rvs,t1.1,t1.2⟩⟩⟩
noncomputable def sNx:Sx:=λro mu=>some ((.nx,ro),mu)
def Ce (a b:Sx):Sx:=λro mu=>bM (a ro mu) λp m1=>match p.1 with
 | .nx=>b p.2 m1
 | _=>some (p,m1)
theorem CB:SVB X [] sNx:=⟨PSs.weak Va λE st H h=>by
 obtain ⟨th,mu,ro,so,en,t⟩:=h
 exact t.ret so st en⟩
theorem B9 {s:Stmt}{m:Sx}(h:SVS X s m):SVB X [s] m:=⟨UN h.r⟩
theorem B3 {s:Stmt}{r:List Stmt}{m n:Sx}(h1:SVS X s m)(h2:SVB X r n):SVB X (s::r) (Ce m n):=⟨PSs.weak (Ta h1.r h2.r) λE st H h=>by
 obtain ⟨th,mu,ro,so,en,t⟩:=h
 refine ⟨th,mu,ro,so,en,t.bind.mono λp th1 mu1 H1 e1 s1 t1 st' en'=>?_⟩
 obtain ⟨fl,ro'⟩:=p
 cases fl with
 | nx=>exact ⟨th1,mu1,ro',s1,en',t1⟩
 | bk=>exact t1.ret s1 st' en'
 | ct=>exact t1.ret s1 st' en'
 | rt d=>exact t1.ret s1 st' en'⟩
def sRt (a:Ex):Sx:=λro mu=>bM (a ro mu) λd m1=>some ((.rt d,ro),m1)
theorem Cm {e:Expr}{m:Ex}{pos:Pos}(h:SV X e m):SVS X (.Return (some e) pos) (sRt m):=⟨PS.weak (Wq h.r) λE st H h=>by
 obtain ⟨th,mu,ro,so,en,t⟩:=h
 exact ⟨th,mu,ro,so,en,t.bind.mono λd th1 mu1 H1 e1 s1 t1 v rv=>t1.ret s1 st (en.ext e1 so.out) v rv⟩⟩
def sEx (a:Ex):Sx:=λro mu=>bM (a ro mu) λ_ m1=>some ((.nx,ro),m1)
theorem Ib {e:Expr}{m:Ex}{pos:Pos}(h:SV X e m)(hs:swapsWith e none pos.line X.env=pure false:=by rfl):SVS X (.Expr e pos) (sEx m):=⟨PS.weak (T6 h.r hs) λE st H h=>by
 obtain ⟨th,mu,ro,so,en,t⟩:=h
 exact ⟨th,mu,ro,so,en,t.bind.mono λd th1 mu1 H1 e1 s1 t1 v rv=>t1.ret s1 st (en.ext e1 so.out)⟩⟩
def sIf (c:Tx)(a b:Sx):Sx:=λro mu=>bM (c ro mu) λx m1=>if x=true then a ro m1 else b ro m1
theorem CJ {c:Expr}{a b:List Stmt}{mc:Tx}{ma mb:Sx}{pos:Pos}(hc:SVT X c mc)(ha:SVB X a ma)(hb:SVB X b mb):SVS X (.If c a b pos) (sIf mc ma mb):=⟨PS.weak (Zj hc.r ha.r hb.r) λE st H h=>by
 obtain ⟨th,mu,ro,so,en,t⟩:=h
 refine ⟨th,mu,ro,so,en,t.bind.mono λb th1 mu1 H1 e1 s1 t1=>?_⟩
 cases b with
 | true=>exact ⟨th1,mu1,ro,s1,en.ext e1 so.out,t1⟩
 | false=>exact ⟨th1,mu1,ro,s1,en.ext e1 so.out,t1⟩⟩
abbrev Gx:=D->Ro->Sto->Rs Ro
abbrev Gxs:=List D->Ro->Sto->Rs Ro
def rdG (K:Zc)(g:Gx):TG:=λv st H Q=>∃ th mu ro d,StoOk K th mu H∧EnvOk K th H ro st∧Rep K th H d v∧Tr K th H (g d ro mu) λro' th' _ H'=>∀ st',EnvOk K th' H' ro' st'->Q st' H'
def ZY (K:Zc)(g:Gxs):TGs:=λvs st H Q=>∃ th mu ro ds,StoOk K th mu H∧EnvOk K th H ro st∧RepL K th H ds vs∧Tr K th H (g ds ro mu) λro' th' _ H'=>∀ st',EnvOk K th' H' ro' st'->Q st' H'
structure SVG (X:Cx) (e:Expr) (g:Gx):Prop where
 r:PG X e (rdG X.z g)
structure Ui (X:Cx) (es:List Expr) (g:Gxs):Prop where
 r:PGs X es (ZY X.z g)
theorem PG.weak {e:Expr}{t t':TG}(h:PG X e t)(f:∀ v st H Q,t' v st H Q->t v st H Q):PG X e t':=λpins s st H v u Q I r q=>h pins s st H v u Q I r (f v st H Q q)
theorem PGs.weak {e:List Expr}{t t':TGs}(h:PGs X e t)(f:∀ v st H Q,t' v st H Q->t v st H Q):PGs X e t':=λpins s st H v u Q I r q=>h pins s st H v u Q I r (f v st H Q q)
noncomputable def gNm (i:Nat):Gx:=λd ro mu=>some (ro.set i (some d),mu)
theorem Cb (i:Nat){x:Str}{pos:Pos}(hN:X.N.Nodup)(hi:X.N[i]? = some x:=by rfl)(hx:Loc X.env.scope x:=by first|exact Or.inl rfl|exact Or.inr rfl)(hf:X.fn x=true∨X.env.scope.names.lookup x=some .local:=by first|exact .inl rfl|exact .inr rfl):SVG X (.Name x pos) (gNm i):=
 ⟨PG.weak (UL hN hi hx hf) λv st H Q h=>by
  obtain ⟨th,mu,ro,d,so,en,r,t⟩:=h
  exact t.ret so _ (en.set i r)⟩
noncomputable def Dd:Gxs:=λds ro mu=>match ds with
 | []=>some (ro,mu)
 | _=>none
def Cf (g:Gx)(r:Gxs):Gxs:=λds ro mu=>match ds with
 | d::ds=>bM (g d ro mu) λro' m1=>r ds ro' m1
 | []=>none
theorem DI:Ui X [] Dd:=⟨PGs.weak TR λv st H Q h=>by
 obtain ⟨th,mu,ro,ds,so,en,r,t⟩:=h
 cases ds with
 | nil=>exact ⟨r.inv0,t.ret so _ en⟩
 | cons d ds=>exact t.no.elim⟩
theorem Cs {e:Expr}{es:List Expr}{g:Gx}{gs:Gxs}(h1:SVG X e g)(h2:Ui X es gs)(hs:(assignEach (e::es) X.env).map (·.2)=assign e X.env::(assignEach es X.env).map (·.2):=by rfl):Ui X (e::es) (Cf g gs):=⟨PGs.weak (SD h1.r h2.r hs) λv st H Q h=>by
 obtain ⟨th,mu,ro,ds,so,en,r,t⟩:=h
 cases ds with
 | nil=>exact t.no.elim
 | cons d ds =>
  obtain ⟨v,vr,rfl,r1,r2⟩:=r.inv
  refine ⟨v,vr,rfl,th,mu,ro,d,so,en,r1,?_⟩
  exact Tr.mono (Tr.bind t) λro' th1 mu1 H1 e1 s1 t1 st' en'=>⟨th1,mu1,ro',ds,s1,en',r2.ext e1 so.out,t1⟩⟩
noncomputable def gTp (n:Nat)(g:Gxs):Gx:=λd ro mu=>match d with
 | .tup ds=>if ds.length=n then g ds ro mu else none
 | _=>none
theorem Ed {es:List Expr}{k n:Nat}{g:Gxs}{pos:Pos}(hc:X.calm=true)(h:Ui X es g)(hn:(assignEach es X.env).length=n:=by rfl)(hst:(assignEach es X.env).findIdx? (·.1)=none:=by rfl):SVG X (.Tuple es k pos) (gTp n g):=
 ⟨PG.weak (WQ hc h.r hn hst) λv st H Q q=>by
  obtain ⟨th,mu,ro,d,so,en,r,t⟩:=q
  cases d with
  | tup ds =>
   unfold Rep at r
   obtain ⟨a,vs,rfl,hs,rl,_⟩:=r
   unfold gTp at t;dsimp only at t
   by_cases e:ds.length=n
   ·rw [if_pos e] at t
    exact ⟨a,vs,rfl,hs,by rw [rl.len];exact e,th,mu,ro,ds,so,en,rl,t⟩
   ·rw [if_neg e] at t;exact t.no.elim
  | _=>exact t.no.elim⟩
def Ci (a:Ex)(g:Gx):Sx:=λro mu=>bM (a ro mu) λd m1=>bM (g d ro m1) λro' m2=>some ((.nx,ro'),m2)
theorem T5 {a:Ex}{g:Gx}{st:L2.St}{E:Ends}(h:rdS K (Ci a g) E st H):Xj (rdE K a) (rdG K g) E st H:=by
 obtain ⟨th,mu,ro,so,en,t⟩:=h
 refine ⟨th,mu,ro,so,en,t.bind.mono λd th1 mu1 H1 e1 s1 t1 v rv=>?_⟩
 refine ⟨th1,mu1,ro,d,s1,en.ext e1 so.out,rv,t1.bind.mono λro' th2 mu2 H2 e2 s2 t2 st' en'=>?_⟩
 exact t2.ret s2 st' en'
theorem E8 {tg e:Expr}{m:Ex}{g:Gx}{pos:Pos}(he:SV X e m)(hg:SVG X tg g)(hs:swapsWithSole [tg] e pos.line X.env=pure false:=by rfl)(hw:swappedStores [tg] e X.env=pure none:=by rfl)
  (h1:(assignEach [tg] X.env).map (·.2)=[assign tg X.env]:=by rfl):SVS X (.Assign [tg] e pos) (Ci m g):=⟨PS.weak (WL he.r hg.r hs hw h1) λ_ _ _ h=>T5 h⟩
theorem Ca (i:Nat){x:Str}{e:Expr}{m:Ex}{pos pos':Pos}(hN:X.N.Nodup)(he:SV X e m)(hi:X.N[i]? = some x:=by rfl)(hx:Loc X.env.scope x:=by first|exact Or.inl rfl|exact Or.inr rfl)(hs:swapsWith e (some (.Name x pos')) pos.line X.env=pure false:=by rfl)
  (hf:X.fn x=true∨X.env.scope.names.lookup x=some .local:=by first|exact .inl rfl|exact .inr rfl):SVS X (.Assign [.Name x pos'] e pos) (Ci m (gNm i)):=⟨PS.weak (Wm hN hi hx he.r hs hf) λE st H h=>by
 obtain ⟨th,mu,ro,so,en,t⟩:=h
 refine ⟨th,mu,ro,so,en,t.bind.mono λd th1 mu1 H1 e1 s1 t1 v rv=>?_⟩
 exact t1.ret s1 _ ((en.ext e1 so.out).set i rv)⟩
noncomputable def ZX (i j:Nat)(a:Exs):Sx:=λro mu=>bM (a ro mu) λds m1=>match ds with
 | [x,y]=>some ((.nx,(ro.set i (some x)).set j (some y)),m1)
 | _=>none
def fnB (n:Nat)(m:Sx):Fn:=λds mu=>bM (m (ds.map some++List.replicate (n-ds.length) none) mu) λp m1=>match p.1 with
 | .rt d=>some (d,m1)
 | .nx=>some (.non,m1)
 | _=>none
theorem IQ {N:List Str}{ds:List D}{vs:List V}(r:RepL K th H ds vs):EnvOk K th H (ds.map some++List.replicate (N.length-ds.length) none) (L2.start N vs):=by
 unfold L2.start
 refine ⟨by simp [r.len],λi d e=>?_⟩
 by_cases hi:i<ds.length
 ·rw [Av (by simpa using hi),Ap] at e
  cases q:ds[i]? with
  | none=>rw [q] at e;cases e
  | some d' =>
   rw [q] at e
   have:d'=d:=by simpa using e
   subst this
   obtain ⟨v,ev,rv⟩:=r.get q
   exact ⟨v,by rw [Av (by simpa [r.len] using hi),Ap,ev];rfl,rv⟩
 ·rw [Bt (by simpa using hi),BK] at e
  split at e<;>cases e
theorem Yp {P:Program}{w:World}{K:PySem.W.Frag}{mg:Str->Option Value}{base:Heap}{x qual:Str}{st:Stmt}{f:Addr}{fd:FuncData}{N ps:List Str}{k:Nat}{m:Sx}(F:Fun K x qual st f fd)(S:CG N ps (B7 st))
  (hbody:∀ (cdv:Value) (A:Around) (outer:List Env) (s:Shared) (H:Hp) (E:XK),Room k (A.deeper (envOfC qual (B7 st) s.heap.objs.size f cdv)) ->
   SVB (Ka CX0 P w K mg base N qual (B7 st) f cdv A outer s H E).nox (Er st) m):D4 P w K mg base CX0 (k+1) f fd ps (spF ⟨K,P,w⟩ (fnB N.length m) ps.length):=by
 refine F.ok S (λvs H Q E h=>?_) (λcdv A outer s H vs Q E hr h=>?_)
 ·obtain ⟨th,mu,ds,_,r,hl,_⟩:=h
  rw [r.len]
  exact hl
 ·obtain ⟨th,mu,ds,so,r,hl,t⟩:=h
  refine ⟨_,(hbody cdv A outer s H E hr).r,?_⟩
  refine ⟨th,mu,_,so,IQ r,t.bind.mono λp th1 mu1 H1 e1 s1 t1 st' en'=>?_⟩
  obtain ⟨fl,ro'⟩:=p
  cases fl with
  | nx=>exact t1.ret s1 _ (by unfold Rep;rfl)
  | bk=>exact t1.no.elim
  | ct=>exact t1.no.elim
  | rt d=>exact λv rv=>t1.ret s1 v rv
theorem DD (n np:Nat){P:Program}{w:World}{K:PySem.W.Frag}{mg:Str->Option Value}{base:Heap}{x qual:Str}{st:Stmt}{f:Addr}{fd:FuncData}{N ps:List Str}{k:Nat}{m:Sx}(F:Fun K x qual st f fd)(S:CG N ps (B7 st))(hn:N.length=n)(hp:ps.length=np)
  (hbody:∀ (cdv:Value) (A:Around) (outer:List Env) (s:Shared) (H:Hp) (E:XK),Room k (A.deeper (envOfC qual (B7 st) s.heap.objs.size f cdv)) ->
   SVB (Ka CX0 P w K mg base N qual (B7 st) f cdv A outer s H E).nox (Er st) m):D4 P w K mg base CX0 (k+1) f fd ps (spF ⟨K,P,w⟩ (fnB n m) np):=by
 subst hn hp
 exact Yp F S hbody
theorem CW {P:Program}{w:World}{K:PySem.W.Frag}{mg:Str->Option Value}{base:Heap}{x:Str}{st:Stmt}{f:Addr}{fd:FuncData}{ps:List Str}{k n:Nat}{g:Fn}(F:Fun K x x st f fd)(hm:mg x=some (.ref f))(h:D4 P w K mg base CX0 k f fd ps (spF ⟨K,P,w⟩ g n))(hb:Binds K fd ps [])(hn:ps.length=n:=by rfl):Cal P w K mg base k x g n:=
 ⟨ps,f,fd,hn,h,hb,F.kp,hm⟩
abbrev Ix:=Ro->Sto->Rs (List D×Option Nat)
def gOk (g:Option Nat)(m0 m:Sto):Prop:=match g with
 | none=>True
 | some k=>m0[k]? = m[k]?
structure Ob (K:Zc) (J:It) (th:List Addr) (mu:Sto) (H:Hp) (ds:List D) (g:Option Nat):Prop where
 sz:ds.length≤sizeLine
 go:∀ th' mu' H',Ext th H th' H'->StoOk K th' mu' H'->gOk g mu mu'->∀ (i:Nat) (d:D),ds[i]? = some d->J.go i H'∧∀ x H2,J.yld i H' x H2->Ext th' H' th' H2∧StoOk K th' mu' H2∧Rep K th' H2 d x
 stop:∀ th' mu' H',Ext th H th' H'->StoOk K th' mu' H'->gOk g mu mu'->J.stop ds.length H'
def rdI (K:Zc)(m:Ix):TI:=λst H R=>∃ th mu ro,StoOk K th mu H∧EnvOk K th H ro st∧Tr K th H (m ro mu) λp th' mu' H'=>∀ J,Ob K J th' mu' H' p.1 p.2->R J H'
structure SVI (X:Cx) (tg iter:Expr) (m:Ix):Prop where
 r:PI X tg iter (rdI X.z m)
theorem PI.weak {tg e:Expr}{t t':TI}(h:PI X tg e t)(f:∀ st H R,t' st H R->t st H R):PI X tg e t':=λpins s st H R I q=>h pins s st H R I (f st H R q)
open Classical in
noncomputable def D9 {A:Type}(g:Option Nat)(m0 m:Sto)(r:Rs A):Rs A:=if gOk g m0 m then r else none
theorem JX {A:Type}{m0 m:Sto}{r:Rs A}:D9 none m0 m r=r:=by unfold D9;rw [if_pos (show gOk none m0 m from True.intro)]
theorem Fo {A:Type}{g:Option Nat}{m0 m:Sto}{r:Rs A}{p:A×Sto}(h:D9 g m0 m r=some p):gOk g m0 m∧r=some p:=by
 unfold D9 at h
 by_cases e:gOk g m0 m
 ·rw [if_pos e] at h;exact ⟨e,h⟩
 ·rw [if_neg e] at h;cases h
noncomputable def EH (g:Option Nat)(m0:Sto)(tg:Gx)(body:Sx):List D->Ro->Sto->Rs (Fl×Ro)
 | [],ro,mu=>some ((.nx,ro),mu)
 | d::ds,ro,mu=>bM (tg d ro mu) λro1 m1=>bM (body ro1 m1) λp m2=>match p.1 with
  | .nx=>D9 g m0 m2 (EH g m0 tg body ds p.2 m2)
  | .ct=>D9 g m0 m2 (EH g m0 tg body ds p.2 m2)
  | .bk=>some ((.nx,p.2),m2)
  | .rt d=>some ((.rt d,p.2),m2)
def Hu (i:Ix)(tg:Gx)(body:Sx):Sx:=λro mu=>bM (i ro mu) λp m1=>EH p.2 m1 tg body p.1 ro m1
theorem Fb {tg iter:Expr}{body:List Stmt}{i:Ix}{g:Gx}{m:Sx}{pos:Pos}(hp:PassesOwn (model X.prog X.w) X.A X.env X.xe)(hc:X.calm=true)(hi:SVI X tg iter i)(hg:SVG X tg g)(hb:SVB X body m)
  (hs:∀ x,foldedSetIterable iter X.env x=pure x:=by intro _;rfl):SVS X (.For tg iter body [] pos) (Hu i g m):=⟨PS.weak (XE hp hc hi.r hg.r hb.r hs) λE st H h=>by
 obtain ⟨th,mu,ro,so,en,t⟩:=h
 refine ⟨th,mu,ro,so,en,t.bind.mono λp th1 mu1 H1 e1 s1 t1 J ok=>?_⟩
 obtain ⟨ds,gd⟩:=p
 have en1:=en.ext e1 so.out
 refine ⟨λk n st' H'=>n=ds.length-k∧k≤ds.length∧∃ th' mu' ro',StoOk X.z th' mu' H'∧EnvOk X.z th' H' ro' st'∧Ext th1 H1 th' H'∧gOk gd mu1 mu'∧Tr X.z th' H' (EH gd mu1 g m (ds.drop k) ro' mu') (VZ X.z E),⟨_,rfl,A0 _,th1,mu1,ro,s1,en1,.refl _ _,?_,t1⟩,?_⟩
 ·cases gd with
  | none=>exact True.intro
  | some k=>exact rfl
 rintro k n st2 H2 ⟨rfl,hk,th2,mu2,ro2,s2,en2,e2,g2,t2⟩
 by_cases lt:k<ds.length
 ·refine .inr ?_
  have ek:ds[k]? = some ds[k]:=by simp
  obtain ⟨a1,a2⟩:=ok.go th2 mu2 H2 e2 s2 g2 k ds[k] ek
  refine ⟨a1,λst' H'=>k+1≤ds.length∧∃ th' mu' ro',StoOk X.z th' mu' H'∧EnvOk X.z th' H' ro' st'∧Ext th1 H1 th' H'∧gOk gd mu1 mu'∧Tr X.z th' H' (EH gd mu1 g m (ds.drop (k+1)) ro' mu') (VZ X.z E),λst' H' q=>⟨ds.length-(k+1),by ext,rfl,q⟩,λx H3 y=>?_⟩
  obtain ⟨e3,s3,r3⟩:=a2 x H3 y
  rw [List.drop_eq_getElem_cons lt] at t2
  unfold EH at t2
  refine ⟨th2,mu2,ro2,ds[k],s3,en2.ext e3 s2.out,r3,?_⟩
  refine (t2.ahead e3).bind.mono λro4 th4 mu4 H4 e4 s4 t4 st4 en4=>?_
  refine ⟨th4,mu4,ro4,s4,en4,t4.bind.mono λp th5 mu5 H5 e5 s5 t5 st5 en5=>?_⟩
  obtain ⟨fl,ro5⟩:=p
  have e15:Ext th1 H1 th5 H5:=((e2.trans e3).trans e4).trans e5
  cases fl with
  | nx =>
   obtain ⟨a,mu',q1,q2⟩:=t5
   obtain ⟨go5,q1⟩:=Fo q1
   exact ⟨lt,th5,mu5,ro5,s5,en5,e15,go5,a,mu',q1,q2⟩
  | ct =>
   obtain ⟨a,mu',q1,q2⟩:=t5
   obtain ⟨go5,q1⟩:=Fo q1
   exact ⟨lt,th5,mu5,ro5,s5,en5,e15,go5,a,mu',q1,q2⟩
  | bk=>exact t5.ret s5 st5 en5
  | rt d=>exact t5.ret s5 st5 en5
 ·have e:k=ds.length:=by ext
  subst e
  rw [List.drop_length] at t2
  unfold EH at t2
  exact .inl ⟨ok.stop th2 mu2 H2 e2 s2 g2,t2.ret s2 st2 en2⟩⟩
end
end PV
namespace L2
open PySem PySem.Spec PyProof.Rows
section
variable {X:Cx} {tg iter elt:Expr} {ifs:List Expr} {scope:Scope} {pos:Pos} {wi:TI} {own:List Str} {fv:List (Nat×Str)} {g:TG} {tt:TT} {te:TE}
theorem Iu {C:Addr}{h h':Heap}(sb:Heap.SameBut C h h'):∀ b o,b∉[C]->h.get? b=some o->h'.get? b=some o:=λb o hb e=>(sb.2 b (by simpa using hb)).trans e
end
end L2
namespace PV
open PySem L2 PySem.Spec PyProof.Rows
section
variable {X:Cx} {K:Zc} {th:List Addr} {mu:Sto} {H:Hp}
noncomputable def EM (g:Option Nat)(m0:Sto)(tg:Gx)(tt:Tx)(el:Ex)(ro:Ro):List D->Sto->Rs (List D)
 | [],mu=>some ([],mu)
 | d::ds,mu=>bM (tg d ro mu) λro1 m1=>bM (tt ro1 m1) λb m2 =>
  if b=true then bM (el ro1 m2) λy m3=>D9 g m0 m3 (bM (EM g m0 tg tt el ro ds m3) λys m4=>some (y::ys,m4)) else D9 g m0 m2 (EM g m0 tg tt el ro ds m2)
noncomputable def r0 (nc:Nat)(fvs:List Nat)(ro:Ro):Ro:=List.replicate nc none++fvs.map λk=>ro.getD k none
def eLC (i:Ix)(nc:Nat)(fvs:List Nat)(tg:Gx)(tt:Tx)(el:Ex):Ex:=λro mu=>bM (i ro mu) λp m1=>bM (EM p.2 m1 tg tt el (r0 nc fvs ro) p.1 m1) λys m2=>some (.lst ys,m2)
def GOwn (nc:Nat)(tg:Gx):Prop:=∀ d ro mu ro' mu',tg d ro mu=some (ro',mu')->ro'.length=ro.length∧∀ i,nc≤i->ro'[i]? = ro[i]?
def O0 (nc:Nat)(tg:Gxs):Prop:=∀ d ro mu ro' mu',tg d ro mu=some (ro',mu')->ro'.length=ro.length∧∀ i,nc≤i->ro'[i]? = ro[i]?
theorem Cz {nc i:Nat}(h:i<nc:=by decide):GOwn nc (gNm i):=λd ro mu ro' mu' e=>by
 cases e
 exact ⟨by simp,λj hj=>AJ (by ext)⟩
theorem Ik {nc:Nat}:O0 nc Dd:=λds ro mu ro' mu' e=>by
 cases ds with
 | nil=>cases e;exact ⟨rfl,λ_ _=>rfl⟩
 | cons d ds=>cases e
theorem EX {nc:Nat}{g:Gx}{gs:Gxs}(h1:GOwn nc g)(h2:O0 nc gs):O0 nc (Cf g gs):=λds ro mu ro' mu' e=>by
 cases ds with
 | nil=>cases e
 | cons d ds =>
  obtain ⟨ro1,m1,e1,e2⟩:=EW e
  obtain ⟨a1,a2⟩:=h1 _ _ _ _ _ e1
  obtain ⟨b1,b2⟩:=h2 _ _ _ _ _ e2
  exact ⟨b1.trans a1,λi hi=>(b2 i hi).trans (a2 i hi)⟩
theorem JL {nc n:Nat}{g:Gxs}(h:O0 nc g):GOwn nc (gTp n g):=λd ro mu ro' mu' e=>by
 cases d with
 | tup ds =>
  unfold gTp at e
  dsimp only at e
  by_cases q:ds.length=n
  ·rw [if_pos q] at e;exact h _ _ _ _ _ e
  ·rw [if_neg q] at e;cases e
 | _=>cases e
theorem MF {nc:Nat}{fv:List (Nat×Str)}{ro:Ro}{st:L2.St}(en:EnvOk K th H ro st):EnvOk K th H (r0 nc (fv.map (·.1)) ro) (st0 nc fv st):=by
 unfold r0 st0
 refine ⟨by simp,λi d e=>?_⟩
 by_cases hi:i<nc
 ·rw [Av (by simpa using hi),BK] at e
  split at e<;>cases e
 ·rw [Bt (by simpa using hi)] at e ⊢
  simp only [List.length_replicate,AQ,Ap] at e ⊢
  cases q:fv[i-nc]? with
  | none=>rw [q] at e;cases e
  | some p =>
   rw [q] at e
   have e':ro.getD p.1 none=some d:=by simpa using e
   rw [AL] at e'
   have e2:ro[p.1]? = some (some d):=by
    cases w:ro[p.1]? with
    | none=>rw [w] at e';cases e'
    | some o=>rw [w] at e';exact congrArg some e'
   obtain ⟨v,ev,rv⟩:=en.2 _ _ e2
   exact ⟨v,by simp [AL,ev],rv⟩
theorem JM {nc:Nat}{fvs:List Nat}{ro:Ro}{i:Nat}{d:D}(e:(r0 nc fvs ro)[i]? = some (some d)):nc≤i:=by
 rcases Nat.lt_or_ge i nc with h|h
 ·unfold r0 at e
  rw [Av (by simpa using h),BK] at e
  split at e<;>cases e
 ·exact h
noncomputable def tY:Tx:=λ_ mu=>some (true,mu)
structure SVF (X:Cx) (ifs:List Expr) (m:Tx):Prop where
 r:PF X ifs (rdT X.z m)
theorem Dp:SVF X [] tY:=⟨λpins s st H Q I h=>W9 pins s st H Q I (by
 obtain ⟨th,mu,ro,so,en,t⟩:=h
 exact t.ret so)⟩
theorem La {c:Expr}{m:Tx}(h:SVT X c m):SVF X [c] m:=⟨VL h.r⟩
noncomputable def chars (x:Str):List D:=x.cps.toList.map λc=>.str ⟨#[c]⟩
def Ei (a:Ex):Ix:=λro mu=>bM (a ro mu) λd m1=>match d with
 | .tup ds=>some ((ds,none),m1)
 | .lst ds=>some ((ds,none),m1)
 | .str x=>some ((chars x,none),m1)
 | .ref k=>match m1[k]? with
  | some (.lst ds)=>some ((ds,some k),m1)
  | _=>none
 | _=>none
theorem KW {a:Addr}{ds:List D}{g:Option Nat}(hz:ds.length≤sizeLine)(h:∀ th' mu' H',Ext th H th' H'->StoOk K th' mu' H'->gOk g mu mu'->∃ vs,SqL K.K H' a vs∧RepL K th' H' ds vs):Ob K (Itl K.K a) th mu H ds g where
 sz:=hz
 go:=λth' mu' H' e s go i d ed=>by
  obtain ⟨vs,h1,h2⟩:=h th' mu' H' e s go
  obtain ⟨v,ev,rv⟩:=h2.get ed
  refine ⟨⟨vs,v,h1,ev⟩,λx H2 y=>?_⟩
  obtain ⟨rfl,y⟩:=y
  have ex:=y vs h1
  rw [ev] at ex
  cases ex
  exact ⟨.refl _ _,s,rv⟩
 stop:=λth' mu' H' e s go=>by
  obtain ⟨vs,h1,h2⟩:=h th' mu' H' e s go
  exact ⟨vs,h1,by rw [h2.len];exact Aj _⟩
theorem S9 {a:Addr}{ds:List D}{vs:List V}(so:StoOk K th mu H)(hz:ds.length≤sizeLine)(h:SqT K.K H a vs)(r:RepL K th H ds vs):Ob K (Itt K.K a) th mu H ds none where
 sz:=hz
 go:=λth' mu' H' e s go i d ed=>by
  have h1:=e.sqT so.out h
  obtain ⟨v,ev,rv⟩:=(r.ext e so.out).get ed
  refine ⟨⟨vs,v,h1,ev⟩,λx H2 y=>?_⟩
  obtain ⟨rfl,y⟩:=y
  have ex:=y vs h1
  rw [ev] at ex
  cases ex
  exact ⟨.refl _ _,s,rv⟩
 stop:=λth' mu' H' e s go=>⟨vs,e.sqT so.out h,by rw [r.len];exact Aj _⟩
theorem Mo {x:Str}{c:Nat}(ok:PyData.strOk x=true)(h:c∈x.cps.toList):Rep K th H (.str ⟨#[c]⟩) (.str ⟨#[c]⟩):=by
 unfold Rep
 refine ⟨rfl,by show 1≤sizeLine;decide,?_⟩
 unfold PyData.strOk at ok ⊢
 rw [← Array.all_toList] at ok ⊢
 simpa using Ar.mp ok c h
theorem QO {x:Str}(hz:x.length≤sizeLine)(ok:PyData.strOk x=true):Ob K (Its x) th mu H (chars x) none where
 sz:=by unfold chars;rw [Ac,Array.length_toList];exact hz
 go:=λth' mu' H' e s go i d ed=>by
  unfold chars at ed
  rw [Ap] at ed
  cases q:x.cps.toList[i]? with
  | none=>rw [q] at ed;cases ed
  | some c =>
   rw [q] at ed
   have hd:D.str ⟨#[c]⟩=d:=by simpa using ed
   subst hd
   have hlt:=(Af.mp q).1
   refine ⟨by show i<x.cps.size;simpa using hlt,λv H2 y=>?_⟩
   obtain ⟨rfl,c',hc',rfl⟩:=y
   have:c'=c:=by
    rw [← AD,q] at hc'
    exact (AI hc').symm
   subst this
   exact ⟨.refl _ _,s,Mo ok (Al q)⟩
 stop:=λth' mu' H' e s go=>by show (chars x).length=x.cps.size;unfold chars;simp
theorem Di {tg e:Expr}{m:Ex}(h:SV X e m):SVI X tg e (Ei m):=⟨by
 intro pins s st H R I q
 obtain ⟨th,mu,ro,so,en,t⟩:=q
 obtain ⟨p,mu',e1,q1⟩:=id t
 obtain ⟨d,m1,e2,e3⟩:=EW e1
 have t':=t.bindE
 cases d with
 | tup ds =>
  refine VH h.r pins s st H R I ⟨th,mu,ro,so,en,t'.mono λd th1 mu1 H1 x1 s1 t1 v rv=>?_⟩
  obtain ⟨eq,t1⟩:=t1
  rw [e2] at eq
  cases eq
  unfold Rep at rv
  obtain ⟨a,vs,rfl,hs,rl,hz⟩:=rv
  exact ⟨a,rfl,⟨vs,hs⟩,t1.ret s1 _ (S9 s1 hz hs rl)⟩
 | lst ds =>
  refine O3 h.r pins s st H R I ⟨th,mu,ro,so,en,t'.mono λd th1 mu1 H1 x1 s1 t1 v rv=>?_⟩
  obtain ⟨eq,t1⟩:=t1
  rw [e2] at eq
  cases eq
  unfold Rep at rv
  obtain ⟨a,vs,rfl,hs,rl,hz⟩:=rv
  exact ⟨a,rfl,⟨vs,hs.sq⟩,t1.ret s1 _ (KW hz λth' mu' H' e s' _=>⟨vs,(e.fz hs).sq,rl.ext e s1.out⟩)⟩
 | str x =>
  refine W8 h.r pins s st H R I ⟨th,mu,ro,so,en,t'.mono λd th1 mu1 H1 x1 s1 t1 v rv=>?_⟩
  obtain ⟨eq,t1⟩:=t1
  rw [e2] at eq
  cases eq
  unfold Rep at rv
  obtain ⟨rfl,hz,ok⟩:=rv
  exact ⟨x,rfl,t1.ret s1 _ (QO hz ok)⟩
 | ref k =>
  refine O3 h.r pins s st H R I ⟨th,mu,ro,so,en,t'.mono λd th1 mu1 H1 x1 s1 t1 v rv=>?_⟩
  obtain ⟨eq,t1⟩:=t1
  rw [e2] at eq
  cases eq
  unfold Rep at rv
  obtain ⟨a,rfl,ha⟩:=rv
  dsimp only at t1
  cases em:m1[k]? with
  | none=>rw [em] at t1;exact t1.no.elim
  | some o =>
   cases o with
   | dct _ _=>rw [em] at t1;exact t1.no.elim
   | lst ds =>
    rw [em] at t1
    obtain ⟨vs,h1,h2,hz⟩:=s1.at' k a _ ha em
    refine ⟨a,rfl,⟨vs,.inl (.inl h1)⟩,t1.ret s1 _ (KW hz λth' mu' H' e s' go=>?_)⟩
    have em':mu'[k]? = some (.lst ds):=by rw [← em];exact (show m1[k]? = mu'[k]? from go).symm
    obtain ⟨vs',h1',h2',_⟩:=s'.at' k a _ (e.at ha) em'
    exact ⟨vs',.inl (.inl h1'),h2'⟩
 | non=>cases e3
 | bl b=>cases e3
 | int b=>cases e3
 | dct _ _=>cases e3
 | set _=>cases e3⟩
end
mutual
noncomputable def toPy:D->PyData
 | .non=>.none
 | .bl b=>.bool b
 | .int i=>.int i
 | .str x=>.str x
 | .tup ds=>.tuple (CC ds)
 | .lst ds=>.list (CC ds)
 | .dct _ _=>.none
 | .set _=>.none
 | .ref _=>.none
noncomputable def CC:List D->List PyData
 | []=>[]
 | d::ds=>toPy d::CC ds
end
mutual
noncomputable def CY:D->Bool
 | .tup ds=>Fe ds
 | .lst ds=>Fe ds
 | .dct _ _=>false
 | .set _=>false
 | .ref _=>false
 | _=>true
noncomputable def Fe:List D->Bool
 | []=>true
 | d::ds=>CY d&&Fe ds
end
noncomputable def seen (mu:Sto):D->D
 | .ref k=>match mu[k]? with
  | some (.lst ds)=>.lst ds
  | _=>.ref k
 | d=>d
def eqB (mu:Sto)(d e:D):Option Bool:=if CY (seen mu d)&&CY (seen mu e)&&decide (min (toPy (seen mu d)).depth (toPy (seen mu e)).depth≤60) then some (PyData.eqv (toPy (seen mu d)) (toPy (seen mu e))) else none
def eqD (d e:D)(mu:Sto):Rs D:=(eqB mu d e).map λb=>(.bl b,mu)
def neD (d e:D)(mu:Sto):Rs D:=(eqB mu d e).map λb=>(.bl (!b),mu)
section
variable {X:Cx} {K:Zc} {th:List Addr} {mu:Sto} {H:Hp}
mutual
theorem EI {pins:List (Addr×Obj)}{st:L2.St}{s:Shared}(I:L2.Inv X pins st H s):∀ (d:D) (v:V) (u:Value),CY d=true->Rep X.z th H d v->RelV v u->∃ as,Reads s.heap u (toPy d) as∧(toPy d).canLay0=true
 | .non,_,_,_,r,q=>by cases (show _=_ from r);cases q;exact ⟨_,.none,rfl⟩
 | .bl b,_,_,_,r,q=>by cases (show _=_ from r);cases q;exact ⟨_,.bool b,rfl⟩
 | .int i,_,_,_,r,q=>by cases (show _=_ from r);obtain ⟨t,rfl⟩:=q;exact ⟨_,.int i t,rfl⟩
 | .str x,_,_,_,r,q=>by obtain ⟨rfl,hz,ok⟩:=(show _∧_∧_ from r);obtain ⟨t,rfl⟩:=q;exact ⟨_,.str x t,ok⟩
 | .tup ds,_,_,p,r,q=>by
  unfold Rep at r
  obtain ⟨a,vs,rfl,hs,rl,_⟩:=r
  cases q
  obtain ⟨its,rv,⟨o,h1,h2,n,h3⟩,_⟩:=I.tuple hs
  unfold CY at p
  obtain ⟨as,h4,h5⟩:=FK I ds vs its p rl rv
  exact ⟨as,by unfold toPy;exact .tuple h1 h2 h3 (by simpa using h4),by unfold toPy PyData.canLay0;exact h5⟩
 | .lst ds,_,_,p,r,q=>by
  unfold Rep at r
  obtain ⟨a,vs,rfl,hs,rl,_⟩:=r
  cases q
  obtain ⟨its,rv,⟨o,n,h1,h2,_,h3⟩,_⟩:=I.list hs.sq
  unfold CY at p
  obtain ⟨as,h4,h5⟩:=FK I ds vs its p rl rv
  exact ⟨_,by unfold toPy;exact .list h1 h2 h3 (by simpa using h4),by unfold toPy PyData.canLay0;exact h5⟩
 | .dct _ _,_,_,p,_,_=>by cases p
 | .set _,_,_,p,_,_=>by cases p
 | .ref k,_,_,p,_,_=>by cases p
theorem FK {pins:List (Addr×Obj)}{st:L2.St}{s:Shared}(I:L2.Inv X pins st H s):∀ (ds:List D) (vs:List V) (us:List Value),Fe ds=true->RepL X.z th H ds vs->Vals vs us->∃ as,ReadsAll s.heap us (CC ds) as∧PyData.canLayAll0 (CC ds)=true
 | [],_,_,_,r,q=>by cases r.inv0;cases q;exact ⟨_,.nil,rfl⟩
 | d::ds,_,_,p,r,q=>by
  obtain ⟨v,r',rfl,r1,r2⟩:=r.inv
  unfold Fe at p
  rw [Ae] at p
  cases q with
  | cons q1 q2 =>
   obtain ⟨as,a1,a2⟩:=EI I d v _ p.1 r1 q1
   obtain ⟨bs,b1,b2⟩:=FK I ds r' _ p.2 r2 q2
   exact ⟨_,.cons a1 b1,by unfold CC PyData.canLayAll0;rw [a2,b2];rfl⟩
end
theorem EY {pins:List (Addr×Obj)}{st:L2.St}{s:Shared}(I:L2.Inv X pins st H s)(so:StoOk X.z th mu H){d:D}{v:V}{u:Value}(p:CY (seen mu d)=true)(r:Rep X.z th H d v)(q:RelV v u):∃ as,Reads s.heap u (toPy (seen mu d)) as∧(toPy (seen mu d)).canLay0=true:=by
 cases d with
 | ref k =>
  unfold seen at p ⊢
  dsimp only at p ⊢
  cases e:mu[k]? with
  | none=>rw [e] at p;cases p
  | some o =>
   cases o with
   | dct _ _=>rw [e] at p;cases p
   | lst ds =>
    rw [e] at p
    dsimp only at p ⊢
    unfold Rep at r
    obtain ⟨a,rfl,ha⟩:=r
    obtain ⟨vs,h1,rl,hz⟩:=so.at' k a _ ha e
    cases q
    obtain ⟨its,rv,⟨o,n,h2,h3,_,h4⟩,_⟩:=I.list (.inl (.inl h1))
    unfold CY at p
    obtain ⟨as,h5,h6⟩:=FK I ds vs its p rl rv
    exact ⟨_,by unfold toPy;exact .list h2 h3 h4 (by simpa using h5),by unfold toPy PyData.canLay0;exact h6⟩
 | _=>exact EI I _ v u p r q
theorem C0 (hu:X.A.units+64<cLine):OpV X (compareOp .Eq) eqD:=by
 intro pins s st H x y v u Q I rx ry h
 obtain ⟨th,mu,d,e,so,r1,r2,t⟩:=h
 unfold eqD eqB at t
 by_cases hc:(CY (seen mu d)&&CY (seen mu e)&&decide (min (toPy (seen mu d)).depth (toPy (seen mu e)).depth≤60))=true
 ·rw [if_pos hc] at t
  rw [Ae,Ae,Ak] at hc
  obtain ⟨as,a1,a2⟩:=EY I so hc.1.1 r1 rx
  obtain ⟨bs,b1,b2⟩:=EY I so hc.1.2 r2 ry
  exact SeqAt.rcAt_reads a1 b1 a2 b2 (by ext) _ _ _ _ ⟨.bl _,H,I,rfl,t.ret so _ rfl⟩
 ·rw [if_neg hc] at t
  exact t.no.elim
theorem Lr (hu:X.A.units+64<cLine):OpV X (compareOp .NotEq) neD:=by
 intro pins s st H x y v u Q I rx ry h
 obtain ⟨th,mu,d,e,so,r1,r2,t⟩:=h
 unfold neD eqB at t
 by_cases hc:(CY (seen mu d)&&CY (seen mu e)&&decide (min (toPy (seen mu d)).depth (toPy (seen mu e)).depth≤60))=true
 ·rw [if_pos hc] at t
  rw [Ae,Ae,Ak] at hc
  obtain ⟨as,a1,a2⟩:=EY I so hc.1.1 r1 rx
  obtain ⟨bs,b1,b2⟩:=EY I so hc.1.2 r2 ry
  exact SeqAt.rcNeAt_reads a1 b1 a2 b2 (by ext) _ _ _ _ ⟨.bl _,H,I,rfl,t.ret so _ rfl⟩
 ·rw [if_neg hc] at t
  exact t.no.elim
def inB (mu:Sto)(d c:D):Option Bool:=match d,seen mu c with
 | .str x,.str y=>some (!(Builtin.Str.occurrences y x 0 y.length 1).isEmpty)
 | d,.tup ds=>if CY d&&Fe ds&&decide (min (PyData.depthAll (CC ds)) (toPy d).depth≤60) then some ((CC ds).any λy=>PyData.eqv y (toPy d)) else none
 | d,.lst ds=>if CY d&&Fe ds&&decide (min (PyData.depthAll (CC ds)) (toPy d).depth≤60) then some ((CC ds).any λy=>PyData.eqv y (toPy d)) else none
 | _,_=>none
def inD (d c:D)(mu:Sto):Rs D:=(inB mu d c).map λb=>(.bl b,mu)
def UB (d c:D)(mu:Sto):Rs D:=(inB mu d c).map λb=>(.bl (!b),mu)
theorem Mi {d c:D}{b:Bool}(h:inB mu d c=some b):(∃ x y,d=.str x∧c=.str y∧b = !(Builtin.Str.occurrences y x 0 y.length 1).isEmpty) ∨
  ∃ ds,(seen mu c=.tup ds∨seen mu c=.lst ds)∧CY d=true∧Fe ds=true∧min (PyData.depthAll (CC ds)) (toPy d).depth≤60∧b=(CC ds).any λy=>PyData.eqv y (toPy d):=by
 have fin:∀ ds,(if CY d&&Fe ds&&decide (min (PyData.depthAll (CC ds)) (toPy d).depth≤60) then some ((CC ds).any λy=>PyData.eqv y (toPy d)) else none)=some b->CY d=true∧Fe ds=true∧min (PyData.depthAll (CC ds)) (toPy d).depth≤60∧b=(CC ds).any λy=>PyData.eqv y (toPy d):=λds e=>by
  by_cases hc:(CY d&&Fe ds&&decide (min (PyData.depthAll (CC ds)) (toPy d).depth≤60))=true
  ·rw [if_pos hc] at e
   rw [Ae,Ae,Ak] at hc
   exact ⟨hc.1.1,hc.1.2,hc.2,(AI e).symm⟩
  ·rw [if_neg hc] at e;cases e
 unfold inB at h
 cases hs:seen mu c with
 | tup ds=>rw [hs] at h;cases d<;>exact .inr ⟨ds,.inl rfl,fin ds h⟩
 | lst ds=>rw [hs] at h;cases d<;>exact .inr ⟨ds,.inr rfl,fin ds h⟩
 | str y =>
  rw [hs] at h
  cases d with
  | str x =>
   have:c=.str y:=by
    cases c with
    | ref k =>
     unfold seen at hs
     dsimp only at hs
     cases e:mu[k]? with
     | none=>rw [e] at hs;cases hs
     | some o=>cases o<;>(rw [e] at hs;cases hs)
    | _=>exact hs
   exact .inl ⟨x,y,rfl,this,(AI h).symm⟩
  | _=>cases h
 | non=>rw [hs] at h;cases d<;>cases h
 | bl _=>rw [hs] at h;cases d<;>cases h
 | int _=>rw [hs] at h;cases d<;>cases h
 | dct _ _=>rw [hs] at h;cases d<;>cases h
 | set _=>rw [hs] at h;cases d<;>cases h
 | ref _=>rw [hs] at h;cases d<;>cases h
theorem V6 (hu:X.A.units+64<cLine):OpV X (compareOp .In) inD:=by
 intro pins s st H x y v u Q I rx ry h
 obtain ⟨th,mu,d,c,so,r1,r2,t⟩:=h
 unfold inD at t
 cases e:inB mu d c with
 | none=>rw [e] at t;exact t.no.elim
 | some b =>
  rw [e] at t
  have q:Q (.bl b) H:=t.ret so _ rfl
  rcases Mi e with ⟨x',y',rfl,rfl,hb⟩|⟨ds,hs,p1,p2,p3,hb⟩
  ·obtain ⟨rfl,_⟩:=(show _∧_ from r1)
   obtain ⟨rfl,_⟩:=(show _∧_ from r2)
   exact Pj pins s st H _ _ v u Q I rx ry ⟨x',y',rfl,rfl,by rw [← hb];exact q⟩
  ·obtain ⟨as,a1,a2⟩:=EI I d x v p1 r1 rx
   have pc:CY (seen mu c)=true:=by rcases hs with e|e<;>(rw [e];unfold CY;exact p2)
   obtain ⟨bs,b1,b2⟩:=EY I so pc r2 ry
   rw [hb] at q
   rcases hs with e|e
   ·rw [e] at b1 b2
    unfold toPy at b1 b2
    exact SeqAt.in_tuple_reads b1 a1 b2 a2 (by ext) ⟨.bl _,H,I,rfl,q⟩
   ·rw [e] at b1 b2
    unfold toPy at b1 b2
    exact SeqAt.in_list_reads b1 a1 b2 a2 (by ext) ⟨.bl _,H,I,rfl,q⟩
theorem U6 (hu:X.A.units+64<cLine):OpV X (compareOp .NotIn) UB:=by
 intro pins s st H x y v u Q I rx ry h
 obtain ⟨th,mu,d,c,so,r1,r2,t⟩:=h
 unfold UB at t
 cases e:inB mu d c with
 | none=>rw [e] at t;exact t.no.elim
 | some b =>
  rw [e] at t
  have q:Q (.bl (!b)) H:=t.ret so _ rfl
  rcases Mi e with ⟨x',y',rfl,rfl,hb⟩|⟨ds,hs,p1,p2,p3,hb⟩
  ·obtain ⟨rfl,_⟩:=(show _∧_ from r1)
   obtain ⟨rfl,_⟩:=(show _∧_ from r2)
   exact K6 pins s st H _ _ v u Q I rx ry ⟨x',y',rfl,rfl,by rw [← hb];exact q⟩
  ·obtain ⟨as,a1,a2⟩:=EI I d x v p1 r1 rx
   have pc:CY (seen mu c)=true:=by rcases hs with e|e<;>(rw [e];unfold CY;exact p2)
   obtain ⟨bs,b1,b2⟩:=EY I so pc r2 ry
   rw [hb] at q
   rcases hs with e|e
   ·rw [e] at b1 b2
    unfold toPy at b1 b2
    exact SeqAt.notIn_tuple_reads b1 a1 b2 a2 (by ext) ⟨.bl _,H,I,rfl,q⟩
   ·rw [e] at b1 b2
    unfold toPy at b1 b2
    exact SeqAt.notIn_list_reads b1 a1 b2 a2 (by ext) ⟨.bl _,H,I,rfl,q⟩
end
section
variable {X:Cx} {K:Zc} {th:List Addr} {mu:Sto} {H:Hp}
noncomputable def F9 (d e:D)(mu:Sto):Rs D:=match d,e with
 | .int i,.int j=>some (.int (i-j),mu)
 | _,_=>none
theorem GH:OpV X (binaryOp .Sub) F9:=by
 intro pins s st H x y v u Q I rx ry h
 obtain ⟨th,mu,d,e,so,r1,r2,t⟩:=h
 cases d with
 | int i =>
  cases e with
  | int j=>exact Wo pins s st H x y v u Q I rx ry ⟨i,j,r1,r2,t.ret so _ rfl⟩
  | _=>exact t.no.elim
 | _=>exact t.no.elim
noncomputable instance (i j:Int):Decidable (CMul i j):=by unfold CMul;infer_instance
noncomputable instance (i j:Int):Decidable (K7 i j):=by unfold K7;infer_instance
noncomputable instance (i j:Int):Decidable (Pe i j):=by unfold Pe;infer_instance
theorem P9 {x y:Str}(hx:PyData.strOk x=true)(hy:PyData.strOk y=true):PyData.strOk (x++y)=true:=by
 unfold PyData.strOk at *
 show (Array.all (x.cps++y.cps) _)=true
 rw [← Array.all_toList] at *
 rw [BP,List.all_append,hx,hy]
 rfl
theorem len_app (x y:Str):(x++y).length=x.length+y.length:=by
 show (x.cps++y.cps).size=_
 rw [Array.size_append]
 rfl
noncomputable def Ew (d e:D)(mu:Sto):Rs D:=match d,e with
 | .int i,.int j=>if 0<j then some (.int (i % j),mu) else none
 | _,_=>none
theorem Es:OpV X (binaryOp .Mod) Ew:=by
 intro pins s st H x y v u Q I rx ry h
 obtain ⟨th,mu,d,e,so,r1,r2,t⟩:=h
 cases d with
 | int i =>
  cases e with
  | int j =>
   unfold Ew at t;dsimp only at t
   by_cases c:0<j
   ·rw [if_pos c] at t;exact Ww pins s st H x y v u Q I rx ry ⟨i,j,r1,r2,c,t.ret so _ rfl⟩
   ·rw [if_neg c] at t;exact t.no.elim
  | _=>exact t.no.elim
 | _=>exact t.no.elim
def JS (d e:D)(mu:Sto):Rs D:=match d,e with
 | .int i,.int j=>if K7 i j then some (.int (i / j),mu) else none
 | _,_=>none
theorem JT:OpV X (binaryOp .FloorDiv) JS:=by
 intro pins s st H x y v u Q I rx ry h
 obtain ⟨th,mu,d,e,so,r1,r2,t⟩:=h
 cases d with
 | int i =>
  cases e with
  | int j =>
   unfold JS at t;dsimp only at t
   by_cases c:K7 i j
   ·rw [if_pos c] at t;exact Uc pins s st H x y v u Q I rx ry ⟨i,j,r1,r2,c,t.ret so _ rfl⟩
   ·rw [if_neg c] at t;exact t.no.elim
  | _=>exact t.no.elim
 | _=>exact t.no.elim
def QE (d e:D)(mu:Sto):Rs D:=match d,e with
 | .int i,.int j=>if Pe i j then some (.int (i ^ j.toNat),mu) else none
 | _,_=>none
theorem Ti:OpV X (binaryOp .Pow) QE:=by
 intro pins s st H x y v u Q I rx ry h
 obtain ⟨th,mu,d,e,so,r1,r2,t⟩:=h
 cases d with
 | int i =>
  cases e with
  | int j =>
   unfold QE at t;dsimp only at t
   by_cases c:Pe i j
   ·rw [if_pos c] at t;exact Xe pins s st H x y v u Q I rx ry ⟨i,j,r1,r2,c,t.ret so _ rfl⟩
   ·rw [if_neg c] at t;exact t.no.elim
  | _=>exact t.no.elim
 | _=>exact t.no.elim
noncomputable instance (z:Str) (n:Int):Decidable (MulOk z n):=by unfold MulOk;infer_instance
def Fu (d e:D)(mu:Sto):Rs D:=match d,e with
 | .int i,.int j=>if CMul i j then some (.int (i*j),mu) else none
 | .str z,.int n=>if MulOk z n∧(Txt.mul z n).length≤sizeLine∧PyData.strOk (Txt.mul z n)=true then some (.str (Txt.mul z n),mu) else none
 | _,_=>none
theorem EK:OpV X (binaryOp .Mult) Fu:=by
 intro pins s st H x y v u Q I rx ry h
 obtain ⟨th,mu,d,e,so,r1,r2,t⟩:=h
 cases d with
 | int i =>
  cases e with
  | int j =>
   unfold Fu at t;dsimp only at t
   by_cases c:CMul i j
   ·rw [if_pos c] at t;exact Xh pins s st H x y v u Q I rx ry ⟨i,j,r1,r2,c,t.ret so _ rfl⟩
   ·rw [if_neg c] at t;exact t.no.elim
  | _=>exact t.no.elim
 | str z =>
  cases e with
  | int j =>
   unfold Fu at t;dsimp only at t
   by_cases c:MulOk z j∧(Txt.mul z j).length≤sizeLine∧PyData.strOk (Txt.mul z j)=true
   ·rw [if_pos c] at t;exact NA pins s st H x y v u Q I rx ry ⟨z,j,r1.1,r2,c.1,t.ret so _ ⟨rfl,c.2⟩⟩
   ·rw [if_neg c] at t;exact t.no.elim
  | _=>exact t.no.elim
 | _=>exact t.no.elim
theorem Sw {a b:Addr}{ys:List V}{pins:List (Addr×Obj)}{st:L2.St}{s:Shared}{Q:VK}(I:L2.Inv X pins st H s)(ha:SqT X.K H a [])(hb:SqT X.K H b ys)(q:Q (.ref b) H):wpAny (model X.prog X.w) X.A (binaryOp .Add (.ref a) (.ref b)) (EP X pins st Q) X.xe s:=by
 obtain ⟨its,r1,p1,_⟩:=I.tuple ha
 obtain ⟨its2,r2,p2,_⟩:=I.tuple hb
 have e:its=[]:=by cases r1;rfl
 subst e
 obtain ⟨⟨cls,dd,data,sl⟩,ho,hc,n,hd⟩:=id p1
 obtain ⟨⟨cls2,dd2,data2,sl2⟩,ho2,hc2,n2,hd2⟩:=id p2
 simp only at hc hd hc2 hd2
 subst hc hd hc2 hd2
 exact concat_meets ⟨_,ho,rfl⟩ ⟨_,ho2,rfl⟩ noFill_tuple_add seq_tuple_add PySem.F.slot_tuple_add PySem.F.entry_tuple_add (PySem.F.args_tuple_add_2 _ _)
   (tuple_addW0 a b _ its2.toArray n n2 dd dd2 sl sl2 (by simp)) ⟨ho,ho2,⟨.ref b,H,I,rfl,q⟩⟩
theorem U0 {a b:Addr}{xs ys:List V}{pins:List (Addr×Obj)}{st:L2.St}{s:Shared}{Q:VK}(I:L2.Inv X pins st H s)(ha:SqL X.K H a xs)(hb:SqL X.K H b ys)(hz:xs.length+ys.length≤sizeLine)(q:∀ p,H p=none->Q (.ref p) (upd H p (.lst (xs++ys)))):wpAny (model X.prog X.w) X.A (binaryOp .Add (.ref a) (.ref b)) (EP X pins st Q) X.xe s:=by
 obtain ⟨its,r1,⟨o1,n1,p1,c1,d1,e1⟩,_⟩:=I.list ha
 obtain ⟨its2,r2,⟨o2,n2,p2,c2,d2,e2⟩,_⟩:=I.list hb
 obtain ⟨cls,dd,data,sl⟩:=o1
 obtain ⟨cls2,dd2,data2,sl2⟩:=o2
 simp only at c1 d1 e1 c2 d2 e2
 subst c1 d1 e1 c2 d2 e2
 refine concat_meets ⟨_,p1,rfl⟩ ⟨_,p2,rfl⟩ noFill_list_add seq_list_add PySem.F.slot_list_add PySem.F.entry_list_add (PySem.F.args_list_add_2 _ _)
   (list_addW a b _ its2.toArray n1 n2 _ _ sl sl2 (by rw [Aq,Aq,← r1.length,← r2.length];exact hz)) ⟨p1,p2,?_⟩
 refine ⟨.ref s.heap.objs.size,_,I.laid (t':=s.toks) (o:=.lst (xs++ys)) (λb ob q=>Ad _ q) (Aj _) ?_,rfl,q _ (I.hok.fresh (Aj _))⟩
 exact ⟨by rw [Ag];exact hz,its++its2,0,r1.append r2,by simpa using Ai _ rfl⟩
noncomputable def Dg (mu:Sto):D->Option (List D)
 | .lst ds=>some ds
 | .ref k=>match mu[k]? with
  | some (.lst ds)=>some ds
  | _=>none
 | _=>none
theorem DW (so:StoOk K th mu H){d:D}{ds:List D}{v:V}(h:Dg mu d=some ds)(r:Rep K th H d v):∃ a vs,v=.ref a∧SqL K.K H a vs∧RepL K th H ds vs∧ds.length≤sizeLine:=by
 cases d with
 | lst es=>cases h;unfold Rep at r;obtain ⟨a,vs,rfl,h1,h2,h3⟩:=r;exact ⟨a,vs,rfl,h1.sq,h2,h3⟩
 | ref k =>
  unfold Dg at h
  dsimp only at h
  cases e:mu[k]? with
  | none=>rw [e] at h;cases h
  | some o =>
   cases o with
   | dct _ _=>rw [e] at h;cases h
   | lst es =>
    rw [e] at h
    cases h
    unfold Rep at r
    obtain ⟨a,rfl,ha⟩:=r
    obtain ⟨vs,h1,h2,h3⟩:=so.at' k a _ ha e
    exact ⟨a,vs,rfl,.inl (.inl h1),h2,h3⟩
 | _=>cases h
def Ck (d e:D)(mu:Sto):Rs D:=match d,e with
 | .int i,.int j=>some (.int (i+j),mu)
 | .str x,.str y=>if x.length+y.length≤sizeLine then some (.str (x++y),mu) else none
 | .tup xs,.tup ys=>if xs.length+ys.length≤sizeLine then some (.tup (xs++ys),mu) else none
 | d,e=>match Dg mu d,Dg mu e with
  | some xs,some ys=>if xs.length+ys.length≤sizeLine then some (.lst (xs++ys),mu) else none
  | _,_=>none
theorem Cp:OpV X (binaryOp .Add) Ck:=by
 intro pins s st H x y v u Q I rx ry h
 obtain ⟨th,mu,d,e,so,r1,r2,t⟩:=h
 have lists:∀ (t:Tr X.z th H (match Dg mu d,Dg mu e with
  | some xs,some ys=>if xs.length+ys.length≤sizeLine then some (D.lst (xs++ys),mu) else none
  | _,_=>none) (KV' X.z Q)),wpAny (model X.prog X.w) X.A (binaryOp .Add v u) (EP X pins st Q) X.xe s:=λt=>by
  cases e1:Dg mu d with
  | none=>rw [e1] at t;exact t.no.elim
  | some xs =>
   cases e2:Dg mu e with
   | none=>rw [e1,e2] at t;exact t.no.elim
   | some ys =>
    rw [e1,e2] at t
    dsimp only at t
    by_cases c:xs.length+ys.length≤sizeLine
    ·rw [if_pos c] at t
     obtain ⟨a,vs,rfl,h1,h2,h3⟩:=DW so e1 r1
     obtain ⟨b,us,rfl,k1,k2,k3⟩:=DW so e2 r2
     cases rx
     cases ry
     refine U0 I h1 k1 (by rw [h2.len,k2.len];exact c) λp hp=>t.retX (.new hp _) (so.new hp _) _ (Rep.newLst so hp (h2.app k2) (by rw [Ag];exact c))
    ·rw [if_neg c] at t;exact t.no.elim
 cases d with
 | int i =>
  cases e with
  | int j=>exact V7 pins s st H x y v u Q I rx ry ⟨i,j,r1,r2,t.ret so _ rfl⟩
  | _=>exact lists t
 | str i =>
  cases e with
  | str j =>
   unfold Ck at t;dsimp only at t
   by_cases c:i.length+j.length≤sizeLine
   ·rw [if_pos c] at t
    exact Nf pins s st H x y v u Q I rx ry ⟨i,j,r1.1,r2.1,c,t.ret so _ ⟨rfl,by rw [len_app];exact c,P9 r1.2.2 r2.2.2⟩⟩
   ·rw [if_neg c] at t;exact t.no.elim
  | _=>exact lists t
 | tup xs =>
  cases e with
  | tup ys =>
   unfold Ck at t;dsimp only at t
   by_cases c:xs.length+ys.length≤sizeLine
   ·rw [if_pos c] at t
    unfold Rep at r1 r2
    obtain ⟨a,vs,rfl,h1,h2,h3⟩:=r1
    obtain ⟨b,us,rfl,k1,k2,k3⟩:=r2
    cases rx
    cases ry
    cases xs with
    | nil =>
     cases h2.inv0
     exact Sw I h1 k1 (t.ret so _ (by unfold Rep;exact ⟨b,us,rfl,k1,k2,k3⟩))
    | cons x0 xs0 =>
     obtain ⟨v0,vr,rfl,_,_⟩:=h2.inv
     refine TC pins s st H (.ref a) (.ref b) _ _ Q I rfl rfl ⟨a,b,v0::vr,us,rfl,rfl,h1,k1,by simp,by rw [h2.len,k2.len];exact c,λhu=>?_,λ_ p hp=>t.retX (.new hp _) (so.new hp _) _ (Rep.newTup so hp (h2.app k2) (by rw [Ag];exact c))⟩
     subst hu
     have:ys=[]:=List.length_eq_zero_iff.mp (by rw [← k2.len];rfl)
     subst this
     rw [List.append_nil] at t
     exact t.ret so _ (by unfold Rep;exact ⟨a,_,rfl,h1,h2,h3⟩)
   ·rw [if_neg c] at t;exact t.no.elim
  | _=>exact lists t
 | _=>exact lists t
noncomputable def R1 (f:Int->Int->Bool)(g:Str->Str->Bool)(d e:D)(mu:Sto):Rs D:=match d,e with
 | .int i,.int j=>some (.bl (f i j),mu)
 | .str i,.str j=>some (.bl (g i j),mu)
 | _,_=>none
def leD:=R1 (λi j=>decide (i≤j)) λi j=>!decide (j.cps.toList<i.cps.toList)
def gtD:=R1 (λi j=>decide (j<i)) λi j=>decide (j.cps.toList<i.cps.toList)
def geD:=R1 (λi j=>decide (j≤i)) λi j=>!decide (i.cps.toList<j.cps.toList)
theorem LS {op:CmpOp}{f:Int->Int->Bool}{g:Str->Str->Bool}(h1:OpR X (compareOp op) (rI0 λi j=>.bl (f i j)))
  (h2:∀ (i j:Str) (t t':Tok) (s:Shared) (Q:Value->Shared->Prop),Q (.bool (g i j)) s->wpAny (model X.prog X.w) X.A (compareOp op (.str i t) (.str j t')) Q X.xe s):OpV X (compareOp op) (R1 f g):=by
 intro pins s st H x y v u Q I rx ry h
 obtain ⟨th,mu,d,e,so,r1,r2,t⟩:=h
 cases d with
 | int i =>
  cases e with
  | int j=>exact h1 pins s st H x y v u Q I rx ry ⟨i,j,r1,r2,t.ret so _ rfl⟩
  | _=>exact t.no.elim
 | str i =>
  cases e with
  | str j =>
   obtain ⟨rfl,_⟩:=(show _∧_ from r1)
   obtain ⟨rfl,_⟩:=(show _∧_ from r2)
   obtain ⟨t1,rfl⟩:=rx
   obtain ⟨t2,rfl⟩:=ry
   exact h2 i j t1 t2 s _ ⟨.bl _,H,I,rfl,t.ret so _ rfl⟩
  | _=>exact t.no.elim
 | _=>exact t.no.elim
theorem NV:OpV X (compareOp .LtE) leD:=LS Yt λi j t t' s Q h=>PySem.P.le_str h
theorem K9:OpV X (compareOp .Gt) gtD:=LS YZ λi j t t' s Q h=>PySem.P.gt_str h
theorem Rk:OpV X (compareOp .GtE) geD:=LS Za λi j t t' s Q h=>PySem.P.ge_str h
noncomputable def isB:D->D->Option Bool
 | .non,.non=>some true
 | .bl a,.bl b=>some (a==b)
 | .non,.bl _=>none
 | .ref _,.non=>some false
 | .tup _,.non=>some false
 | .lst _,.non=>some false
 | .str _,.non=>some false
 | .int _,.non=>some false
 | .bl _,.non=>some false
 | .dct _ _,.non=>some false
 | .set _,.non=>some false
 | _,_=>none
def isD (d e:D)(mu:Sto):Rs D:=(isB d e).map λb=>(.bl b,mu)
noncomputable def Zw (d e:D)(mu:Sto):Rs D:=(isB d e).map λb=>(.bl (!b),mu)
theorem JI:OpV X (compareOp .Is) isD:=by
 intro pins s st H x y v u Q I rx ry h
 obtain ⟨th,mu,d,e,so,r1,r2,t⟩:=h
 cases e with
 | non =>
  have go:∀ b,isB d .non=some b->(b=decide (x=.non))->wpAny (model X.prog X.w) X.A (compareOp .Is v u) (EP X pins st Q) X.xe s:=λb eb ex=>by
   unfold isD at t
   rw [eb] at t
   have q:Q (.bl b) H:=t.ret so _ rfl
   exact WR pins s st H x y v u Q I rx ry ⟨r2,by rw [← ex];exact q⟩
  cases d with
  | non=>exact go _ rfl (by rw [show x=_ from r1];rfl)
  | bl b=>exact go _ rfl (by rw [show x=_ from r1];rfl)
  | int b=>exact go _ rfl (by rw [show x=_ from r1];rfl)
  | str b=>exact go _ rfl (by rw [r1.1];rfl)
  | tup b=>exact go _ rfl (by unfold Rep at r1;obtain ⟨a,vs,rfl,_⟩:=r1;rfl)
  | lst b=>exact go _ rfl (by unfold Rep at r1;obtain ⟨a,vs,rfl,_⟩:=r1;rfl)
  | dct _ _=>exact go _ rfl (by unfold Rep at r1;obtain ⟨a,xs,rfl,_⟩:=r1;rfl)
  | set _=>exact go _ rfl (by unfold Rep at r1;obtain ⟨a,us,vs,rfl,_⟩:=r1;rfl)
  | ref b=>exact go _ rfl (by unfold Rep at r1;obtain ⟨a,rfl,_⟩:=r1;rfl)
 | bl b =>
  cases d with
  | bl a=>exact Sn pins s st H x y v u Q I rx ry ⟨a,b,r1,r2,t.ret so _ rfl⟩
  | _=>exact t.no.elim
 | _=>cases d<;>exact t.no.elim
def LX (g g':D->D->Sto->Rs D)(a b c:Ex):Ex:=λro mu=>bM (a ro mu) λx m1=>bM (b ro m1) λy m2=>bM (g x y m2) λz m3=>match asB z with
 | none=>none
 | some k=>if k=true then bM (c ro m3) λw' m4=>g' y w' m4 else some (.bl false,m3)
theorem Pz {g g':D->D->Sto->Rs D}{a b c:Ex}{st:L2.St}{Q:VK}(h:rdE K (LX g g' a b c) st H Q):QQ (r2 K g) (r2 K g') (rdE K a) (rdE K b) (rdE K c) st H Q:=by
 obtain ⟨th,mu,ro,so,en,t⟩:=h
 refine ⟨th,mu,ro,so,en,t.bind.mono λx th1 mu1 H1 e1 s1 t1 v rv=>?_⟩
 refine ⟨th1,mu1,ro,s1,en.ext e1 so.out,t1.bind.mono λy th2 mu2 H2 e2 s2 t2 u ru=>?_⟩
 refine ⟨th2,mu2,x,y,s2,rv.ext e2 s1.out,ru,t2.bind.mono λz th3 mu3 H3 e3 s3 t3 w rw'=>?_⟩
 cases e:asB z with
 | none=>rw [e] at t3;exact t3.no.elim
 | some k =>
  rw [e] at t3
  refine ⟨k,Jk e rw',?_⟩
  cases k with
  | false=>exact t3.ret s3 _ rfl
  | true =>
   exact ⟨th3,mu3,ro,s3,(en.ext e1 so.out).ext (e2.trans e3) s1.out,Tr.mono (Tr.bind t3) λw' th4 mu4 H4 e4 s4 t4 z' rz=>⟨th4,mu4,y,w',s4,(ru.ext e3 s2.out).ext e4 s3.out,rz,t4⟩⟩
theorem Qp {a b c:Expr}{op op':CmpOp}{g g':D->D->Sto->Rs D}{ma mb mc:Ex}{pos:Pos}(ho:OpV X (compareOp op) g)(ho':OpV X (compareOp op') g')(ha:SV X a ma)(hb:SV X b mb)(hc:SV X c mc)
  (hm:lastMarks [op,op'] [b,c]=false:=by with_unfolding_all rfl):SVT X (.Compare a [op,op'] [b,c] pos) (tV (LX g g' ma mb mc)):=⟨PT.weak (R3 ho ho' ha.r hb.r hc.r hm) λst H Q h=>Pz (OM h)⟩
def ixD (d e:D)(mu:Sto):Rs D:=match e with
 | .int i=>match d with
  | .tup ds=>(atI ds i).map λx=>(x,mu)
  | .str z=>(atI z.cps.toList i).map λc=>(.str ⟨#[c]⟩,mu)
  | d=>match Dg mu d with
   | some ds=>(atI ds i).map λx=>(x,mu)
   | none=>none
 | _=>none
theorem OL {ds:List D}{vs:List V}{i:Int}{d:D}(r:RepL K th H ds vs)(h:atI ds i=some d):∃ v,atI vs i=some v∧Rep K th H d v:=by
 unfold atI at h ⊢
 rw [r.len]
 cases e:ixN ds.length i with
 | none=>rw [e] at h;cases h
 | some j =>
  rw [e] at h
  obtain ⟨v,e1,e2⟩:=r.get (show ds[j]? = some d from h)
  exact ⟨v,e1,e2⟩
theorem US {α:Type}{xs:List α}{i:Int}{v:α}(h:atI xs i=some v):v∈xs:=by
 obtain ⟨j,_,e,_⟩:=Jr h
 exact Al e
theorem ZZ:IxR X (r2 X.z ixD):=by
 intro value slice pins s st H x y v u Q I rx ry h hsub
 obtain ⟨th,mu,d,e,so,r1,r2,t⟩:=h
 cases e with
 | int i =>
  have lists:∀ (t:Tr X.z th H (match Dg mu d with
   | some ds=>(atI ds i).map λx=>(x,mu)
   | none=>none) (KV' X.z Q)),V9 X.K x y H Q:=λt=>by
   cases e1:Dg mu d with
   | none=>rw [e1] at t;exact t.no.elim
   | some ds =>
    rw [e1] at t
    dsimp only at t
    cases e2:atI ds i with
    | none=>rw [e2] at t;exact t.no.elim
    | some x' =>
     rw [e2] at t
     obtain ⟨a,vs,rfl,h1,h2,h3⟩:=DW so e1 r1
     obtain ⟨v',w1,w2⟩:=OL h2 e2
     exact ⟨a,vs,i,v',rfl,r2,h1,w1,t.ret so _ w2⟩
  refine Xi value slice pins s st H x y v u Q I rx ry ?_ hsub
  cases d with
  | tup ds =>
   unfold ixD at t;dsimp only at t
   cases e2:atI ds i with
   | none=>rw [e2] at t;exact t.no.elim
   | some x' =>
    rw [e2] at t
    unfold Rep at r1
    obtain ⟨a,vs,rfl,h1,h2,h3⟩:=r1
    obtain ⟨v',w1,w2⟩:=OL h2 e2
    exact .inr (.inl ⟨a,vs,i,v',rfl,r2,h1,w1,t.ret so _ w2⟩)
  | str z =>
   unfold ixD at t;dsimp only at t
   cases e2:atI z.cps.toList i with
   | none=>rw [e2] at t;exact t.no.elim
   | some c =>
    rw [e2] at t
    exact .inr (.inr ⟨z,i,c,r1.1,r2,r1.2.1,e2,t.ret so _ (Mo r1.2.2 (US e2))⟩)
  | _=>exact .inl (lists t)
 | _=>exact t.no.elim
abbrev Px:=Ro->Sto->Rs (Option Int)
noncomputable def pNo:Px:=λ_ mu=>some (none,mu)
def De (a:Ex):Px:=λro mu=>bM (a ro mu) λd m1=>match d with
 | .int i=>some (some i,m1)
 | _=>none
def rdP (K:Zc)(m:Px):TO:=λst H Q=>∃ th mu ro,StoOk K th mu H∧EnvOk K th H ro st∧Tr K th H (m ro mu) λo _ _ H'=>Q o H'
structure SVP (X:Cx) (e:Option Expr) (m:Px):Prop where
 r:PO X e (rdP X.z m)
theorem PO.weak {e:Option Expr}{t t':TO}(h:PO X e t)(f:∀ st H Q,t' st H Q->t st H Q):PO X e t':=λpins s st H Q I q=>h pins s st H Q I (f st H Q q)
theorem F0:SVP X none pNo:=⟨PO.weak UY λst H Q h=>by
 obtain ⟨th,mu,ro,so,en,t⟩:=h
 exact t.ret so⟩
theorem Ep {e:Expr}{m:Ex}(h:SV X e m):SVP X (some e) (De m):=⟨PO.weak (U1 h.r) λst H Q h=>by
 obtain ⟨th,mu,ro,so,en,t⟩:=h
 refine ⟨th,mu,ro,so,en,t.bind.mono λd th1 mu1 H1 e1 s1 t1 v rv=>?_⟩
 cases d with
 | int i=>exact ⟨i,rv,t1.ret s1⟩
 | _=>exact t1.no.elim⟩
def cutD {α:Type}(xs:List α)(lo hi:Option Int):List α:=(xs.drop (HT.sIx xs.length 0 lo)).take (HT.sIx xs.length xs.length hi-HT.sIx xs.length 0 lo)
theorem O1 {ds:List D}{vs:List V}(r:RepL K th H ds vs)(lo hi:Option Int):RepL K th H (cutD ds lo hi) (Mn vs lo hi):=by
 unfold cutD Mn
 rw [r.len]
 exact (r.drop _).take _
theorem M4 {α:Type}(xs:List α)(lo hi:Option Int):(cutD xs lo hi).length≤xs.length:=by
 unfold cutD
 rw [AZ,BR]
 ext
def slD (d:D)(lo hi:Option Int)(mu:Sto):Rs D:=match d with
 | .tup ds=>some (.tup (cutD ds lo hi),mu)
 | .str z=>if PyData.strOk (Txt.slice z lo hi)=true then some (.str (Txt.slice z lo hi),mu) else none
 | d=>match Dg mu d with
  | some ds=>some (.lst (cutD ds lo hi),mu)
  | none=>none
def r3 (K:Zc)(op:D->Option Int->Option Int->Sto->Rs D):V->Option Int->Option Int->Hp->VK->Prop:=λx lo hi H Q=>∃ th mu d,StoOk K th mu H∧Rep K th H d x∧Tr K th H (op d lo hi mu) (KV' K Q)
def eSl (a:Ex)(p q:Px):Ex:=λro mu=>bM (a ro mu) λd m1=>bM (p ro m1) λlo m2=>bM (q ro m2) λhi m3=>slD d lo hi m3
theorem Hw {prog:Program}{w:World}{A:Around}{E:Value->Shared->Prop}{s:Shared}{t sl:Addr}{items:Array Value}{vl vu:Value}{lo hi:Option Int}{Q:Value->Shared->Prop}(ht:IsTup s.heap t items)(hs:s.heap.IsSliceOf sl vl vu .none)(pl:IsPart vl lo)(pu:IsPart vu hi)
  (h1:HT.sIx items.size 0 lo=0) (h2:HT.sIx items.size items.size hi=items.size) (h:Q (.ref t) s):wpAny (model prog w) A (getItem (.ref t) (.ref sl)) Q E s:=by
 obtain ⟨os,hos,hcs,hds⟩:=id hs
 have hTs:s.TypeIs (.ref sl) "slice":=⟨os,hos,hcs⟩
 unfold getItem
 try with_reducible refine AH ?_
 first|refine Aa (Ab ?_)|skip
 refine Aa (wpAny_sequenceKey ht.typeIs (by decide) ?_)
 refine Aa (AK (name:=Str.ofString "__getitem__") ht.typeIs Be
  (AG Be ht.typeIs entry_tuple_getitem ?_ (args_tuple_getitem _ _)))
 show wpAny _ _ (Builtin.Tuple.tupleItemsOf (.ref t) >>= _) _ _ s
 refine Aa (tupleItemsOf_ ht ?_)
 refine Aa (Br hTs ?_)
 rw [if_pos (by decide)]
 refine Aa (HT.Ge hs pl pu ?_)
 rw [h1,h2]
 dsimp only
 rw [if_pos (by simp)]
 unfold Builtin.Tuple.tupleIsExact
 refine Aa (Aa (Br ht.typeIs (Ab ?_)))
 rw [if_pos (by decide)]
 exact Aa (Bq (Ab ⟨_,rfl,Ab h⟩))
theorem ZP:SlR X (r3 X.z slD):=by
 intro pins s st H x v vl vu lo hi sl Q I rx hs pl pu h
 obtain ⟨th,mu,d,so,r,t⟩:=h
 have lists:∀ (t:Tr X.z th H (match Dg mu d with
   | some ds=>some (D.lst (cutD ds lo hi),mu)
   | none=>none) (KV' X.z Q)),YX X.K x lo hi H Q:=λt=>by
   cases e1:Dg mu d with
   | none=>rw [e1] at t;exact t.no.elim
   | some ds =>
    rw [e1] at t
    obtain ⟨a,vs,rfl,h1,h2,h3⟩:=DW so e1 r
    exact ⟨a,vs,rfl,h1,λp hp=>t.retX (.new hp _) (so.new hp _) _ (Rep.newLst so hp (O1 h2 lo hi) (AN (M4 ds lo hi) h3))⟩
 cases d with
 | tup ds =>
  unfold Rep at r
  obtain ⟨a,vs,rfl,h1,h2,h3⟩:=r
  by_cases c:HT.sIx vs.length 0 lo=0∧HT.sIx vs.length vs.length hi=vs.length
  ·cases rx
   obtain ⟨its,rv,ht,hz⟩:=I.tuple h1
   have hlen:its.toArray.size=vs.length:=by rw [Aq];exact rv.length.symm
   refine ⟨"tuple",_,Be.lookup,ht.typeIs,?_⟩
   refine Hw ht hs pl pu (by rw [hlen];exact c.1) (by rw [hlen];exact c.2) ⟨.ref a,H,I,rfl,t.ret so _ ?_⟩
   have e:cutD ds lo hi=ds:=by
    unfold cutD
    rw [← h2.len,c.1,c.2,h2.len]
    simp
   rw [e]
   unfold Rep
   exact ⟨a,vs,rfl,h1,h2,h3⟩
  ·exact WE pins s st H _ v vl vu lo hi sl Q I rx hs pl pu ⟨a,vs,rfl,h1,c,λp hp=>t.retX (.new hp _) (so.new hp _) _ (Rep.newTup so hp (O1 h2 lo hi) (AN (M4 ds lo hi) h3))⟩
 | str z =>
  unfold slD at t;dsimp only at t
  by_cases c:PyData.strOk (Txt.slice z lo hi)=true
  ·rw [if_pos c] at t
   exact Wb pins s st H _ v vl vu lo hi sl Q I rx hs pl pu ⟨z,r.1,r.2.1,t.ret so _ ⟨rfl,AN (Txt.slice_le z _ _) r.2.1,c⟩⟩
  ·rw [if_neg c] at t;exact t.no.elim
 | _=>exact UD pins s st H _ v vl vu lo hi sl Q I rx hs pl pu (lists t)
theorem Ff {e:Expr}{lo hi:Option Expr}{m:Ex}{p q:Px}{p2 pos:Pos}(he:SV X e m)(hl:SVP X lo p)(hh:SVP X hi q):SV X (.Subscript e (.Slice lo hi none p2) pos) (eSl m p q):=⟨PE.weak (SN ZP he.r hl.r hh.r) λst H Q h=>by
 obtain ⟨th,mu,ro,so,en,t⟩:=h
 refine ⟨th,mu,ro,so,en,t.bind.mono λd th1 mu1 H1 e1 s1 t1 v rv=>?_⟩
 refine ⟨th1,mu1,ro,s1,en.ext e1 so.out,t1.bind.mono λlo' th2 mu2 H2 e2 s2 t2=>?_⟩
 refine ⟨th2,mu2,ro,s2,(en.ext e1 so.out).ext e2 s1.out,t2.bind.mono λhi' th3 mu3 H3 e3 s3 t3=>?_⟩
 exact ⟨th3,mu3,d,s3,(rv.ext e2 s1.out).ext e3 s2.out,t3⟩⟩
noncomputable def tyN:D->String
 | .non=>"NoneType"|.bl _=>"bool"|.int _=>"int"|.str _=>"str"|.tup _=>"tuple"|.lst _=>"list"|.dct _ _=>"dict"|.set _=>"set"|.ref _=>"list"
def isi (T:String)(d:D):Bool:=tyN d==T||(T=="int"&&tyN d=="bool")
theorem Zq {K:PySem.W.Frag}(T:String)(hT:T="str"∨T="tuple"∨T="int"∨T="bool"∨T="list"∨T="dict")(d:D):PySem.W.kitOne K (.type (tyN d)) (.type T)=some (isi T d):=by
 rcases hT with rfl|rfl|rfl|rfl|rfl|rfl<;>cases d<;>rfl
noncomputable def EG (mu:Sto):D->Bool
 | .ref k=>match mu[k]? with
  | some (.lst _)=>true
  | _=>false
 | _=>true
theorem Kn {mu:Sto}{k:Nat}(h:EG mu (.ref k)=true):∃ ds,mu[k]? = some (.lst ds):=by
 unfold EG at h
 dsimp only at h
 split at h
 ·rename_i ds e;exact ⟨ds,e⟩
 ·cases h
def Jy (T:String)(a:Ex):Ex:=λro mu=>bM (a ro mu) λd m1=>if EG m1 d=true then some (.bl (isi T d),m1) else none
theorem UI {pins:List (Addr×Obj)}{st:L2.St}{s:Shared}{T:String}{d:D}{x:V}{u:Value}{Q:Value->Shared->Prop}{E:Value->Shared->Prop}(hT:T="str"∨T="tuple"∨T="int"∨T="bool"∨T="list"∨T="dict")(I:L2.Inv X pins st H s)(so:StoOk X.z th mu H)(hr:EG mu d=true)(r:Rep X.z th H d x)(rx:RelV x u)
  (h:∀ tk,Q (.bool (isi T d)) { s with toks:=tk }):wpAny (model X.prog X.w) X.A (call (.builtin "isinstance") [u,.type T]) Q E s:=by
 have e:=Zq (K:=X.K) T hT d
 have ls:∀ {a:Addr} {vs:List V},Rd H a (.lst vs)->IE X.K H (.ref a) (.type "list"):=λ{a vs} h=>by
  rcases h with h|⟨o,h⟩
  ·exact .lst h
  ·exact .frz h
 cases d with
 | non=>cases (show x=_ from r);exact Gi I rx .non e h
 | bl b=>cases (show x=_ from r);exact Gi I rx (.bl b) e h
 | int b=>cases (show x=_ from r);exact Gi I rx (.int b) e h
 | str b=>cases r.1;exact Gi I rx (.str b) e h
 | tup ds =>
  unfold Rep at r
  obtain ⟨a,vs,rfl,h1,_⟩:=r
  cases rx
  obtain ⟨its,_,⟨o,g1,g2,_⟩,_⟩:=I.tuple h1
  exact A4 PySem.W.kitx_tuple I.kIn ⟨o,g1,g2⟩ e (λz=>nomatch z) h
 | lst ds =>
  unfold Rep at r
  obtain ⟨a,vs,rfl,h1,_⟩:=r
  cases rx
  obtain ⟨its,_,⟨o,n,g1,g2,_⟩,_⟩:=I.list h1.sq
  exact A4 PySem.W.kitx_list I.kIn ⟨o,g1,g2⟩ e (λz=>nomatch z) h
 | dct _ _ =>
  unfold Rep at r
  obtain ⟨a,xs,rfl,_,h1,_⟩:=r
  obtain ⟨⟨_,o,es,ep,g1,g2,_⟩,_⟩:=(show ObjOk X.prog X.w H s.heap a (E3 a xs) from I.hok a _ h1)
  cases rx
  exact A4 PySem.W.kitx_dict I.kIn ⟨o,g1,g2.1⟩ e (λz=>nomatch z) h
 | set _ =>
  unfold Rep at r
  obtain ⟨a,us,vs,rfl,_,h1,_⟩:=r
  obtain ⟨⟨o,es,ep,t,g1,g2,_⟩,_⟩:=(show ObjOk X.prog X.w H s.heap a (UC X.w a us) from I.hok a _ h1)
  cases rx
  exact A4 PySem.W.kitx_set I.kIn ⟨o,g1,g2.1⟩ e (λz=>nomatch z) h
 | ref k =>
  unfold Rep at r
  obtain ⟨a,rfl,h1⟩:=r
  obtain ⟨ds,em⟩:=Kn hr
  obtain ⟨vs,h2,_⟩:=so.at' k a _ h1 em
  exact Gi I rx (.lst h2) e h
theorem GW (T:String){x:Str}{a:Expr}{m:Ex}{p p2 pos:Pos}(ha:SV X a m)(h1:X.mg "isinstance"=none)(h2:X.mg x=none)(hb:bootBuiltins x=some (.type T))(hT:T="str"∨T="tuple"∨T="int"∨T="bool"∨T="list"∨T="dict":=by decide)
  (hn:x≠"__name__":=by decide) (hd:(x==("__debug__":Str))=false:=by decide) (hg:Gl X "isinstance":=by rfl) (hg2:Gl X x:=by rfl)
  (hs1:starEach [a,.Name x p2] X.env=(false,eval a X.env)::starEach [.Name x p2] X.env:=by rfl) (hs2:(backTo pos (starEach [.Name x p2] X.env)).any (·.1)=false:=by rfl) (hs3:starEach [.Name x p2] X.env=(false,eval (.Name x p2) X.env)::starEach [] X.env:=by rfl) :
  SV X (.Call (.Name "isinstance" p) [a,.Name x p2] [] pos) (Jy T m):=⟨by
 have hc:Fx X (.builtin "isinstance") (λxs H Q=>∃ th mu d y,StoOk X.z th mu H∧EG mu d=true∧xs=[y,.ty T]∧Rep X.z th H d y∧Q (.bl (isi T d)) H):=by
  intro pins s st H xs us Q I r h
  obtain ⟨th,mu,d,y,so,hr,rfl,rd,q⟩:=h
  obtain ⟨u,w',rfl,rx,ry⟩:=vals2 r
  cases (show w'=Value.type T from ry)
  exact UI hT I so hr rd rx λtk=>⟨.bl _,H,I.tok _,rfl,q⟩
 have pe:=Jv hc hg h1 boot_isinstance (Jl ha.r (Jl (TL (v:=.ty T) hg2 h2 hb rfl hn hd) N6 hs3) hs1) (by decide) (by decide) hs1 hs2 (pos:=pos) (p:=p)
 refine PE.weak pe λst H Q h=>?_
 obtain ⟨th,mu,ro,so,en,t⟩:=h
 refine ⟨th,mu,ro,so,en,t.bind.mono λd th1 mu1 H1 e1 s1 t1 v rv=>?_⟩
 by_cases c:EG mu1 d=true
 ·rw [if_pos c] at t1
  exact ⟨th1,mu1,d,v,s1,c,rfl,rv,t1.ret s1 _ rfl⟩
 ·rw [if_neg c] at t1;exact t1.no.elim⟩
def Yc (mu:Sto):D->Option Nat
 | .str x=>some x.length
 | .tup ds=>some ds.length
 | .lst ds=>some ds.length
 | .ref k=>(Dg mu (.ref k)).map (·.length)
 | _=>none
def Qf:Fn:=λds mu=>match ds with
 | [d]=>(Yc mu d).map λn=>(.int n,mu)
 | _=>none
theorem Dh {xs:List V}{d:D}(r:RepL K th H [d] xs):∃ x,xs=[x]∧Rep K th H d x:=by
 obtain ⟨v,r',rfl,h1,h2⟩:=r.inv
 cases h2.inv0
 exact ⟨v,rfl,h1⟩
theorem Ht {xs:List V}{d e:D}(r:RepL K th H [d,e] xs):∃ x y,xs=[x,y]∧Rep K th H d x∧Rep K th H e y:=by
 obtain ⟨v,r',rfl,h1,h2⟩:=r.inv
 obtain ⟨u,rfl,h3⟩:=Dh h2
 exact ⟨v,u,rfl,h1,h3⟩
theorem P2:CallV X (.builtin "len") Qf:=by
 intro pins s st H xs us Q I r h
 obtain ⟨th,mu,ds,so,rd,t⟩:=h
 match ds,t,rd with
 | [d],t,rd =>
  obtain ⟨x,rfl,rx⟩:=Dh rd
  cases d with
  | str z=>exact LG pins s st H _ us Q I r ⟨z,by rw [rx.1],rx.2.1,t.ret so _ rfl⟩
  | tup es =>
   unfold Rep at rx
   obtain ⟨a,vs,rfl,h1,h2,_⟩:=rx
   exact GA pins s st H _ us Q I r ⟨a,vs,rfl,.inr h1,by rw [h2.len];exact t.ret so _ rfl⟩
  | lst es =>
   unfold Rep at rx
   obtain ⟨a,vs,rfl,h1,h2,_⟩:=rx
   exact GA pins s st H _ us Q I r ⟨a,vs,rfl,.inl h1.sq,by rw [h2.len];exact t.ret so _ rfl⟩
  | ref k =>
   unfold Qf Yc at t
   dsimp only at t
   cases e1:Dg mu (.ref k) with
   | none=>rw [e1] at t;exact t.no.elim
   | some es =>
    rw [e1] at t
    obtain ⟨a,vs,rfl,h1,h2,h3⟩:=DW so e1 rx
    exact GA pins s st H _ us Q I r ⟨a,vs,rfl,.inl h1,by rw [h2.len];exact t.ret so _ rfl⟩
  | _=>exact t.no.elim
 | [],t,_=>exact t.no.elim
 | _::_::_,t,_=>exact t.no.elim
noncomputable def IL:List D->Option (List Bool)
 | []=>some []
 | .bl b::ds=>(IL ds).map (b::·)
 | _=>none
theorem Kw:∀ {ds:List D} {bs:List Bool} {vs:List V},IL ds=some bs->RepL K th H ds vs->vs=bs.map V.bl
 | [],_,_,h,r=>by cases h;exact r.inv0
 | d::ds,bs,_,h,r=>by
  obtain ⟨v,r',rfl,h1,h2⟩:=r.inv
  cases d with
  | bl b =>
   unfold IL at h
   cases e:IL ds with
   | none=>rw [e] at h;cases h
   | some cs =>
    rw [e] at h
    cases h
    rw [Kw e h2,show v=V.bl b from h1]
    rfl
  | _=>cases h
def quF (f:List Bool->Bool):Fn:=λds mu=>match ds with
 | [d]=>match Dg mu d with
  | some es=>(IL es).map λbs=>(.bl (f bs),mu)
  | none=>none
 | _=>none
def IZ:=quF λbs=>bs.all id
theorem QI {id:String}{f:List Bool->Bool}(hq:Fx X (.builtin id) (λxs H Q=>∃ (p:Addr) (bs:List Bool),xs=[.ref p]∧SqL X.K H p (bs.map V.bl)∧Q (.bl (f bs)) H)):CallV X (.builtin id) (quF f):=by
 intro pins s st H xs us Q I r h
 obtain ⟨th,mu,ds,so,rd,t⟩:=h
 match ds,t,rd with
 | [d],t,rd =>
  obtain ⟨x,rfl,rx⟩:=Dh rd
  unfold quF at t
  dsimp only at t
  cases e1:Dg mu d with
  | none=>rw [e1] at t;exact t.no.elim
  | some es =>
   rw [e1] at t
   dsimp only at t
   cases e2:IL es with
   | none=>rw [e2] at t;exact t.no.elim
   | some bs =>
    rw [e2] at t
    obtain ⟨a,vs,rfl,h1,h2,h3⟩:=DW so e1 rx
    cases Kw e2 h2
    exact hq pins s st H _ us Q I r ⟨a,bs,rfl,h1,t.ret so _ rfl⟩
 | [],t,_=>exact t.no.elim
 | _::_::_,t,_=>exact t.no.elim
theorem Ga (hc:X.calm=true):CallV X (.builtin "all") IZ:=QI (Sl hc)
noncomputable def ints2 (ds:List D):Option (Int×Int):=match ds with
 | [.int i,.int j]=>some (i,j)
 | _=>none
theorem KU {ds:List D}{p:Int×Int}(h:ints2 ds=some p):ds=[.int p.1,.int p.2]:=by
 unfold ints2 at h
 split at h
 ·cases h;rfl
 ·cases h
def M0:Fn:=λds mu=>(ints2 ds).map λp=>(.int (if p.2<p.1 then p.2 else p.1),mu)
def Q3:Fn:=λds mu=>(ints2 ds).map λp=>(.int (if p.2 > p.1 then p.2 else p.1),mu)
noncomputable def intOf (ds:List D):Option Int:=match ds with
 | [.int i]=>some i
 | [.bl b]=>some (if b then 1 else 0)
 | _=>none
theorem Py {ds:List D}{i:Int}(h:intOf ds=some i):ds=[.int i]∨∃ b,ds=[.bl b]∧i=if b then 1 else 0:=by
 unfold intOf at h
 split at h
 ·cases h;exact .inl rfl
 ·cases h;exact .inr ⟨_,rfl,rfl⟩
 ·cases h
def RU:Fn:=λds mu=>(intOf ds).map λi=>(.int i,mu)
noncomputable def NO (ds:List D):Option Int:=match ds with
 | [.int i]=>some i
 | _=>none
theorem Mq {ds:List D}{i:Int}(h:NO ds=some i):ds=[.int i]:=by
 unfold NO at h
 split at h
 ·cases h;rfl
 ·cases h
def GU:Fn:=λds mu=>match NO ds with
 | some i=>if i.natAbs.log2<1920∧(Str.ofString (toString i)).length≤sizeLine∧PyData.strOk (Str.ofString (toString i))=true then some (.str (Str.ofString (toString i)),mu) else none
 | none=>none
theorem KS (hc:X.calm=true):CallV X (.builtin "min") M0:=by
 intro pins s st H xs us Q I r h
 obtain ⟨th,mu,ds,so,rd,t⟩:=h
 unfold M0 at t
 cases e:ints2 ds with
 | none=>rw [e] at t;exact t.no.elim
 | some p =>
  rw [e] at t
  rw [KU e] at rd
  obtain ⟨x,y,rfl,rx,ry⟩:=Ht rd
  exact Pq hc pins s st H _ us Q I r ⟨p.1,p.2,by rw [show x=_ from rx,show y=_ from ry],t.ret so _ rfl⟩
theorem Pd (hc:X.calm=true):CallV X (.builtin "max") Q3:=by
 intro pins s st H xs us Q I r h
 obtain ⟨th,mu,ds,so,rd,t⟩:=h
 unfold Q3 at t
 cases e:ints2 ds with
 | none=>rw [e] at t;exact t.no.elim
 | some p =>
  rw [e] at t
  rw [KU e] at rd
  obtain ⟨x,y,rfl,rx,ry⟩:=Ht rd
  exact P4 hc pins s st H _ us Q I r ⟨p.1,p.2,by rw [show x=_ from rx,show y=_ from ry],t.ret so _ rfl⟩
theorem Pw:CallV X (.type "int") RU:=by
 intro pins s st H xs us Q I r h
 obtain ⟨th,mu,ds,so,rd,t⟩:=h
 unfold RU at t
 cases e:intOf ds with
 | none=>rw [e] at t;exact t.no.elim
 | some i =>
  rw [e] at t
  rcases Py e with h|⟨b,h,hb⟩
  ·rw [h] at rd
   obtain ⟨x,rfl,rx⟩:=Dh rd
   exact Km pins s st H _ us Q I r (.inl ⟨i,by rw [show x=_ from rx],t.ret so _ rfl⟩)
  ·rw [h] at rd
   obtain ⟨x,rfl,rx⟩:=Dh rd
   exact Km pins s st H _ us Q I r (.inr ⟨b,by rw [show x=_ from rx],by rw [← hb];exact t.ret so _ rfl⟩)
theorem FX:CallV X (.type "str") GU:=by
 intro pins s st H xs us Q I r h
 obtain ⟨th,mu,ds,so,rd,t⟩:=h
 unfold GU at t
 cases e:NO ds with
 | none=>rw [e] at t;exact t.no.elim
 | some i =>
  rw [e] at t
  dsimp only at t
  rw [Mq e] at rd
  obtain ⟨x,rfl,rx⟩:=Dh rd
  by_cases c:i.natAbs.log2<1920∧(Str.ofString (toString i)).length≤sizeLine∧PyData.strOk (Str.ofString (toString i))=true
  ·rw [if_pos c] at t
   exact Ls pins s st H _ us Q I r ⟨i,by rw [show x=_ from rx],c.1,t.ret so _ ⟨rfl,c.2⟩⟩
  ·rw [if_neg c] at t;exact t.no.elim
def Hy (mu:Sto):D->Option (List D)
 | .tup ds=>some ds
 | d=>Dg mu d
theorem Hn (so:StoOk K th mu H){d:D}{ds:List D}{v:V}(h:Hy mu d=some ds)(r:Rep K th H d v):∃ a vs,v=.ref a∧(SqL K.K H a vs∨SqT K.K H a vs∧d=.tup ds)∧RepL K th H ds vs∧ds.length≤sizeLine:=by
 cases d with
 | tup es=>cases h;unfold Rep at r;obtain ⟨a,vs,rfl,h1,h2,h3⟩:=r;exact ⟨a,vs,rfl,.inr ⟨h1,rfl⟩,h2,h3⟩
 | lst es=>obtain ⟨a,vs,rfl,h1,h2,h3⟩:=DW so (d:=.lst es) h r;exact ⟨a,vs,rfl,.inl h1,h2,h3⟩
 | ref k=>obtain ⟨a,vs,rfl,h1,h2,h3⟩:=DW so (d:=.ref k) h r;exact ⟨a,vs,rfl,.inl h1,h2,h3⟩
 | _=>cases h
noncomputable def Fh (ds:List D):Option D:=match ds with
 | [d]=>some d
 | _=>none
theorem Ft {ds:List D}{d:D}(h:Fh ds=some d):ds=[d]:=by
 unfold Fh at h
 split at h
 ·cases h;rfl
 ·cases h
def sq1 (ds:List D)(mu:Sto):Option (List D):=match Fh ds with
 | some d=>Hy mu d
 | none=>none
def D8:Fn:=λds mu=>(sq1 ds mu).map λes=>(.tup es,mu)
def Jb:Fn:=λds mu=>(sq1 ds mu).map λes=>(.lst es,mu)
theorem LN {ds es:List D}(h:sq1 ds mu=some es):∃ d,ds=[d]∧Hy mu d=some es:=by
 unfold sq1 at h
 cases e:Fh ds with
 | none=>rw [e] at h;cases h
 | some d=>rw [e] at h;exact ⟨d,Ft e,h⟩
theorem CU:CallV X (.type "tuple") D8:=by
 intro pins s st H xs us Q I r h
 obtain ⟨th,mu,ds,so,rd,t⟩:=h
 unfold D8 at t
 cases e:sq1 ds mu with
 | none=>rw [e] at t;exact t.no.elim
 | some es =>
  rw [e] at t
  obtain ⟨d,rfl,e2⟩:=LN e
  obtain ⟨x,rfl,rx⟩:=Dh rd
  obtain ⟨a,vs,rfl,h1,h2,h3⟩:=Hn so e2 rx
  refine Kj pins s st H _ us Q I r ⟨a,vs,rfl,?_⟩
  rcases h1 with h1|⟨h1,rfl⟩
  ·exact .inl ⟨h1,λp hp=>t.retX (.new hp _) (so.new hp _) _ (Rep.newTup so hp h2 h3)⟩
  ·exact .inr ⟨h1,t.ret so _ rx⟩
theorem Hs:CallV X (.type "list") Jb:=by
 intro pins s st H xs us Q I r h
 obtain ⟨th,mu,ds,so,rd,t⟩:=h
 unfold Jb at t
 cases e:sq1 ds mu with
 | none=>rw [e] at t;exact t.no.elim
 | some es =>
  rw [e] at t
  obtain ⟨d,rfl,e2⟩:=LN e
  obtain ⟨x,rfl,rx⟩:=Dh rd
  obtain ⟨a,vs,rfl,h1,h2,h3⟩:=Hn so e2 rx
  refine LV pins s st H _ us Q I r ⟨a,vs,rfl,?_,λp hp=>t.retX (.new hp _) (so.new hp _) _ (Rep.newLst so hp h2 h3)⟩
  rcases h1 with h1|⟨h1,_⟩
  ·exact .inl h1
  ·exact .inr h1
def Lb (o:Ex)(a:Exs):Ex:=λro mu=>bM (o ro mu) λd m1=>match d with
 | .ref k=>if EG m1 (.ref k)=true then bM (a ro m1) λxs m2=>match Fh xs,m2[k]? with
  | some y,some (.lst ds)=>if ds.length<sizeLine then some (.non,m2.set k (.lst (ds++[y]))) else none
  | _,_=>none
  else none
 | _=>none
theorem Iv {o e:Expr}{m:Ex}{n:Exs}{apos cpos:Pos}(ho:SV X o m)(ha:SVA X [e] n)(hbase:attributeBase o "append" X.env (eval o X.env)=eval o X.env:=by rfl)
  (hfew:((backTo cpos (starEach [e] X.env)).all (λx=>!x.1)&&(backToKw cpos (keywordEach [] X.env)).all (λx=>x.1.isSome)
   && decide ([e].length+([]:List Keyword).length+(if ([]:List Keyword).isEmpty then 0 else 1)<30))=true:=by rfl)
  (hline:(apos.endLine==cpos.line)=true:=by rfl) (hs:starEach [e] X.env=(false,eval e X.env)::starEach [] X.env:=by rfl) (hplain:(backTo cpos (starEach [] X.env)).any (·.1)=false:=by rfl) :
  SV X (.Call (.Attribute o "append" apos) [e] [] cpos) (Lb m n):=
 ⟨PE.weak (Rv PySem.F.plainAttrs_list PySem.F.slot_list_append PySem.F.type_list_append Pt ho.r ha.1 hbase hfew hline hs hplain) λst H Q h=>by
  obtain ⟨th,mu,ro,so,en,t⟩:=h
  refine ⟨th,mu,ro,so,en,t.bind.mono λd th1 mu1 H1 e1 s1 t1 v rv=>?_⟩
  cases d with
  | ref k =>
   unfold Rep at rv
   obtain ⟨a,rfl,ha'⟩:=rv
   by_cases cr:EG mu1 (.ref k)=true
   case neg=>dsimp only at t1;rw [if_neg cr] at t1;exact t1.no.elim
   dsimp only at t1
   rw [if_pos cr] at t1
   obtain ⟨ds0,em⟩:=Kn cr
   obtain ⟨vs,h2,_⟩:=s1.at' k a _ ha' em
   refine ⟨.inl ⟨rfl,vs,SqL.of h2⟩,th1,mu1,ro,s1,en.ext e1 so.out,?_⟩
   refine Tr.mono (Tr.bind t1) λxs th2 mu2 H2 e2 s2 t2 ws rws=>?_
   cases q1:Fh xs with
   | none=>rw [q1] at t2;exact t2.no.elim
   | some y =>
    cases q2:mu2[k]? with
    | none=>rw [q1,q2] at t2;exact t2.no.elim
    | some o =>
     cases o with
     | dct _ _=>rw [q1,q2] at t2;exact t2.no.elim
     | lst ds =>
      rw [q1,q2] at t2
      dsimp only at t2
      by_cases c:ds.length<sizeLine
      ·rw [if_pos c] at t2
       rw [Ft q1] at rws
       obtain ⟨y',rfl,ry⟩:=Dh rws
       have hk:=e2.at ha'
       obtain ⟨us,g1,g2,g3⟩:=s2.at' k a _ hk q2
       exact ⟨a,us,y',rfl,rfl,g1,by rw [g2.len];exact c,t2.retX (.mut (Al hk) _) (s2.put hk (g2.app (.cons ry .nil)) (by rw [Ag];exact c)) _ rfl⟩
      ·rw [if_neg c] at t2;exact t2.no.elim
  | _=>exact t1.no.elim⟩
noncomputable def Yl (i j k:Nat)(a:Exs):Sx:=λro mu=>bM (a ro mu) λds m1=>match ds with
 | [x,y,z]=>some ((.nx,((ro.set i (some x)).set j (some y)).set k (some z)),m1)
 | _=>none
def Tq (d e v:D)(mu:Sto):Rs Unit:=match d,e with
 | .ref k,.int i=>match mu[k]? with
  | some (.lst ds)=>match ixN ds.length i with
   | some j=>some ((),mu.set k (.lst (ds.set j v)))
   | none=>none
  | _=>none
 | _,_=>none
def Z2 (K:Zc):Q9:=λo i v H Q=>∃ th mu d e w,StoOk K th mu H∧Rep K th H d o∧Rep K th H e i∧Rep K th H w v∧Tr K th H (Tq d e w mu) λ_ _ _ H'=>Q H'
theorem Yu:T2 X (Z2 X.z):=by
 intro pins s st H o i v ov iv u Q I ro ri rv h
 obtain ⟨th,mu,d,e,w,so,r1,r2,r3,t⟩:=h
 cases d with
 | ref k =>
  cases e with
  | int j =>
   unfold Tq at t
   dsimp only at t
   cases q:mu[k]? with
   | none=>rw [q] at t;exact t.no.elim
   | some o' =>
    cases o' with
    | dct _ _=>rw [q] at t;exact t.no.elim
    | lst ds =>
     rw [q] at t
     dsimp only at t
     cases q2:ixN ds.length j with
     | none=>rw [q2] at t;exact t.no.elim
     | some n =>
      rw [q2] at t
      unfold Rep at r1
      obtain ⟨a,rfl,ha⟩:=r1
      obtain ⟨vs,h1,h2,h3⟩:=so.at' k a _ ha q
      exact set_list pins s st H _ i v ov iv u Q I ro ri rv ⟨a,vs,j,n,rfl,r2,h1,by rw [h2.len];exact q2,t.retX (.mut (Al ha) _) (so.put ha (h2.setAt n r3) (by rw [List.length_set];exact h3))⟩
  | _=>exact t.no.elim
 | _=>exact t.no.elim
noncomputable def Ec (lo:Int)(n:Nat):List D:=(List.range n).map λk:Nat=>.int (lo+k)
theorem RS {lo:Int}{n:Nat}(hn:n≤sizeLine):Ob K (Itr lo n) th mu H (Ec lo n) none where
 sz:=by unfold Ec;simpa using hn
 go:=λth' mu' H' e s go i d ed=>by
  unfold Ec at ed
  rw [Ap] at ed
  cases q:(List.range n)[i]? with
  | none=>rw [q] at ed;cases ed
  | some k =>
   rw [q] at ed
   have hd:D.int (lo+k)=d:=by simpa using ed
   obtain ⟨hi,hk⟩:=Af.mp q
   rw [BM] at hi
   rw [List.getElem_range] at hk
   subst hk hd
   refine ⟨hi,λv H2 y=>?_⟩
   obtain ⟨rfl,rfl⟩:=y
   exact ⟨.refl _ _,s,by unfold Rep;rfl⟩
 stop:=λth' mu' H' e s go=>by show n≤(Ec lo n).length;unfold Ec;simp
def iRg (a:Exs):Ix:=λro mu=>bM (a ro mu) λds m1=>match NO ds with
 | some j=>if -(2 ^ 62)≤j∧j≤(sizeLine:Int) then some ((Ec 0 j.toNat,none),m1) else none
 | none=>none
theorem DX {tg a:Expr}{m:Exs}{p pos:Pos}(hm:X.mg "range"=none)(ha:SVA X [a] m)(hg:Gl X "range":=by rfl)(hs:starEach [a] X.env=[(false,eval a X.env)]:=by rfl):SVI X tg (.Call (.Name "range" p) [a] [] pos) (iRg m):=
 ⟨PI.weak (Qk hg hm ha.1 hs) λst H R h=>by
  obtain ⟨th,mu,ro,so,en,t⟩:=h
  refine ⟨th,mu,ro,so,en,t.bind.mono λds th1 mu1 H1 e1 s1 t1 vs rvs=>?_⟩
  cases q:NO ds with
  | none=>rw [q] at t1;exact t1.no.elim
  | some j =>
   rw [q] at t1
   dsimp only at t1
   by_cases c:-(2 ^ 62)≤j∧j≤(sizeLine:Int)
   ·rw [if_pos c] at t1
    rw [Mq q] at rvs
    obtain ⟨x,rfl,rx⟩:=Dh rvs
    refine ⟨j,by rw [show x=_ from rx],c.1,?_,t1.ret s1 _ (RS (by ext))⟩
    have:=c.2
    rw [As] at this
    ext
   ·rw [if_neg c] at t1;exact t1.no.elim⟩
noncomputable def UP (ds:List D):Option (List D×List D):=match ds with
 | [.lst xs,.lst ys]=>some (xs,ys)
 | _=>none
theorem Rm {ds:List D}{p:List D×List D}(h:UP ds=some p):ds=[.lst p.1,.lst p.2]:=by
 unfold UP at h
 split at h
 ·cases h;rfl
 ·cases h
noncomputable def FV (xs ys:List D):List D:=(xs.zip ys).map λp=>.tup [p.1,p.2]
def iZp (a:Exs):Ix:=λro mu=>bM (a ro mu) λds m1=>(UP ds).map λp=>((FV p.1 p.2,none),m1)
theorem TJ {a b:Expr}{m:Exs}{p pos:Pos}{elts:List Expr}{k:Nat}{tp:Pos}(hm:X.mg "zip"=none)(ha:SVA X [a,b] m)(hg:Gl X "zip":=by rfl)(hs:starEach [a,b] X.env=[(false,eval a X.env),(false,eval b X.env)]:=by rfl)(hs2:starEach [b] X.env=[(false,eval b X.env)]:=by rfl) :
  SVI X (.Tuple elts k tp) (.Call (.Name "zip" p) [a,b] [] pos) (iZp m):=⟨PI.weak (Wg hg hm PyProof.Rows.boot_zip ha.1 hs hs2) λst H R h=>by
 obtain ⟨th,mu,ro,so,en,t⟩:=h
 refine ⟨th,mu,ro,so,en,t.bind.mono λds th1 mu1 H1 e1 s1 t1 vs rvs=>?_⟩
 cases q:UP ds with
 | none=>rw [q] at t1;exact t1.no.elim
 | some pr =>
  rw [q] at t1
  rw [Rm q] at rvs
  obtain ⟨xs,ys⟩:=pr
  obtain ⟨x,y,rfl,rx,ry⟩:=Ht rvs
  unfold Rep at rx ry
  obtain ⟨a1,us,rfl,h1,l1,z1⟩:=rx
  obtain ⟨a2,ws,rfl,h2,l2,z2⟩:=ry
  refine ⟨a1,a2,rfl,⟨us,h1.sq⟩,⟨ws,h2.sq⟩,t1.ret s1 _ ⟨?_,λth' mu' H' e s' go i d ed=>?_,λth' mu' H' e s' go=>?_⟩⟩
  ·show (FV xs ys).length≤sizeLine
   unfold FV
   rw [Ac,List.length_zip]
   exact AN (Nat.min_le_left _ _) z1
  ·have g1:=(e.fz h1).sq
   have g2:=(e.fz h2).sq
   have ed':(FV xs ys)[i]? = some d:=ed
   unfold FV at ed'
   rw [Ap] at ed'
   cases q3:(xs.zip ys)[i]? with
   | none=>rw [q3] at ed';cases ed'
   | some pq =>
    rw [q3] at ed'
    have hd:D.tup [pq.1,pq.2]=d:=by simpa using ed'
    subst hd
    obtain ⟨hx,hy⟩:=List.getElem?_zip_eq_some.mp q3
    obtain ⟨v1,ev1,rv1⟩:=(l1.ext e s1.out).get hx
    obtain ⟨v2,ev2,rv2⟩:=(l2.ext e s1.out).get hy
    refine ⟨⟨us,ws,v1,v2,g1,g2,ev1,ev2⟩,λv H2 y=>?_⟩
    obtain ⟨T,x',y',rfl,hT,rfl,f1,f2⟩:=y
    have ex:=f1 us g1
    have ey:=f2 ws g2
    rw [ev1] at ex
    rw [ev2] at ey
    cases ex
    cases ey
    exact ⟨.new hT _,s'.new hT _,Rep.newTup s' hT (.cons rv1 (.cons rv2 .nil)) (by show 2≤sizeLine;decide)⟩
  ·have g1:=(e.fz h1).sq
   have g2:=(e.fz h2).sq
   refine ⟨us,ws,g1,g2,?_⟩
   show us.length≤(FV xs ys).length∨ws.length≤(FV xs ys).length
   unfold FV
   rw [Ac,List.length_zip,l1.len,l2.len]
   dsimp only
   ext⟩
theorem Js {a b:Str}(h:a.cps.toList=b.cps.toList):a=b:=by
 obtain ⟨x⟩:=a
 obtain ⟨y⟩:=b
 have:x=y:=Array.toList_inj.mp h
 rw [this]
noncomputable def strsOf:List D->Option (List Str)
 | []=>some []
 | .str b::ds=>(strsOf ds).map (b::·)
 | _=>none
theorem HJ:∀ {ds:List D} {ss:List Str},strsOf ds=some ss->ds=ss.map D.str
 | [],_,h=>by cases h;rfl
 | d::ds,ss,h=>by
  cases d with
  | str b =>
   unfold strsOf at h
   cases e:strsOf ds with
   | none=>rw [e] at h;cases h
   | some cs=>rw [e] at h;cases h;rw [HJ e];rfl
  | _=>cases h
theorem JU (ss:List Str):strsOf (ss.map D.str)=some ss:=by
 induction ss with
 | nil=>rfl
 | cons s ss ih=>rw [AO,strsOf,ih];rfl
theorem Kz:∀ {ss:List Str} {vs:List V},RepL K th H (ss.map D.str) vs->vs=ss.map V.str∧∀ x∈ss,x.length≤sizeLine∧PyData.strOk x=true
 | [],_,r=>⟨r.inv0,λ_ h=>nomatch h⟩
 | s::ss,_,r=>by
  obtain ⟨v,r',rfl,h1,h2⟩:=RepL.inv (d:=.str s) (ds:=ss.map D.str) r
  obtain ⟨e,hs⟩:=Kz h2
  rw [e,h1.1]
  refine ⟨rfl,λx hx=>?_⟩
  rcases Ah.mp hx with rfl|hx
  ·exact h1.2
  ·exact hs x hx
theorem IJ:∀ {ss:List Str},(∀ x∈ss,x.length≤sizeLine∧PyData.strOk x=true)->RepL K th H (ss.map D.str) (ss.map V.str)
 | [],_=>.nil
 | s::ss,h=>.cons (d:=.str s) ⟨rfl,h s (.head _)⟩ (IJ λx hx=>h x (.tail _ hx))
end
def LtAt (A:Around)(s:Shared)(y x:Value)(b:Bool):Prop:=
 ∀ (prog:Program) (w:World) (E:Value->Shared->Prop) (Q:Value->Shared->Prop),Q (.bool b) s->wpAny (model prog w) A (richCompare .Lt y x) Q E s
def LY (A:Around)(s:Shared):List Value->List Value->Bool->Prop
 | [],[],b=>b=false
 | [],_::_,b=>b=true
 | _::_,[],b=>b=false
 | y::vs,x::ws,b=>∃ e,SeqAt.EqAt A s y x e∧if e=true then LY A s vs ws b else LtAt A s y x b
section
open PySem.SeqAt
open PySem.AutoSeq1 (wpAny_loadPart')
open PySem.MeetsSeq PySem.MeetsSeq2 PySem.MeetsSeq3
theorem Lh (l b:Addr)(items items2:Array Value)(n n2:Nat)(dd dd2:Option Addr)(sl sl2:Array (Option Value))(r:Bool) :
  Meets (Builtin.«tuple.__lt__» ⟨[.ref l,.ref b],[]⟩)
   (λA R s=>s.heap.get? l=some { cls:=.type "tuple",dict:=dd,data:=.seq items n,slots:=sl }∧s.heap.get? b=some { cls:=.type "tuple",dict:=dd2,data:=.seq items2 n2,slots:=sl2 } ∧
    LY A.in1 s items.toList items2.toList r∧R (.ok (.ret (.bool r))) s):=
 .of_wp λprog w A R s h=>by
  obtain ⟨hp,g,d,tk,os⟩:=s;obtain ⟨hl,hb,hx,h⟩:=h
  have f2:=AutoSeq1.sub_tuple_tuple
  wp_walk using wpAny_loadPart' hl,wpAny_loadPart' hb,wpAny_forIn_list _ (λrest b s'=>b.1=none∧s'=⟨hp,g,d,tk,os⟩∧∃ (vs ws:List Value),rest=vs.zip ws ∧
   LY A.in1 ⟨hp,g,d,tk,os⟩ vs ws r∧vs.length+items2.size=ws.length+items.size) _
  case turn =>
   rintro ⟨y,x⟩ rest b s' ⟨hb',rfl,vs,ws,hz,hlx,hlen⟩
   cases vs with
   | nil=>rw [List.zip_nil_left] at hz;cases hz
   | cons a vs' =>
    cases ws with
    | nil=>rw [List.zip_nil_right] at hz;cases hz
    | cons c ws' =>
     rw [List.zip_cons_cons] at hz
     injection hz with hyx hrest
     injection hyx with hy hx
     subst hy hx
     simp only [List.length_cons] at hlen
     obtain ⟨e,he,hiff⟩:=hlx
     refine Aa (he prog w _ _ ?_)
     cases e with
     | true =>
      rw [if_pos rfl] at hiff
      wp_walk
      exact ⟨rfl,rfl,_,_,hrest,hiff,by ext⟩
     | false =>
      rw [if_neg Am] at hiff
      have hri:=hiff prog w
      wp_walk using hri
      exact ⟨_,rfl,by simpa using h⟩
  case fin =>
   rintro ⟨b1,b2⟩ s' ⟨hb',rfl,vs,ws,hz,hlx,hlen⟩
   simp only at hb'
   subst hb'
   have hv:r=decide (items.size<items2.size):=by
    cases vs with
    | nil =>
     cases ws with
     | nil =>
      simp only [List.length_nil] at hlen
      rw [show r=false from hlx]
      exact (AX (by ext)).symm
     | cons c ws' =>
      simp only [List.length_nil,List.length_cons] at hlen
      rw [show r=true from hlx]
      exact (A9 (by ext)).symm
    | cons a vs' =>
     cases ws with
     | nil =>
      simp only [List.length_nil,List.length_cons] at hlen
      rw [show r=false from hlx]
      exact (AX (by ext)).symm
     | cons c ws' =>
      rw [List.zip_cons_cons] at hz
      cases hz
   rw [hv] at h
   wp_walk
   exact ⟨_,rfl,by simpa [Builtin.Tuple.tupleCompareSizes] using h⟩
  case h =>
   exact ⟨rfl,rfl,items.toList,items2.toList,rfl,hx,by simp;ext⟩
end
theorem LtAt.tuples {A:Around}{s:Shared}{l b:Addr}{items items2:Array Value}{r:Bool}(hl:IsTup s.heap l items)(hb:IsTup s.heap b items2)(hu:A.units<cLine)(hx:LY A.in1 s items.toList items2.toList r):LtAt A s (.ref l) (.ref b) r:=λprog w E Q h=>by
 obtain ⟨⟨cls,dd,data,sl⟩,ho,hc,n,hd⟩:=id hl
 obtain ⟨⟨cls2,dd2,data2,sl2⟩,ho2,hc2,n2,hd2⟩:=id hb
 simp only at hc hd hc2 hd2
 subst hc hd hc2 hd2
 exact richCompare_meets_room (op:=.Lt) ⟨_,ho,rfl⟩ ⟨_,ho2,rfl⟩ PySem.F.slot_tuple_lt PySem.F.entry_tuple_lt (PySem.F.args_tuple_lt_2 _ _) (Lh l b items items2 n n2 dd dd2 sl sl2 r)
  ⟨ho,ho2,hx,show Value.bool r≠Value.notImplemented∧Q (.bool r) s from ⟨(λx=>nomatch x),h⟩⟩ hu
mutual
noncomputable def ltB:D->D->Option Bool
 | .int i,.int j=>some (decide (i<j))
 | .str i,.str j=>some (decide (i.cps.toList<j.cps.toList))
 | .tup xs,.tup ys=>Gy xs ys
 | _,_=>none
noncomputable def Gy:List D->List D->Option Bool
 | [],[]=>some false
 | [],_::_=>some true
 | _::_,[]=>some false
 | x::xs,y::ys=>if CY x&&CY y then (if PyData.eqv (toPy x) (toPy y) then Gy xs ys else ltB x y) else none
end
section
variable {X:Cx} {K:Zc} {th:List Addr} {mu:Sto} {H:Hp}
mutual
theorem NT {pins:List (Addr×Obj)}{st:L2.St}{s:Shared}(I:L2.Inv X pins st H s):∀ (d e:D) (b:Bool) (v u:V) (vv uu:Value) (A:Around),ltB d e=some b->Rep X.z th H d v->Rep X.z th H e u->RelV v vv->RelV u uu->A.units+(toPy d).depth+1<cLine->LtAt A s vv uu b
 | .int i,e,b,v,u,vv,uu,A,h,r1,r2,q1,q2,hu=>by
  cases e with
  | int j =>
   unfold ltB at h
   cases h
   cases (show _=_ from r1)
   cases (show _=_ from r2)
   obtain ⟨t1,rfl⟩:=q1
   obtain ⟨t2,rfl⟩:=q2
   exact λprog w E Q hq=>(PyProof.Rows.lt_int hq:wpAny (model prog w) A (compareOp .Lt (.int i t1) (.int j t2)) Q E s)
  | _=>unfold ltB at h;cases h
 | .str i,e,b,v,u,vv,uu,A,h,r1,r2,q1,q2,hu=>by
  cases e with
  | str j =>
   unfold ltB at h
   cases h
   obtain ⟨rfl,_⟩:=(show _∧_ from r1)
   obtain ⟨rfl,_⟩:=(show _∧_ from r2)
   obtain ⟨t1,rfl⟩:=q1
   obtain ⟨t2,rfl⟩:=q2
   exact λprog w E Q hq=>(PyProof.Rows.lt_str hq:wpAny (model prog w) A (compareOp .Lt (.str i t1) (.str j t2)) Q E s)
  | _=>unfold ltB at h;cases h
 | .tup xs,e,b,v,u,vv,uu,A,h,r1,r2,q1,q2,hu=>by
  cases e with
  | tup ys =>
   unfold ltB at h
   unfold Rep at r1 r2
   obtain ⟨a,vs,rfl,h1,l1,_⟩:=r1
   obtain ⟨c,us,rfl,h2,l2,_⟩:=r2
   cases q1
   cases q2
   obtain ⟨its,rv,p1,_⟩:=I.tuple h1
   obtain ⟨its2,rv2,p2,_⟩:=I.tuple h2
   have hd:(toPy (.tup xs)).depth=PyData.depthAll (CC xs)+1:=by unfold toPy PyData.depth;rfl
   rw [hd] at hu
   refine LtAt.tuples p1 p2 (by ext) ?_
   have:=OV I xs ys b vs us its its2 A.in1 h l1 l2 rv rv2 (by show A.units+1+PyData.depthAll (CC xs)+1<cLine;ext)
   simpa using this
  | _=>unfold ltB at h;cases h
 | .non,e,b,_,_,_,_,_,h,_,_,_,_,_=>by cases e<;>(unfold ltB at h;cases h)
 | .bl _,e,b,_,_,_,_,_,h,_,_,_,_,_=>by cases e<;>(unfold ltB at h;cases h)
 | .lst _,e,b,_,_,_,_,_,h,_,_,_,_,_=>by cases e<;>(unfold ltB at h;cases h)
 | .dct _ _,e,b,_,_,_,_,_,h,_,_,_,_,_=>by cases e<;>(unfold ltB at h;cases h)
 | .set _,e,b,_,_,_,_,_,h,_,_,_,_,_=>by cases e<;>(unfold ltB at h;cases h)
 | .ref _,e,b,_,_,_,_,_,h,_,_,_,_,_=>by cases e<;>(unfold ltB at h;cases h)
theorem OV {pins:List (Addr×Obj)}{st:L2.St}{s:Shared}(I:L2.Inv X pins st H s):∀ (xs ys:List D) (b:Bool) (vs us:List V) (vvs uus:List Value) (A:Around),Gy xs ys=some b->RepL X.z th H xs vs->RepL X.z th H ys us->Vals vs vvs->Vals us uus->A.units+PyData.depthAll (CC xs)+1<cLine->LY A s vvs uus b
 | [],[],b,_,_,_,_,A,h,r1,r2,q1,q2,hu=>by
  cases r1.inv0;cases r2.inv0;cases q1;cases q2
  unfold Gy at h
  cases h
  rfl
 | [],y::ys,b,_,_,_,_,A,h,r1,r2,q1,q2,hu=>by
  cases r1.inv0
  obtain ⟨v,r,rfl,_,_⟩:=r2.inv
  cases q1
  cases q2
  unfold Gy at h
  cases h
  rfl
 | x::xs,[],b,_,_,_,_,A,h,r1,r2,q1,q2,hu=>by
  cases r2.inv0
  obtain ⟨v,r,rfl,_,_⟩:=r1.inv
  cases q1
  cases q2
  unfold Gy at h
  cases h
  rfl
 | x::xs,y::ys,b,_,_,_,_,A,h,r1,r2,q1,q2,hu=>by
  obtain ⟨v,r,rfl,a1,a2⟩:=r1.inv
  obtain ⟨u,r',rfl,b1,b2⟩:=r2.inv
  cases q1 with
  | cons g1 g2 =>
   cases q2 with
   | cons k1 k2 =>
    unfold Gy at h
    have hd:PyData.depthAll (CC (x::xs))=max (toPy x).depth (PyData.depthAll (CC xs)):=by rw [CC,PyData.depthAll]
    rw [hd] at hu
    by_cases c:(CY x&&CY y)=true
    ·rw [if_pos c] at h
     rw [Ae] at c
     obtain ⟨as,w1,w2⟩:=EI I x v _ c.1 a1 g1
     obtain ⟨bs,w3,w4⟩:=EI I y u _ c.2 b1 k1
     refine ⟨_,SeqAt.eqAt_reads _ _ A s _ _ as bs w1 w3 w2 w4 (by ext),?_⟩
     cases e:PyData.eqv (toPy x) (toPy y) with
     | true=>rw [e] at h;rw [if_pos rfl] at h ⊢;exact OV I xs ys b _ _ _ _ A h a2 b2 g2 k2 (by ext)
     | false=>rw [e] at h;rw [if_neg Am] at h ⊢;exact NT I x y b _ _ _ _ A h a1 b1 g1 k1 (by ext)
    ·rw [if_neg c] at h;cases h
end
def ltG (d e:D)(mu:Sto):Rs D:=if (toPy d).depth≤60 then (ltB d e).map λb=>(.bl b,mu) else none
theorem QF (hu:X.A.units+64<cLine):OpV X (compareOp .Lt) ltG:=by
 intro pins s st H x y v u Q I rx ry h
 obtain ⟨th,mu,d,e,so,r1,r2,t⟩:=h
 unfold ltG at t
 by_cases c:(toPy d).depth≤60
 ·rw [if_pos c] at t
  cases e1:ltB d e with
  | none=>rw [e1] at t;exact t.no.elim
  | some b =>
   rw [e1] at t
   exact NT I d e b x y v u X.A e1 r1 r2 rx ry (by ext) _ _ _ _ ⟨.bl b,H,I,rfl,t.ret so _ rfl⟩
 ·rw [if_neg c] at t;exact t.no.elim
end
section
variable {X:Cx} {K:Zc} {th:List Addr} {mu:Sto} {H:Hp}
theorem HF {pins:List (Addr×Obj)}{st:L2.St}{s:Shared}(I:L2.Inv X pins st H s):sysModules<s.heap.objs.size:=by
 obtain ⟨o,_,_,ho,_⟩:=I.mod.glob
 exact Az (show sysModules<mainGlobals+1 by decide) (An (I.bk _ _ ho))
theorem JV {P:Program}{w:World}{H:Hp}{h:Heap}{a:Addr}{xs:List (Int×V×V)}(x:VU a xs h):ObjOk P w H h a (E3 a xs):=by
 refine ⟨x,?_,λh1 h2 ⟨z,o,es,ep,ho,r⟩ k=>⟨z,o,es,ep,k o ho,r⟩⟩
 obtain ⟨_,o,es,ep,ho,r⟩:=x
 exact ⟨o,ho⟩
noncomputable def Y0:Ex:=λ_ mu=>some (.dct [] [],mu)
noncomputable def MJ:Ex:=λ_ mu=>some (.ref mu.length,mu++[.dct [] []])
theorem U8 {pins:List (Addr×Obj)}{st:L2.St}{s:Shared}(I:L2.Inv X pins st H s):VU s.heap.objs.size [] (s.heap.push { cls:=.type "dict",data:=.dict #[] }):=
 ⟨beq_eq_false_iff_ne.mpr (Ne.symm (AA (HF I))),_,#[],0,Ai _ rfl,⟨rfl,rfl,rfl⟩,rfl,.nil,rfl⟩
theorem OT {pos:Pos}:SV X (.Dict [] [] pos) MJ:=⟨λpins s st H Q I h=>by
 obtain ⟨th,mu,ro,so,en,t⟩:=h
 have hp:H s.heap.objs.size=none:=I.hok.fresh (Aj _)
 refine wpAny_Dict_empty ⟨.ref s.heap.objs.size,_,I.laid (a:=s.heap.objs.size) (o:=E3 s.heap.objs.size []) (t':=s.toks) (λ_ _ q=>Ad _ q) (Aj _) (JV (U8 I)),rfl,t.retX (.newM hp _) (so.newD hp) _ ?_⟩
 unfold Rep
 exact ⟨_,rfl,by rw [← so.len];simp⟩⟩
end
noncomputable def Dm {α:Type}(ask:Nat->Nat->Option Bool):PySem.W.KasT α->Option α
 | .ret a=>some a
 | .ask i j k=>match ask i j with
  | none=>none
  | some b=>Dm ask (k b)
theorem Iq {α:Type}{ask:Nat->Nat->Option Bool}{cmp:Nat->Nat->(Bool->Shared->Prop)->Shared->Prop}{s:Shared}(hc:∀ i j b C,ask i j=some b->C b s->cmp i j C s):∀ (t:PySem.W.KasT α) (a:α) (Q:α->Shared->Prop),Dm ask t=some a->Q a s->t.kasWp cmp Q s
 | .ret a,_,Q,e,q=>by cases e;exact q
 | .ask i j k,a,Q,e,q=>by
  unfold Dm at e
  cases e1:ask i j with
  | none=>rw [e1] at e;cases e
  | some b =>
   rw [e1] at e
   exact hc i j b _ e1 (Iq hc (k b) a Q e q)
section
variable {X:Cx} {K:Zc} {th:List Addr} {mu:Sto} {H:Hp}
def tupS:D->Bool
 | .tup (.str x::r)=>Fe r&&decide (PyData.depthAll (CC r)≤50)
 | _=>false
theorem Jx {d:D}(h:tupS d=true):∃ x r,d=.tup (.str x::r)∧Fe r=true∧PyData.depthAll (CC r)≤50:=by
 unfold tupS at h
 split at h
 ·rename_i x r
  rw [Ae,Ak] at h
  exact ⟨x,r,rfl,h.1,h.2⟩
 ·cases h
theorem KC {pins:List (Addr×Obj)}{st:L2.St}{s:Shared}(I:L2.Inv X pins st H s){A:Around}{fin:Bool}{Q:Bool->Shared->Prop} :
  ∀ (xs ys:List D) (b:Bool) (vs us:List V) (vvs uus:List Value) (i:Nat),Gy xs ys=some b->RepL X.z th H xs vs->RepL X.z th H ys us->Vals vs vvs->Vals us uus->A.units+PyData.depthAll (CC xs)+1<cLine ->
   (i=0->∃ x r y r',xs=.str x::r∧ys=.str y::r')->(fin=decide (xs.length<ys.length))->Q b s->PySem.W.KatLex X.prog X.w A true fin Q (vvs.zip uus) i s
 | [],[],b,_,_,_,_,i,h,r1,r2,q1,q2,hu,h0,hf,q=>by
  cases r1.inv0;cases r2.inv0;cases q1;cases q2
  unfold Gy at h
  cases h
  exact PySem.W.kat_nil (by rw [hf];exact q)
 | [],y::ys,b,_,_,_,_,i,h,r1,r2,q1,q2,hu,h0,hf,q=>by
  cases r1.inv0
  obtain ⟨v,r,rfl,_,_⟩:=r2.inv
  cases q1
  cases q2
  unfold Gy at h
  cases h
  exact PySem.W.kat_nil (by rw [hf,A9 (by simp)];exact q)
 | x::xs,[],b,_,_,_,_,i,h,r1,r2,q1,q2,hu,h0,hf,q=>by
  cases r2.inv0
  obtain ⟨v,r,rfl,_,_⟩:=r1.inv
  cases q1
  cases q2
  unfold Gy at h
  cases h
  exact PySem.W.kat_nil (by rw [hf,AX (by simp)];exact q)
 | x::xs,y::ys,b,_,_,_,_,i,h,r1,r2,q1,q2,hu,h0,hf,q=>by
  obtain ⟨v,r,rfl,a1,a2⟩:=r1.inv
  obtain ⟨u,r',rfl,b1,b2⟩:=r2.inv
  cases q1 with
  | cons g1 g2 =>
   cases q2 with
   | cons k1 k2 =>
    unfold Gy at h
    have hd:PyData.depthAll (CC (x::xs))=max (toPy x).depth (PyData.depthAll (CC xs)):=by rw [CC,PyData.depthAll]
    rw [hd] at hu
    by_cases c:(CY x&&CY y)=true
    ·rw [if_pos c] at h
     rw [Ae] at c
     obtain ⟨as,w1,w2⟩:=EI I x v _ c.1 a1 g1
     obtain ⟨bs,w3,w4⟩:=EI I y u _ c.2 b1 k1
     refine PySem.W.kat_cons (SeqAt.eqAt_reads _ _ A s _ _ as bs w1 w3 w2 w4 (by ext) _ _ _ _ ?_)
     cases e:PyData.eqv (toPy x) (toPy y) with
     | true =>
      rw [e,if_pos rfl] at h
      refine PySem.W.kat_yes (KC I xs ys b _ _ _ _ (i+1) h a2 b2 g2 k2 (by ext) (λz=>by ext) (by rw [hf];simp) q)
     | false =>
      rw [e,if_neg Am] at h
      refine PySem.W.kat_no ?_
      by_cases hi:i=0
      ·subst hi
       obtain ⟨x',_,y',_,e1,e2⟩:=h0 rfl
       cases e1
       cases e2
       obtain ⟨rfl,_⟩:=(show _∧_ from a1)
       obtain ⟨rfl,_⟩:=(show _∧_ from b1)
       obtain ⟨t1,rfl⟩:=g1
       obtain ⟨t2,rfl⟩:=k1
       unfold ltB at h
       cases h
       exact oneLt_str q
      ·rw [show (true&&i==0)=false by simp [hi]]
       exact PySem.W.kat_one _ _ (NT I x y b _ _ _ _ A h a1 b1 g1 k1 (by ext) _ _ _ _ q)
    ·rw [if_neg c] at h;cases h
def Qh (ds:List D)(i j:Nat):Option Bool:=match ds[i]?,ds[j]? with
 | some d,some e=>ltB d e
 | _,_=>none
theorem J1 {pins:List (Addr×Obj)}{st:L2.St}{s:Shared}(I:L2.Inv X pins st H s):∀ {ds:List D} {vs:List V} {us:List Value},ds.all tupS=true->RepL X.z th H ds vs->Vals vs us->∃ fs,PySem.W.KatTups s.heap us fs∧fs.length=ds.length∧∀ v∈fs,∃ x t,v=.str x t
 | [],_,_,_,r,q=>by cases r.inv0;cases q;exact ⟨[],.nil,rfl,λ_ h=>nomatch h⟩
 | d::ds,_,_,h,r,q=>by
  obtain ⟨v,r',rfl,a1,a2⟩:=r.inv
  rw [List.all_cons,Ae] at h
  cases q with
  | cons q1 q2 =>
   obtain ⟨x,es,rfl,_,_⟩:=Jx h.1
   obtain ⟨fs,f1,f2,f3⟩:=J1 I h.2 a2 q2
   unfold Rep at a1
   obtain ⟨a,ws,rfl,h1,l1,_⟩:=a1
   obtain ⟨w0,wr,rfl,l2,_⟩:=RepL.inv l1
   obtain ⟨rfl,_⟩:=(show _∧_ from l2)
   cases q1
   obtain ⟨its,rv,⟨o,g1,g2,n,g3⟩,_⟩:=I.tuple h1
   cases rv with
   | cons k1 k2 =>
    obtain ⟨t,rfl⟩:=k1
    exact ⟨_::fs,.cons g1 g2 g3 rfl f1,by simp [f2],λz hz=>(Ah.mp hz).elim (λe=>⟨x,t,e⟩) (f3 z)⟩
theorem V8 {pins:List (Addr×Obj)}{st:L2.St}{s:Shared}(I:L2.Inv X pins st H s){ds:List D}{vs:List V}{us:List Value}(hd:ds.all tupS=true)(r:RepL X.z th H ds vs)(q:Vals vs us){A:Around}(hu:A.units+60<cLine) :
  ∀ i j b C,Qh ds i j=some b->C b s->PySem.W.kas_ask X.prog X.w A (tuples' true) us i j C s:=λi j b C e hC=>by
 unfold Qh at e
 cases e1:ds[i]? with
 | none=>rw [e1] at e;cases e
 | some d =>
  cases e2:ds[j]? with
  | none=>rw [e1,e2] at e;cases e
  | some d' =>
   rw [e1,e2] at e
   have m1:=Ar.mp hd d (Al e1)
   have m2:=Ar.mp hd d' (Al e2)
   obtain ⟨x,xs,rfl,_,dx⟩:=Jx m1
   obtain ⟨y,ys,rfl,_,dy⟩:=Jx m2
   obtain ⟨v,ev,rv⟩:=r.get e1
   obtain ⟨v',ev',rv'⟩:=r.get e2
   obtain ⟨u,eu,ru⟩:=q.get ev
   obtain ⟨u',eu',ru'⟩:=q.get ev'
   unfold PySem.W.kas_ask
   rw [show us.getD i Value.none=u by rw [AL,eu];rfl,show us.getD j Value.none=u' by rw [AL,eu'];rfl]
   unfold Rep at rv rv'
   obtain ⟨a,ws,rfl,h1,l1,_⟩:=rv
   obtain ⟨a',ws',rfl,h1',l1',_⟩:=rv'
   cases ru
   cases ru'
   obtain ⟨its,rw1,⟨o,g1,g2,n,g3⟩,_⟩:=I.tuple h1
   obtain ⟨its',rw2,⟨o',g1',g2',n',g3'⟩,_⟩:=I.tuple h1'
   unfold ltB at e
   refine PySem.W.kat_lt g1 g3 g1' g3' ?_
   have hx:PyData.depthAll (CC (.str x::xs))≤50:=by
    rw [CC,PyData.depthAll]
    show max 0 _≤50
    ext
   have:=KC I (A:=A) (fin:=decide (its.toArray.size<its'.toArray.size)) (Q:=C) (.str x::xs) (.str y::ys) b ws ws' its its' 0 e l1 l1' rw1 rw2 (by ext) (λ_=>⟨x,xs,y,ys,rfl,rfl⟩) (by rw [Aq,Aq,← rw1.length,← rw2.length,l1.len,l1'.len]) hC
   simpa using this
end
section
variable {prog:Program} {w:World} {A:Around} {E:Value->Shared->Prop} {s:Shared}
theorem Od {T:String}(hT:T="list"∨T="tuple"){l:Addr}{ob:Obj}{zs:List Value}{n:Nat}{Q:List Value->Shared->Prop}(ho:s.heap.get? l=some ob)(hc:ob.cls=.type T)(hd:ob.data=.seq zs.toArray n)
  (h:Q zs { s with heap:=(s.heap.push (seqObj "list" #[] 0)).update s.heap.objs.size (Obj.mapSeq (·++zs.toArray)) }) (hz:zs.length≤sizeLine):wpAny (model prog w) A (collect (.ref l)) Q E s:=by
 unfold collect
 refine Aa (wpAny_runValue (Bl entry_proto_collect' ?_))
 show wpAny _ _ (do again (.builtin "list.__iadd__" ⟨[← newList [],.ref l],[]⟩)) _ _ s
 refine Aa (wpAny_newList (Ab (And.intro (Code.quiet_builtin _ (by symm)) (Bl entry_list_iadd' ?_))))
 show wpAny _ _ (Builtin.List.listExtendWith (.ref s.heap.objs.size) (.ref l) (.ref s.heap.objs.size)) _ _ { s with heap:=s.heap.push (seqObj "list" #[] 0) }
 have g:(s.heap.push (seqObj "list" #[] 0)).get? l=some ob:=Ad _ ho
 (unfold Builtin.List.listExtendWith)
 refine Aa (Br (T:=T) ⟨ob,g,hc⟩ ?_)
 rw [if_pos (by rcases hT with rfl|rfl<;>simp)]
 refine Aa (listItems_at g hd (Aa (listItems_at (xs:=#[]) (n:=0) (Ai _ rfl) rfl ?_)))
 rw [if_neg (by simp)]
 refine Aa (listUpdate_at (xs:=#[]) (n:=0) (Ai _ rfl) rfl (Ab ?_) (A0 _) (by
  show ((#[]:Array Value)++zs.toArray).size≤sizeLine+1
  simp only [Array.size_append,Aq,List.length_nil]
  ext))
 show wpAny (model prog w) A (load s.heap.objs.size >>= λo=>match o.data with
   | .seq xs _=>pure xs.toList
   | _=>unsupported "internal:collect") Q E { s with heap:=(s.heap.push (seqObj "list" #[] 0)).update s.heap.objs.size (Obj.mapSeq (·++zs.toArray)) }
 refine Aa (wpAny_load (get?_update_seq (Ai _ rfl) _) ?_)
 show wpAny _ _ (pure ((#[]:Array Value)++zs.toArray).toList) Q E _
 have e0:((#[]:Array Value)++zs.toArray).toList=zs:=by simp
 rw [e0]
 exact Ab h
theorem O6 {a:Addr}{zs:List Value}{n:Nat}{P:PySem.Fin->Shared->Prop}{kd:SortKind}(p:Array Nat)(hp:p.size=zs.length)(ho:s.heap.get? a=some (seqObj "list" zs.toArray n))(h2:2≤zs.length)(h64:zs.length<64)
  (hk:∀ (Q:SortKind->Shared->Prop) (E':Value->Shared->Prop),Q kd { s with heap:=((s.heap.update a (Obj.mapSeq λ_=>#[])).push (seqObj "tuple" zs.toArray 0)).push (seqObj "list" #[] 0) }->wpAny (model prog w) A (keyKind' zs.toArray) Q E' { s with heap:=((s.heap.update a (Obj.mapSeq λ_=>#[])).push (seqObj "tuple" zs.toArray 0)).push (seqObj "list" #[] 0) })
  (hr:∀ G:Array Nat->Shared->Prop,G p { s with heap:=((s.heap.update a (Obj.mapSeq λ_=>#[])).push (seqObj "tuple" zs.toArray 0)).push (seqObj "list" #[] 0) }->(PySem.W.kas_sort zs.length).kasWp (PySem.W.kas_ask prog w A kd zs) G { s with heap:=((s.heap.update a (Obj.mapSeq λ_=>#[])).push (seqObj "tuple" zs.toArray 0)).push (seqObj "list" #[] 0) })
  (h:P (.done (.ret .none)) { s with heap:=sortedHeap s.heap a zs (p.toList.map λi=>zs.getD i Value.none).toArray }):wpAny (model prog w) A (Builtin.«list.sort» ⟨[.ref a],[]⟩) P E s:=by
 have la:a<s.heap.objs.size:=An ho
 rw [list_sort_plain]
 refine Aa (listItems_at ho rfl (Aa (listUpdate_at ho rfl ?_ (by rw [Aq,As];ext) (A0 _))))
 obtain ⟨n1,ho1⟩:∃ n1,(s.heap.update a (Obj.mapSeq λ_=>#[])).get? a=some (seqObj "list" #[] n1):=⟨_,get?_update_seq ho λ_=>#[]⟩
 refine Aa (seqEpoch_at ho1 rfl (Aa (wpAny_newTuple (Aa (wpAny_newList (AH ?_) (A0 _))) (by show zs.length≤_;rw [As];ext))))
 have ho2:(((s.heap.update a (Obj.mapSeq λ_=>#[])).push (seqObj "tuple" zs.toArray 0)).push (seqObj "list" #[] 0)).get? a=some (seqObj "list" #[] n1):=Ad _ (Ad _ ho1)
 show wpAny (model prog w) A _ P E { s with heap:=((s.heap.update a (Obj.mapSeq λ_=>#[])).push (seqObj "tuple" zs.toArray 0)).push (seqObj "list" #[] 0) }
 dsimp only
 have n2:¬ zs.toArray.size<2:=by rw [Aq];ext
 rw [if_neg n2,if_neg n2]
 refine Aa (hk _ _ ?_)
 refine Aa (wpAny_mono (PySem.W.kat_run (E:=E) (Q:=λst' s'=>arrOf st'=p.map (PySem.W.kas_item (zs.toArray.zip zs.toArray))∧failedOf st'=none∧s'={ s with heap:=((s.heap.update a (Obj.mapSeq λ_=>#[])).push (seqObj "tuple" zs.toArray 0)).push (seqObj "list" #[] 0) }) rfl h2 h64
  (G:=λp' s'=>p'=p∧s'={ s with heap:=((s.heap.update a (Obj.mapSeq λ_=>#[])).push (seqObj "tuple" zs.toArray 0)).push (seqObj "list" #[] 0) }) (λp' st' s' _ a2 a3 a4=>⟨by rw [← a4.1];exact a2,a3,a4.2⟩) (hr _ ⟨rfl,rfl⟩)) ?_ λ_ _ e=>e)
 rintro ⟨⟨⟩,st'⟩ s' ⟨ha,hf,rfl⟩
 dsimp only
 rw [PySem.W.kat_snds rfl ha]
 refine Aa (seqEpoch_at ho2 rfl (Aa (listUpdate_at ho2 rfl ?_ (A0 _) (by
  show (List.toArray (p.toList.map λi=>zs.getD i Value.none)).size≤sizeLine+1
  rw [Aq,Ac,Array.length_toList,hp,As]
  ext))))
 rw [hf]
 simp only [bne_self_eq_false,AR,Bu]
 exact Ab h
theorem S0 {a:Addr}{zs:List Value}{n:Nat}{P:PySem.Fin->Shared->Prop}(ho:s.heap.get? a=some (seqObj "list" zs.toArray n))(h2:zs.length<2)
  (h:P (.done (.ret .none)) { s with heap:=sortedHeap s.heap a zs zs.toArray }):wpAny (model prog w) A (Builtin.«list.sort» ⟨[.ref a],[]⟩) P E s:=by
 rw [list_sort_plain]
 refine Aa (listItems_at ho rfl (Aa (listUpdate_at ho rfl ?_ (by rw [Aq,As];ext) (A0 _))))
 obtain ⟨n1,ho1⟩:∃ n1,(s.heap.update a (Obj.mapSeq λ_=>#[])).get? a=some (seqObj "list" #[] n1):=⟨_,get?_update_seq ho λ_=>#[]⟩
 refine Aa (seqEpoch_at ho1 rfl (Aa (wpAny_newTuple (Aa (wpAny_newList (AH ?_) (A0 _))) (by show zs.length≤_;rw [As];ext))))
 have ho2:(((s.heap.update a (Obj.mapSeq λ_=>#[])).push (seqObj "tuple" zs.toArray 0)).push (seqObj "list" #[] 0)).get? a=some (seqObj "list" #[] n1):=Ad _ (Ad _ ho1)
 show wpAny (model prog w) A _ P E { s with heap:=((s.heap.update a (Obj.mapSeq λ_=>#[])).push (seqObj "tuple" zs.toArray 0)).push (seqObj "list" #[] 0) }
 dsimp only
 have n2:zs.toArray.size<2:=by rw [Aq];exact h2
 rw [if_pos n2,if_pos n2]
 refine Aa (Ab ?_)
 rw [StateT.run_pure]
 refine Aa (Ab ?_)
 dsimp only
 have e0:(arrOf (SortSt.mk' general' (zs.toArray.zip zs.toArray) #[] 7 none)).map (·.2)=zs.toArray:=by
  show (zs.toArray.zip zs.toArray).map (·.2)=zs.toArray
  rw [show zs.toArray.zip zs.toArray=(zs.zip zs).toArray by simp,List.map_toArray,List.map_snd_zip (Aj _)]
 rw [e0]
 refine Aa (seqEpoch_at ho2 rfl (Aa (listUpdate_at ho2 rfl ?_ (A0 _) (by
  show zs.toArray.size≤sizeLine+1
  rw [Aq,As]
  ext))))
 simp only [bne_self_eq_false,AR,Bu]
 exact Ab h
end
end PV
namespace PV
open PySem PyProof.Rows
theorem EB {α β:Type}(ask:Nat->Nat->Option Bool):∀ (t:PySem.W.KasT α) (f:α->PySem.W.KasT β),Dm ask (t.bind f)=(Dm ask t).bind λa=>Dm ask (f a)
 | .ret a,f=>rfl
 | .ask i j k,f=>by
  have ih:=λb=>EB ask (k b) f
  simp only [PySem.W.KasT.bind,Dm]
  cases ask i j with
  | none=>rfl
  | some b=>exact ih b
structure Pre (n:Nat) (ask:Nat->Nat->Option Bool) (lt:Nat->Nat->Bool):Prop where
 tot:∀ i j,i<n->j<n->ask i j=some (lt i j)
 asym:∀ i j,i<n->j<n->lt i j=true->lt j i=false
 trans:∀ i j k,i<n->j<n->k<n->lt j i=false->lt k j=false->lt k i=false
noncomputable def gi (p:Array Nat)(k:Nat):Nat:=p.getD k 0
structure Ix' (n:Nat) (p:Array Nat):Prop where
 pm:p.toList.Perm (List.range n)
theorem Ix'.size {n:Nat}{p:Array Nat}(h:Ix' n p):p.size=n:=by rw [← Array.length_toList,h.pm.length_eq,BM]
theorem SF {p:Array Nat}{k:Nat}(h:k<p.size):gi p k=p[k]:=by unfold gi;simp [Array.getD,h]
theorem Ix'.lt {n:Nat}{p:Array Nat}(h:Ix' n p){k:Nat}(hk:k<n):gi p k<n:=by
 have hs:k<p.size:=by rw [h.size];exact hk
 rw [SF hs]
 exact BC.mp (h.pm.mem_iff.mp (by simpa using Array.getElem_mem hs))
theorem KZ {p q:Array Nat}{k j:Nat}(h:p[k]? = q[j]?):gi p k=gi q j:=by
 unfold gi
 rw [Array.getD_eq_getD_getElem?,Array.getD_eq_getD_getElem?,h]
theorem Ix'.rev {n:Nat}{p:Array Nat}(h:Ix' n p)(i j:Nat):Ix' n (PySem.W.kas_rev p i j):=⟨(Array.perm_iff_toList_perm.mp (mirror_perm p i j _)).trans h.pm⟩
theorem Ix'.bub {n:Nat}{p:Array Nat}(h:Ix' n p)(i j:Nat):Ix' n (bubble p i j):=⟨(Array.perm_iff_toList_perm.mp (bubble_perm p i j)).trans h.pm⟩
theorem HD {p:Array Nat}{i j:Nat}(hj:j≤p.size)(k:Nat):gi (PySem.W.kas_rev p i j) k=if i≤k∧k<j then gi p (i+j-1-k) else gi p k:=by
 unfold PySem.W.kas_rev
 have e:=getElem?_mirror (xs:=p) (i:=i) hj ((j-i) / 2) (by ext) k
 by_cases c:(i≤k∧k<i+(j-i) / 2)∨(j-(j-i) / 2≤k∧k<j)
 ·rw [if_pos c] at e
  rw [if_pos (by ext)]
  exact KZ e
 ·rw [if_neg c] at e
  by_cases c2:i≤k∧k<j
  ·rw [if_pos c2,show i+j-1-k=k by ext]
   exact KZ e
  ·rw [if_neg c2]
   exact KZ e
theorem W2 {p:Array Nat}{src d:Nat}(hs:src<p.size)(hd:d≤src)(k:Nat):gi (bubble p src d) k=if k=src-d then gi p src else if src-d<k∧k≤src then gi p (k-1) else gi p k:=by
 have e:=getElem?_bubble hs d hd k
 by_cases c:k=src-d
 ·rw [if_pos c] at e ⊢;exact KZ e
 ·rw [if_neg c] at e ⊢
  by_cases c2:src-d<k∧k≤src
  ·rw [if_pos c2] at e ⊢;exact KZ e
  ·rw [if_neg c2] at e ⊢;exact KZ e
section
variable {n:Nat} {ask:Nat->Nat->Option Bool} {lt:Nat->Nat->Bool}
def Up' (lt:Nat->Nat->Bool)(p:Array Nat)(m:Nat):Prop:=∀ a b,a≤b->b<m->lt (gi p b) (gi p a)=false
def Dn' (lt:Nat->Nat->Bool)(p:Array Nat)(m:Nat):Prop:=∀ a b,a≤b->b<m->lt (gi p a) (gi p b)=false
theorem Pre.irr (O:Pre n ask lt){i:Nat}(h:i<n):lt i i=false:=by
 cases e:lt i i with
 | false=>rfl
 | true=>rw [← e];exact O.asym i i h h e
theorem Up'.more (O:Pre n ask lt){p:Array Nat}{m:Nat}(I:Ix' n p)(h:Up' lt p m)(hm:m<n)(h1:m=0∨lt (gi p m) (gi p (m-1))=false):Up' lt p (m+1):=λa b hab hb=>by
 by_cases e:b<m
 ·exact h a b hab e
 ·have:b=m:=by ext
  subst this
  by_cases ea:a=b
  ·subst ea;exact O.irr (I.lt hm)
  ·rcases h1 with h1|h1
   ·ext
   ·exact O.trans (gi p a) (gi p (b-1)) (gi p b) (I.lt (by ext)) (I.lt (by ext)) (I.lt hm) (h a (b-1) (by ext) (by ext)) h1
theorem Nt (O:Pre n ask lt){p:Array Nat}(I:Ix' n p):∀ (f m:Nat),1≤m->m+f≤n->Up' lt p m->∃ k,Dm ask (PySem.W.kas_asc p f m)=some k∧m≤k∧k≤m+f∧Up' lt p k∧(k<m+f->lt (gi p k) (gi p (k-1))=true)
 | 0,m,_,_,h=>⟨m,rfl,Aj _,Aj _,h,λz=>by ext⟩
 | f+1,m,h1,hm,h=>by
  have e:ask (p.getD m 0) (p.getD (m-1) 0)=some (lt (gi p m) (gi p (m-1))):=O.tot _ _ (I.lt (by ext)) (I.lt (by ext))
  unfold PySem.W.kas_asc Dm
  rw [e]
  dsimp only
  cases c:lt (gi p m) (gi p (m-1)) with
  | true =>
   rw [if_pos rfl]
   exact ⟨m,rfl,Aj _,by ext,h,λ_=>c⟩
  | false =>
   rw [if_neg Am]
   obtain ⟨k,a1,a2,a3,a4,a5⟩:=Nt O I f (m+1) (by ext) (by ext) (h.more O I (by ext) (.inr c))
   exact ⟨k,a1,by ext,by ext,a4,λz=>a5 (by ext)⟩
def Yi (lt:Nat->Nat->Bool)(n:Nat)(p q:Array Nat):Prop:=∀ k,k<n->lt (gi p k) (gi q k)=false∧lt (gi q k) (gi p k)=false
theorem Dn'.more (O:Pre n ask lt){p:Array Nat}{m:Nat}(I:Ix' n p)(h:Dn' lt p m)(hm:m<n)(h0:0<m)(h1:lt (gi p (m-1)) (gi p m)=false):Dn' lt p (m+1):=λa b hab hb=>by
 by_cases e:b<m
 ·exact h a b hab e
 ·have:b=m:=by ext
  subst this
  by_cases ea:a=b
  ·subst ea;exact O.irr (I.lt hm)
  ·exact O.trans (gi p b) (gi p (b-1)) (gi p a) (I.lt hm) (I.lt (by ext)) (I.lt (by ext)) h1 (h a (b-1) (by ext) (by ext))
theorem Dn'.like (O:Pre n ask lt){p q:Array Nat}{m:Nat}(I:Ix' n p)(J:Ix' n q)(hm:m≤n)(h:Dn' lt p m)(l:Yi lt n p q):Dn' lt q m:=λa b hab hb =>
 O.trans (gi q b) (gi p a) (gi q a) (J.lt (by ext)) (I.lt (by ext)) (J.lt (by ext)) (O.trans (gi q b) (gi p b) (gi p a) (J.lt (by ext)) (I.lt (by ext)) (I.lt (by ext)) (l b (by ext)).1 (h a b hab hb)) (l a (by ext)).2
theorem MW (O:Pre n ask lt){p:Array Nat}(I:Ix' n p){i j:Nat}(hj:j≤n)(eq:∀ a b,i≤a->a<j->i≤b->b<j->lt (gi p a) (gi p b)=false):Yi lt n p (PySem.W.kas_rev p i j):=λk hk=>by
 rw [HD (by rw [I.size];exact hj)]
 by_cases c:i≤k∧k<j
 ·rw [if_pos c]
  exact ⟨eq _ _ (by ext) (by ext) (by ext) (by ext),eq _ _ (by ext) (by ext) (by ext) (by ext)⟩
 ·rw [if_neg c]
  exact ⟨O.irr (I.lt hk),O.irr (I.lt hk)⟩
theorem Jo (O:Pre n ask lt):∀ (f:Nat) (p:Array Nat) (m q:Nat),Ix' n p->1≤m->m+f≤n->q+1≤m->Dn' lt p m->(∀ a b,m-(q+1)≤a->a<m->m-(q+1)≤b->b<m->lt (gi p a) (gi p b)=false) ->
  ∃ r,Dm ask (PySem.W.kas_desc f p m q)=some r∧Ix' n r.1∧m≤r.2.1∧r.2.1≤m+f∧r.2.2+1≤r.2.1∧Dn' lt r.1 r.2.1∧∀ a b,r.2.1-(r.2.2+1)≤a->a<r.2.1->r.2.1-(r.2.2+1)≤b->b<r.2.1->lt (gi r.1 a) (gi r.1 b)=false
 | 0,p,m,q,I,h1,hm,hq,hd,he=>⟨(p,m,q),rfl,I,Aj _,Aj _,hq,hd,he⟩
 | f+1,p,m,q,I,h1,hm,hq,hd,he=>by
  have e:ask (p.getD m 0) (p.getD (m-1) 0)=some (lt (gi p m) (gi p (m-1))):=O.tot _ _ (I.lt (by ext)) (I.lt (by ext))
  have e':ask (p.getD (m-1) 0) (p.getD m 0)=some (lt (gi p (m-1)) (gi p m)):=O.tot _ _ (I.lt (by ext)) (I.lt (by ext))
  unfold PySem.W.kas_desc Dm
  rw [e]
  dsimp only
  have one:∀ p':Array Nat,Ix' n p'->∀ a b,m+1-(0+1)≤a->a<m+1->m+1-(0+1)≤b->b<m+1->lt (gi p' a) (gi p' b)=false:=λp' J a b a1 a2 b1 b2=>by
   have:a=b:=by ext
   subst this
   exact O.irr (J.lt (by ext))
  cases c:lt (gi p m) (gi p (m-1)) with
  | true =>
   rw [if_pos rfl]
   have hd1:=hd.more O I (by ext) (by ext) (O.asym _ _ (I.lt (by ext)) (I.lt (by ext)) c)
   by_cases hq0:q > 0
   ·rw [if_pos hq0]
    have J:=I.rev (m-(q+1)) m
    have lk:=MW O I (i:=m-(q+1)) (j:=m) (by ext) he
    obtain ⟨r,a1,a2,a3,a4,a5⟩:=Jo O f (PySem.W.kas_rev p (m-(q+1)) m) (m+1) 0 J (by ext) (by ext) (by ext) (hd1.like O I J (by ext) lk) (one _ J)
    exact ⟨r,a1,a2,by ext,by ext,a5⟩
   ·rw [if_neg hq0]
    obtain ⟨r,a1,a2,a3,a4,a5⟩:=Jo O f p (m+1) 0 I (by ext) (by ext) (by ext) hd1 (one _ I)
    exact ⟨r,a1,a2,by ext,by ext,a5⟩
  | false =>
   rw [if_neg Am]
   unfold Dm
   rw [e']
   dsimp only
   cases c2:lt (gi p (m-1)) (gi p m) with
   | true =>
    rw [if_pos rfl]
    exact ⟨(p,m,q),rfl,I,Aj _,by show m≤_;ext,hq,hd,he⟩
   | false =>
    rw [if_neg Am]
    have hd1:=hd.more O I (by ext) (by ext) c2
    obtain ⟨r,a1,a2,a3,a4,a5⟩:=Jo O f p (m+1) (q+1) I (by ext) (by ext) (by ext) hd1 λa b z1 z2 z3 z4=>by
     have key:∀ x,m+1-(q+1+1)≤x->x<m+1->lt (gi p x) (gi p (m-1))=false∧lt (gi p (m-1)) (gi p x)=false:=λx x1 x2=>by
      by_cases hx:x=m
      ·subst hx;exact ⟨c,c2⟩
      ·exact ⟨he _ _ (by ext) (by ext) (by ext) (by ext),he _ _ (by ext) (by ext) (by ext) (by ext)⟩
     exact O.trans (gi p b) (gi p (m-1)) (gi p a) (I.lt (by ext)) (I.lt (by ext)) (I.lt (by ext)) (key b z3 z4).2 (key a z1 z2).1
    exact ⟨r,a1,a2,by ext,by ext,a5⟩
theorem Oh (O:Pre n ask lt){p:Array Nat}(I:Ix' n p){m:Nat}(h1:1≤m)(hm:m≤n)(hd:Dn' lt p m):∃ r,Dm ask (PySem.W.kas_tail3 m n p)=some r∧Ix' n r.2∧1≤r.1∧r.1≤n∧Up' lt r.2 r.1:=by
 have J:=I.rev 0 m
 have up:Up' lt (PySem.W.kas_rev p 0 m) m:=λa b hab hb=>by
  rw [HD (by rw [I.size];exact hm),HD (by rw [I.size];exact hm),if_pos (by ext),if_pos (by ext)]
  exact hd _ _ (by ext) (by ext)
 obtain ⟨k,a1,a2,a3,a4,_⟩:=Nt O J (n-m) m h1 (by ext) up
 refine ⟨(k,PySem.W.kas_rev p 0 m),?_,J,by show 1≤k;ext,by show k≤n;ext,a4⟩
 unfold PySem.W.kas_tail3
 rw [EB,a1]
 rfl
theorem IS (O:Pre n ask lt){p:Array Nat}(I:Ix' n p){m:Nat}(h1:1≤m)(hm:m<n)(eq:∀ a b,a<m->b<m->lt (gi p a) (gi p b)=false)(hl:lt (gi p m) (gi p (m-1))=true) :
  ∃ r,Dm ask (PySem.W.kas_descPart m n p)=some r∧Ix' n r.2∧1≤r.1∧r.1≤n∧Up' lt r.2 r.1:=by
 have hd:Dn' lt p m:=λa b _ hb=>eq a b (by ext) hb
 have hd1:=hd.more O I hm (by ext) (O.asym _ _ (I.lt hm) (I.lt (by ext)) hl)
 obtain ⟨r,a1,a2,a3,a4,a5,a6,a7⟩:=Jo O (n-(m+1)) p (m+1) 0 I (by ext) (by ext) (by ext) hd1 λa b z1 z2 z3 z4=>by
  have:a=b:=by ext
  subst this
  exact O.irr (I.lt (by ext))
 unfold PySem.W.kas_descPart
 rw [EB,a1]
 show ∃ r',Dm ask (if r.2.2 > 0 then _ else _)=some r'∧_
 by_cases hq:r.2.2 > 0
 ·rw [if_pos hq]
  have J:=a2.rev (r.2.1-(r.2.2+1)) r.2.1
  exact Oh O J (by ext) (by ext) (a6.like O a2 J (by ext) (MW O a2 (by ext) a7))
 ·rw [if_neg hq]
  exact Oh O a2 (by ext) (by ext) a6
theorem RI (O:Pre n ask lt){p:Array Nat}(I:Ix' n p)(hn:1≤n):∃ r,Dm ask (PySem.W.kas_count n p)=some r∧Ix' n r.2∧1≤r.1∧r.1≤n∧Up' lt r.2 r.1:=by
 obtain ⟨k,a1,a2,a3,a4,a5⟩:=Nt O I (n-1) 1 (Aj _) (by ext) (λa b _ hb=>by
  have:a=0:=by ext
  have:b=0:=by ext
  subst a b
  exact O.irr (I.lt (by ext)))
 unfold PySem.W.kas_count
 rw [EB,a1]
 show ∃ r',Dm ask (if (k==n)=true then _ else _)=some r'∧_
 by_cases hk:k=n
 ·rw [if_pos (by simpa using hk)]
  exact ⟨(k,p),rfl,I,a2,by show k≤n;ext,a4⟩
 ·rw [if_neg (by simpa using hk)]
  have lk:=a5 (by ext)
  by_cases h1:k > 1
  ·rw [if_pos h1]
   have e:ask (p.getD 0 0) (p.getD (k-1) 0)=some (lt (gi p 0) (gi p (k-1))):=O.tot _ _ (I.lt (by ext)) (I.lt (by ext))
   unfold Dm
   rw [e]
   dsimp only
   cases c:lt (gi p 0) (gi p (k-1)) with
   | true =>
    rw [if_pos rfl]
    exact ⟨(k,p),rfl,I,a2,by show k≤n;ext,a4⟩
   | false =>
    rw [if_neg Am]
    have J:=I.rev 0 k
    have eqp:∀ a b,a<k->b<k->lt (gi p a) (gi p b)=false:=λa b ha hb=>by
     exact O.trans (gi p b) (gi p 0) (gi p a) (I.lt (by ext)) (I.lt (by ext)) (I.lt (by ext)) (O.trans (gi p b) (gi p (k-1)) (gi p 0) (I.lt (by ext)) (I.lt (by ext)) (I.lt (by ext)) (a4 b (k-1) (by ext) (by ext)) c) (a4 0 a (by ext) ha)
    refine IS O J (by ext) (by ext) (λa b ha hb=>?_) ?_
    ·rw [HD (by rw [I.size];ext),HD (by rw [I.size];ext),if_pos (by ext),if_pos (by ext)]
     exact eqp _ _ (by ext) (by ext)
    ·rw [HD (by rw [I.size];ext),HD (by rw [I.size];ext),if_neg (by ext),if_pos (by ext)]
     cases z:lt (gi p k) (gi p (0+k-1-(k-1))) with
     | true=>rfl
     | false =>
      have:=O.trans (gi p (k-1)) (gi p (0+k-1-(k-1))) (gi p k) (I.lt (by ext)) (I.lt (by ext)) (I.lt (by ext)) (eqp _ _ (by ext) (by ext)) z
      rw [lk] at this
      cases this
  ·rw [if_neg h1]
   exact IS O I a2 (by ext) (λa b ha hb=>by
    have:a=0:=by ext
    have:b=0:=by ext
    subst a b
    exact O.irr (I.lt (by ext))) lk
theorem Ju (O:Pre n ask lt){p:Array Nat}(I:Ix' n p){k:Nat}(hk:k<n)(up:Up' lt p k):∀ (f l r:Nat),l≤r->r≤k->r-l≤f->(∀ j,j<l->lt (gi p k) (gi p j)=false)->(∀ j,r≤j->j<k->lt (gi p k) (gi p j)=true) ->
  ∃ m,Dm ask (PySem.W.kas_place p k f l r)=some m∧m≤k∧(∀ j,j<m->lt (gi p k) (gi p j)=false)∧∀ j,m≤j->j<k->lt (gi p k) (gi p j)=true
 | 0,l,r,h1,h2,h3,hl,hr=>⟨l,rfl,by ext,hl,λj a b=>hr j (by ext) b⟩
 | f+1,l,r,h1,h2,h3,hl,hr=>by
  unfold PySem.W.kas_place
  by_cases c:l ≥ r
  ·rw [if_pos c]
   exact ⟨l,rfl,by ext,hl,λj a b=>hr j (by ext) b⟩
  ·rw [if_neg c]
   have e:ask (p.getD k 0) (p.getD ((l+r) / 2) 0)=some (lt (gi p k) (gi p ((l+r) / 2))):=O.tot _ _ (I.lt hk) (I.lt (by ext))
   unfold Dm
   rw [e]
   dsimp only
   cases c2:lt (gi p k) (gi p ((l+r) / 2)) with
   | true =>
    rw [if_pos rfl]
    refine Ju O I hk up f l ((l+r) / 2) (by ext) (by ext) (by ext) hl λj a b=>?_
    cases z:lt (gi p k) (gi p j) with
    | true=>rfl
    | false =>
     have:=O.trans (gi p ((l+r) / 2)) (gi p j) (gi p k) (I.lt (by ext)) (I.lt (by ext)) (I.lt hk) (up _ _ a b) z
     rw [c2] at this
     cases this
   | false =>
    rw [if_neg Am]
    refine Ju O I hk up f ((l+r) / 2+1) r (by ext) (by ext) (by ext) (λj a=>?_) hr
    exact O.trans (gi p j) (gi p ((l+r) / 2)) (gi p k) (I.lt (by ext)) (I.lt (by ext)) (I.lt hk) (up _ _ (by ext) (by ext)) c2
theorem SR (O:Pre n ask lt):∀ (f:Nat) (p:Array Nat) (k:Nat),Ix' n p->1≤k->k+f=n->Up' lt p k->∃ r,Dm ask (PySem.W.kas_bin f p k)=some r∧Ix' n r∧Up' lt r n
 | 0,p,k,I,_,h,up=>⟨p,rfl,I,by have:k=n:=(by ext);subst this;exact up⟩
 | f+1,p,k,I,h1,h,up=>by
  obtain ⟨m,a1,a2,a3,a4⟩:=Ju O I (k:=k) (by ext) up k 0 k (by ext) (by ext) (by ext) (λj hj=>by ext) (λj a b=>by ext)
  unfold PySem.W.kas_bin
  rw [EB,a1]
  show ∃ r,Dm ask (PySem.W.kas_bin f (bubble p k (k-m)) (k+1))=some r∧_
  have hs:k<p.size:=by rw [I.size];ext
  have J:=I.bub k (k-m)
  have g:∀ j,gi (bubble p k (k-m)) j=if j=m then gi p k else if m<j∧j≤k then gi p (j-1) else gi p j:=λj=>by
   have:=W2 hs (d:=k-m) (by ext) j
   rw [show k-(k-m)=m by ext] at this
   exact this
  refine SR O f _ (k+1) J (by ext) (by ext) λa b hab hb=>?_
  rw [g a,g b]
  by_cases ea:a=m
  ·rw [if_pos ea]
   by_cases eb:b=m
   ·rw [if_pos eb];exact O.irr (I.lt (by ext))
   ·rw [if_neg eb,if_pos (by ext)]
    exact O.asym _ _ (I.lt (by ext)) (I.lt (by ext)) (a4 (b-1) (by ext) (by ext))
  ·rw [if_neg ea]
   by_cases eb:b=m
   ·rw [if_pos eb,if_neg (by ext)]
    exact a3 a (by ext)
   ·rw [if_neg eb]
    by_cases ca:m<a∧a≤k
    ·rw [if_pos ca,if_pos (by ext)];exact up _ _ (by ext) (by ext)
    ·rw [if_neg ca]
     by_cases cb:m<b∧b≤k
     ·rw [if_pos cb];exact up _ _ (by ext) (by ext)
     ·rw [if_neg cb];exact up _ _ (by ext) (by ext)
theorem Ug (O:Pre n ask lt)(hn:1≤n):∃ p,Dm ask (PySem.W.kas_sort n)=some p∧p.toList.Perm (List.range n)∧Up' lt p n:=by
 have I:Ix' n (List.toArray (List.range n)):=⟨by simp⟩
 obtain ⟨r,a1,a2,a3,a4,a5⟩:=RI O I hn
 unfold PySem.W.kas_sort
 rw [EB,a1]
 show ∃ p,Dm ask (if r.1<n then _ else _)=some p∧_
 by_cases c:r.1<n
 ·rw [if_pos c]
  obtain ⟨q,b1,b2,b3⟩:=SR O (n-max r.1 1) r.2 (max r.1 1) a2 (by ext) (by ext) (by rw [show max r.1 1=r.1 by ext];exact a5)
  exact ⟨q,b1,b2.pm,b3⟩
 ·rw [if_neg c]
  exact ⟨r.2,rfl,a2.pm,by rw [show n=r.1 by ext];exact a5⟩
end
end PV
namespace PV
open PySem L2 PySem.Spec PyProof.Rows
section
variable {X:Cx} {K:Zc} {th:List Addr} {mu:Sto} {H:Hp}
theorem Vals.pick {zs:List V}{us:List Value}(q:Vals zs us)(f:Nat->V)(g:Nat->Value):∀ (p:List Nat),(∀ i∈p,RelV (f i) (g i))->Vals (p.map f) (p.map g)
 | [],_=>.nil
 | i::p,h=>.cons (h i (.head _)) (Vals.pick q f g p λj hj=>h j (.tail _ hj))
theorem RepL.pick {ds:List D}{vs:List V}(f:Nat->D)(g:Nat->V):∀ (p:List Nat),(∀ i∈p,Rep K th H (f i) (g i))->RepL K th H (p.map f) (p.map g)
 | [],_=>.nil
 | i::p,h=>.cons (h i (.head _)) (RepL.pick (ds:=ds) (vs:=vs) f g p λj hj=>h j (.tail _ hj))
theorem CallV.or {f:Value}{g g':Fn}(h:CallV X f g)(h':CallV X f g'):CallV X f λds mu=>match g ds mu with|some r=>some r|none=>g' ds mu:=by
 intro pins s st H xs us Q I r q
 obtain ⟨th,mu,ds,so,rd,t⟩:=q
 cases e:g ds mu with
 | some p =>
  refine h pins s st H xs us Q I r ⟨th,mu,ds,so,rd,?_⟩
  rw [e];simpa only [e] using t
 | none =>
  refine h' pins s st H xs us Q I r ⟨th,mu,ds,so,rd,?_⟩
  simpa only [e] using t
end
mutual
theorem HS:∀ {d:D},hsh d=true->CY d=true
 | .non,_=>rfl
 | .int _,_=>rfl
 | .str _,_=>rfl
 | .tup ds,h=>by unfold hsh at h;unfold CY;exact K4 h
 | .bl _,h=>nomatch h
 | .lst _,h=>nomatch h
 | .dct _ _,h=>nomatch h
 | .set _,h=>nomatch h
 | .ref _,h=>nomatch h
theorem K4:∀ {ds:List D},GZ ds=true->Fe ds=true
 | [],_=>rfl
 | d::ds,h=>by
  unfold GZ at h
  rw [Ae] at h
  unfold Fe
  rw [HS h.1,K4 h.2]
  rfl
end
mutual
theorem JQ:∀ {d:D},hsh d=true->(toPy d).depth=dpt d
 | .non,_=>rfl
 | .int _,_=>rfl
 | .str _,_=>rfl
 | .tup ds,h=>by unfold hsh at h;unfold toPy PyData.depth dpt;rw [Ld h]
 | .bl _,h=>nomatch h
 | .lst _,h=>nomatch h
 | .dct _ _,h=>nomatch h
 | .set _,h=>nomatch h
 | .ref _,h=>nomatch h
theorem Ld:∀ {ds:List D},GZ ds=true->PyData.depthAll (CC ds)=Lc ds
 | [],_=>rfl
 | d::ds,h=>by
  unfold GZ at h
  rw [Ae] at h
  unfold CC PyData.depthAll Lc
  rw [JQ h.1,Ld h.2]
end
mutual
theorem Hm:∀ {d e:D},hsh d=true->hsh e=true->PyData.eqv (toPy d) (toPy e)=decide (d=e)
 | .tup ds,.tup es,h,g=>by
  unfold hsh at h g
  unfold toPy PyData.eqv
  rw [MM h g]
  simp
 | .non,e,_,g=>by cases e<;>first|rfl|(simp [toPy,PyData.eqv];done)|cases g
 | .int i,.int j,_,_=>by by_cases c:i=j<;>simp [toPy,PyData.eqv,c]
 | .str i,.str j,_,_=>by by_cases c:i=j<;>simp [toPy,PyData.eqv,c]
 | .int _,.non,_,g=>by simp [toPy,PyData.eqv]
 | .int _,.str _,_,g=>by simp [toPy,PyData.eqv]
 | .int _,.tup _,_,g=>by simp [toPy,PyData.eqv]
 | .str _,.non,_,g=>by simp [toPy,PyData.eqv]
 | .str _,.int _,_,g=>by simp [toPy,PyData.eqv]
 | .str _,.tup _,_,g=>by simp [toPy,PyData.eqv]
 | .int _,.bl _,_,g=>nomatch g
 | .int _,.lst _,_,g=>nomatch g
 | .int _,.dct _ _,_,g=>nomatch g
 | .int _,.set _,_,g=>nomatch g
 | .int _,.ref _,_,g=>nomatch g
 | .str _,.bl _,_,g=>nomatch g
 | .str _,.lst _,_,g=>nomatch g
 | .str _,.dct _ _,_,g=>nomatch g
 | .str _,.set _,_,g=>nomatch g
 | .str _,.ref _,_,g=>nomatch g
 | .tup _,.non,_,_=>by simp [toPy,PyData.eqv]
 | .tup _,.int _,_,_=>by simp [toPy,PyData.eqv]
 | .tup _,.str _,_,_=>by simp [toPy,PyData.eqv]
 | .tup _,.bl _,_,g=>nomatch g
 | .tup _,.lst _,_,g=>nomatch g
 | .tup _,.dct _ _,_,g=>nomatch g
 | .tup _,.set _,_,g=>nomatch g
 | .tup _,.ref _,_,g=>nomatch g
 | .bl _,_,h,_=>nomatch h
 | .lst _,_,h,_=>nomatch h
 | .dct _ _,_,h,_=>nomatch h
 | .set _,_,h,_=>nomatch h
 | .ref _,_,h,_=>nomatch h
theorem MM:∀ {ds es:List D},GZ ds=true->GZ es=true->PyData.eqvAll (CC ds) (CC es)=decide (ds=es)
 | [],[],_,_=>by simp [CC,PyData.eqvAll]
 | [],_::_,_,_=>by simp [CC,PyData.eqvAll]
 | _::_,[],_,_=>by simp [CC,PyData.eqvAll]
 | d::ds,e::es,h,g=>by
  unfold GZ at h g
  rw [Ae] at h g
  unfold CC PyData.eqvAll
  rw [Hm h.1 g.1,MM h.2 g.2]
  by_cases c:d=e<;>by_cases c':ds=es<;>simp [c,c']
end
theorem Em {d:D}(h:DQ d=true):hsh d=true∧dpt d≤8:=by
 unfold DQ at h
 rw [Ae,Ak] at h
 exact h
structure Hd (h:Heap) (d:D) (u:Value):Prop where
 k:DQ d=true
 ok:(toPy d).canLay0=true
 rd:∃ as,Reads h u (toPy d) as
theorem Hc {X:Cx}{th:List Addr}{H:Hp}{pins:List (Addr×Obj)}{st:L2.St}{s:Shared}(I:L2.Inv X pins st H s){d:D}{v:V}{u:Value}(k:DQ d=true)(r:Rep X.z th H d v)(q:RelV v u):Hd s.heap d u:=by
 obtain ⟨as,h1,h2⟩:=EI I d v u (HS (Em k).1) r q
 exact ⟨k,h2,as,h1⟩
section
variable {prog:Program} {w:World} {E:Value->Shared->Prop}
mutual
theorem S1:∀ (d:D) (u:Value) (as:List Addr) (A:Around) (s:Shared) (Q:Int->Shared->Prop),hsh d=true->Reads s.heap u (toPy d) as->A.units+dpt d<cLine->(∀ tk,Q (DJ w d) { s with toks:=tk })->wpAny (model prog w) A (pyHash u) Q E s
 | .non,_,as,A,s,Q,_,x,hu,h=>by
  cases x
  exact PySem.W.pyHash_slot (T:="NoneType") rfl F.slot_NoneType_hash F.entry_NoneType_hash (F.args_NoneType_hash_1 _) (beq_builtin_none _) (.inr (by unfold dpt at hu;ext)) (Aa (Ab (Aa (wpAny_mkInt (Ab ⟨_,_,rfl,h _⟩)))))
 | .int i,_,as,A,s,Q,_,x,_,h=>by cases x;exact wpAny_pyHash_int (h _)
 | .str y,_,as,A,s,Q,_,x,_,h=>by cases x;exact wpAny_pyHash_str (h _)
 | .tup ds,_,as,A,s,Q,hk,x,hu,h=>by
  unfold toPy at x
  cases x with
  | @tuple a o vs n _ _ g1 g2 g3 hw =>
   unfold dpt at hu
   refine PySem.W.pyHash_slot (T:="tuple") ⟨_,g1,g2⟩ F.slot_tuple_hash F.entry_tuple_hash (F.args_tuple_hash_1 _) (beq_builtin_none _) (.inr (by ext)) ?_
   refine (?_:wpAny _ _ (Builtin.Tuple.tupleItemsOf (.ref a) >>= _) _ _ s)
   refine Aa (wpAny_tupleItemsOf g1 g3 (Aa ?_))
   rw [← Array.forIn_toList]
   refine ON ds vs.toList as A.in1 s #[] _ (by unfold hsh at hk;exact hk) hw (by rw [Around.in1_units];ext) λtk b hb=>?_
   refine (?_:wpAny _ _ (retInt (Builtin.Tuple.tupleHashOf b.toList)) _ _ _)
   rw [hb]
   exact Aa (wpAny_mkInt (Ab ⟨_,_,rfl,h _⟩))
 | .bl _,_,_,_,_,_,h,_,_,_=>nomatch h
 | .lst _,_,_,_,_,_,h,_,_,_=>nomatch h
 | .dct _ _,_,_,_,_,_,h,_,_,_=>nomatch h
 | .set _,_,_,_,_,_,h,_,_,_=>nomatch h
 | .ref _,_,_,_,_,_,h,_,_,_=>nomatch h
theorem ON:∀ (ds:List D) (vs:List Value) (as:List Addr) (A:Around) (s:Shared) (b:Array Int) (Q:Array Int->Shared->Prop),GZ ds=true->ReadsAll s.heap vs (CC ds) as->A.units+Lc ds<cLine ->
  (∀ tk b',b'.toList=b.toList++EO w ds->Q b' { s with toks:=tk }) ->
  wpAny (model prog w) A (forIn vs b λx r=>do let h←pyHash x;pure PUnit.unit;pure (ForInStep.yield (r.push h))) Q E s
 | [],_,as,A,s,b,Q,_,x,_,h=>by unfold CC at x;cases x;exact Ab (h s.toks b (by simp [EO]))
 | d::ds,_,as,A,s,b,Q,hk,x,hu,h=>by
  unfold CC at x
  cases x with
  | cons x1 x2 =>
   unfold GZ at hk
   rw [Ae] at hk
   unfold Lc at hu
   rw [List.forIn_cons]
   refine Aa (Aa (S1 d _ _ A s _ hk.1 x1 (by ext) λtk=>Aa (Ab (Ab ?_))))
   exact ON ds _ _ A { s with toks:=tk } _ Q hk.2 x2 (by ext) λtk' b' hb=>h tk' b' (by simp [hb,EO])
end
theorem Hd.hash {A:Around}{s:Shared}{d:D}{u:Value}{Q:Int->Shared->Prop}(x:Hd s.heap d u)(hu:A.units+8<cLine)(h:∀ tk,Q (DJ w d) { s with toks:=tk }):wpAny (model prog w) A (pyHash u) Q E s:=by
 obtain ⟨as,r⟩:=x.rd
 have:=Em x.k
 exact S1 d u as A s Q this.1 r (by ext) h
theorem Hd.eq {A:Around}{s:Shared}{d e:D}{u v:Value}{Q:Bool->Shared->Prop}(x:Hd s.heap d u)(y:Hd s.heap e v)(hu:A.units+8<cLine)(h:Q (decide (d=e)) s):wpAny (model prog w) A (eqBool u v) Q E s:=by
 obtain ⟨as,r⟩:=x.rd
 obtain ⟨bs,r'⟩:=y.rd
 have k1:=Em x.k
 have k2:=Em y.k
 refine SeqAt.eqAt_reads _ _ A s u v as bs r r' x.ok y.ok (by rw [JQ k1.1,JQ k2.1];ext) prog w E Q ?_
 rw [Hm k1.1 k2.1]
 exact h
mutual
theorem Ol:∀ (n:Nat) (d:D) (u:Value) (as:List Addr) (A:Around) (s:Shared) (Q:Bool->Shared->Prop),hsh d=true->dpt d≤n->Reads s.heap u (toPy d) as->Q true s->wpAny (model prog w) A (eqIsQuiet n u) Q E s
 | n,.non,_,as,A,s,Q,_,_,x,h=>by cases x;rw [eqIsQuiet_byValue n rfl];exact Ab h
 | n,.int _,_,as,A,s,Q,_,_,x,h=>by cases x;rw [eqIsQuiet_byValue n rfl];exact Ab h
 | n,.str _,_,as,A,s,Q,_,_,x,h=>by cases x;rw [eqIsQuiet_byValue n rfl];exact Ab h
 | n,.tup ds,_,as,A,s,Q,hk,hn,x,h=>by
  unfold toPy at x
  cases x with
  | @tuple a o vs k _ _ g1 g2 g3 hw =>
   unfold dpt at hn
   obtain ⟨m,rfl⟩:∃ m,n=m+1:=⟨n-1,by ext⟩
   have hT:s.TypeIs (.ref a) "tuple":=⟨o,g1,g2⟩
   unfold eqIsQuiet
   refine Aa (wpAny_specialOf hT F.slot_tuple_eq.lookup ?_)
   refine (?_:wpAny _ _ (isInstance (.ref a) (.type "tuple") >>= _) _ _ s)
   refine Aa (BF hT isSubtype_tuple_tuple ?_)
   simp only [Bool.not_true,AR,Bu]
   refine Aa (Bm g1 g3 (Aa ?_))
   refine (?_:wpAny _ _ (forIn vs _ _) _ _ s)
   rw [← Array.forIn_toList]
   exact MP m ds vs.toList as A s _ (by unfold hsh at hk;exact hk) (by ext) hw (Ab h)
 | _,.bl _,_,_,_,_,_,h,_,_,_=>nomatch h
 | _,.lst _,_,_,_,_,_,h,_,_,_=>nomatch h
 | _,.dct _ _,_,_,_,_,_,h,_,_,_=>nomatch h
 | _,.set _,_,_,_,_,_,h,_,_,_=>nomatch h
 | _,.ref _,_,_,_,_,_,h,_,_,_=>nomatch h
theorem MP:∀ (m:Nat) (ds:List D) (vs:List Value) (as:List Addr) (A:Around) (s:Shared) (Q:Option Bool×PUnit->Shared->Prop),GZ ds=true->Lc ds≤m->ReadsAll s.heap vs (CC ds) as->Q (none,PUnit.unit) s ->
  wpAny (model prog w) A (forIn vs ((none,PUnit.unit):Option Bool×PUnit) λy r=>do
    let q←eqIsQuiet m y
    if (!q)=true then pure (ForInStep.done (some false,PUnit.unit)) else pure (ForInStep.yield (none,PUnit.unit))) Q E s
 | m,[],_,as,A,s,Q,_,_,x,h=>by unfold CC at x;cases x;exact Ab h
 | m,d::ds,_,as,A,s,Q,hk,hn,x,h=>by
  unfold CC at x
  cases x with
  | cons x1 x2 =>
   unfold GZ at hk
   rw [Ae] at hk
   unfold Lc at hn
   rw [List.forIn_cons]
   refine Aa (Aa (Ol m d _ _ A s _ hk.1 (by ext) x1 ?_))
   simp only [Bool.not_true,AR,Bu]
   exact Ab (MP m ds _ _ A s Q hk.2 (by ext) x2 h)
end
theorem Hd.quiet {A:Around}{s:Shared}{d:D}{u:Value}{Q:Bool->Shared->Prop}(x:Hd s.heap d u)(h:Q true s):wpAny (model prog w) A (eqIsQuiet 8 u) Q E s:=by
 obtain ⟨as,r⟩:=x.rd
 have k:=Em x.k
 exact Ol 8 d u as A s Q k.1 k.2 r h
end
def EnK (w:World)(h:Heap)(k:D)(e:DictEntry):Prop:=e.hash=DJ w k∧Hd h k e.key
theorem Dn {α β:Type}{F:α->β->Prop}:∀ {xs:List α} {ys:List β},Paired F xs ys->∀ j:Nat,(∀ x,xs[j]? = some x->∃ y,ys[j]? = some y∧F x y)∧(∀ y,ys[j]? = some y->∃ x,xs[j]? = some x∧F x y)
 | _,_,.nil,j=>⟨λx e=>by simp at e,λy e=>by simp at e⟩
 | _,_,.cons r t,0=>⟨λx e=>by simp at e;subst e;exact ⟨_,rfl,r⟩,λy e=>by simp at e;subst e;exact ⟨_,rfl,r⟩⟩
 | _,_,.cons r t,j+1=>by simpa using Dn t j
theorem Dl {α β:Type}{F:α->β->Prop}:∀ {xs:List α} {ys:List β},Paired F xs ys->xs.length=ys.length
 | _,_,.nil=>rfl
 | _,_,.cons _ t=>by simp [Dl t]
theorem R9 {h:Heap}{k:D}{y:Str}{t:Tok}(x:Hd h k (.str y t)):k=.str y:=by
 obtain ⟨as,r⟩:=x.rd
 have hk:=(Em x.k).1
 cases k<;>first|(cases hk;done)|(unfold toPy at r;cases r;done)|(unfold toPy at r;cases r;rfl)
theorem Xb {h:Heap}{k k':D}{u:Value}(x:Hd h k u)(y:Hd h k' u):k=k':=by
 obtain ⟨as,r⟩:=x.rd
 obtain ⟨bs,r'⟩:=y.rd
 have hk:=(Em x.k).1
 have hk':=(Em y.k).1
 have e:toPy k=toPy k':=SeqAt.Reads.unique _ _ _ _ _ x.ok r r'
 have:=Hm hk hk'
 rw [← e,Hm hk hk] at this
 simpa using this
theorem Rl {ks:List D}(hn:ks.Nodup){i j:Nat}{k:D}(a:ks[i]? = some k)(b:ks[j]? = some k):i=j:=by
 obtain ⟨hi,ei⟩:=Af.mp a
 exact (List.getElem?_inj hi hn).mp (a.trans b.symm)
section
variable {prog:Program} {w:World} {A:Around} {E:Value->Shared->Prop} {s:Shared}
theorem GN {α:Type}{M:Model}{c:Prop} [Decidable c]{x y:Sem α}{Q:α->Shared->Prop}(h1:c->wpAny M A x Q E s)(h2:¬ c->wpAny M A y Q E s):wpAny M A (if c then x else y) Q E s:=by
 by_cases h:c
 ·rw [if_pos h];exact h1 h
 ·rw [if_neg h];exact h2 h
theorem T9 {k:D}{u:Value}{stored:List Value}{Q:Bool->Shared->Prop}(hk:Hd s.heap k u)(hst:∀ v∈stored,∃ k',Hd s.heap k' v)(h:Q false s):wpAny (model prog w) A (tableMayTell u stored) Q E s:=by
 unfold tableMayTell
 split
 ·exact Ab h
 ·refine Aa (hk.quiet ?_)
  simp only [Bool.not_true,AR,Bu]
  refine Aa (wpAny_forIn_list _ (λrest r s'=>s'=s∧r=(none,PUnit.unit)∧∀ v∈rest,∃ k',Hd s.heap k' v) _ ?_ ?_ _ _ ⟨rfl,rfl,hst⟩)
  ·rintro x rest r s' ⟨rfl,rfl,hr⟩
   obtain ⟨k',hb⟩:=hr x List.mem_cons_self
   refine Aa (hb.quiet ?_)
   simp only [Bool.not_true,AR,Bu]
   exact Ab ⟨rfl,rfl,λv hv=>hr v (Bz _ hv)⟩
  ·rintro r s' ⟨rfl,rfl,_⟩;exact Ab h
theorem mS {α:Type}{M:Model}{u:Value}{f:Str->Tok->Sem α}{g:Value->Sem α}{Q:α->Shared->Prop}(h1:∀ x t,u=.str x t->wpAny M A (f x t) Q E s)(h2:∀ v,wpAny M A (g v) Q E s):wpAny M A (isExactStrKey.match_1 (λ_=>Sem α) u f g) Q E s:=by
 cases u<;>first|exact h1 _ _ rfl|exact h2 _
theorem mR {α:Type}{M:Model}{u:Value}{f:Addr->Sem α}{g:Value->Sem α}{Q:α->Shared->Prop}(h1:∀ b,u=.ref b->wpAny M A (f b) Q E s)(h2:∀ v,wpAny M A (g v) Q E s):wpAny M A (carriedByValue.match_1 (λ_=>Sem α) u f g) Q E s:=by
 cases u<;>first|exact h1 _ rfl|exact h2 _
theorem mO {α:Type}{M:Model}{o:Option DictEntry}{e:DictEntry}{f:DictEntry->Sem α}{g:Option DictEntry->Sem α}{Q:α->Shared->Prop}(h:o=some e)(h1:wpAny M A (f e) Q E s):wpAny M A (dictWalkPlain.match_1 (λ_=>Sem α) o f g) Q E s:=by
 rw [h];exact h1
theorem JG {a:Addr}{o:Obj}{es:Array DictEntry}{ep:Nat}{ks:List D}{k:D}{u:Value}{Q:Option Nat->Shared->Prop}(hu:A.units+8<cLine)(hk:Hd s.heap k u)(ho:s.heap.get? a=some o)(hd:o.data=.dict es ep)
  (he:Paired (EnK w s.heap) ks es.toList) (hn:ks.Nodup) (h0:k∉ks->Q none s) (h1:∀ j,ks[j]? = some k->Q (some j) s):wpAny (model prog w) A (dictFind a u (DJ w k)) Q E s:=by
 have hat:∀ j e,es[j]? = some e->∃ k',ks[j]? = some k'∧EnK w s.heap k' e:=λj e q=>(Dn he j).2 e (by rw [AD];exact q)
 have hto:∀ j k',ks[j]? = some k'->∃ e,es[j]? = some e∧EnK w s.heap k' e:=λj k' q=>by
  obtain ⟨e,e1,e2⟩:=(Dn he j).1 k' q
  exact ⟨e,by rw [← AD];exact e1,e2⟩
 have hsz:es.size=ks.length:=by rw [Dl he,Array.length_toList]
 have hno:(∀ j,ks[j]?≠some k)->k∉ks:=λq z=>by obtain ⟨j,e⟩:=A7.mp z;exact q j e
 unfold dictFind
 try with_reducible refine AH ?_
 refine Aa (Bi ho hd ?_)
 have hp:∀ j,ks[j]? = some k->(es[j]?.map (λe:DictEntry=>e.hash)==some (DJ w k))=true:=λj q=>by
  obtain ⟨e,e1,e2,_⟩:=hto j k q
  rw [e1];simp [e2]
 have walk:wpAny (model prog w) A (dictWalkPlain a u (DJ w k) es (placesWithHash es.size (λi=>es[i]?.map (λe:DictEntry=>e.hash)) (DJ w k))) Q E s:=by
  unfold dictWalkPlain
  refine Aa (wpAny_forIn_list _ (λrest b s'=>s'=s∧b=(none,PUnit.unit)∧∃ i,rest=(List.range' i (es.size-i)).filter (λi=>es[i]?.map (λe:DictEntry=>e.hash)==some (DJ w k))∧i≤es.size∧∀ j,j<i->ks[j]?≠some k) _ ?_ ?_ _ _
   ⟨rfl,rfl,0,by rw [placesWithHash,List.range_eq_range',Nat.sub_zero],A0 _,λj z=>absurd z (Nat.not_lt_zero _)⟩)
  ·rintro x rest b s' ⟨rfl,rfl,i,hr,hi,hH⟩
   obtain ⟨hix,hxn,hpx,hskip,hrest⟩:=filter_range'_cons _ _ _ _ _ hr.symm
   have hlt:x<es.size:=by ext
   have ex:es[x]? = some es[x]:=Ax hlt
   obtain ⟨k',e1,e2,e3⟩:=hat x _ ex
   rw [ex] at hpx
   have hh:es[x].hash=DJ w k:=by simpa using hpx
   have hh':(es[x].hash==DJ w k)=true:=by simpa using hh
   have nx:∀ j,j<x->ks[j]?≠some k:=λj hj q=>by
    rcases Nat.lt_or_ge j i with z|z
    ·exact hH j z q
    ·have:=hskip j z hj;rw [hp j q] at this;cases this
   refine mO ex (GN (λ_=>Aa (Bn ho hd (Aa (e3.eq hk hu (Aa (Bn ho hd (GN (λz=>absurd z (by simp)) λ_=>?_))))))) λz=>absurd hh' z)
   refine GN (λc=>?_) λc=>?_
   ·exact Aa (Bq (Ab (Ab (h1 x ((of_decide_eq_true c)▸e1)))))
   ·refine Aa (Bq (Ab ⟨rfl,rfl,x+1,by rw [hrest];congr 2;ext,hlt,λj hj q=>?_⟩))
    rcases Nat.lt_or_ge j x with z|z
    ·exact nx j z q
    ·have:j=x:=by ext
     rw [this,e1] at q
     exact c (A9 (AI q))
  ·rintro b s' ⟨rfl,rfl,i,hr,hi,hH⟩
   refine Ab (h0 (hno λj q=>?_))
   rcases Nat.lt_or_ge j i with z|z
   ·exact hH j z q
   ·have hj:j<es.size:=by rw [hsz];exact (Af.mp q).1
    have:=List.filter_eq_nil_iff.mp hr.symm j (List.mem_range'_1.mpr ⟨z,by ext⟩)
    exact this (hp j q)
 have hst:∀ v∈(placesWithHash es.size (λi=>es[i]?.map (λe:DictEntry=>e.hash)) (DJ w k)).filterMap (λi=>es[i]?.map (λe:DictEntry=>e.key)),∃ k',Hd s.heap k' v:=λv hv=>by
  obtain ⟨i,_,hi⟩:=List.mem_filterMap.mp hv
  cases ei:es[i]? with
  | none=>rw [ei] at hi;cases hi
  | some e =>
   rw [ei] at hi
   obtain rfl:e.key=v:=by simpa using hi
   obtain ⟨k',_,_,q⟩:=hat i e ei
   exact ⟨k',q⟩
 have hany:∀ b,u=.ref b->¬ (es.any λe=>e.key==u&&e.hash != DJ w k)=true:=λb hb=>by
  rw [← Array.any_toList,List.any_eq_true]
  rintro ⟨e,hin,hc⟩
  obtain ⟨j,ej⟩:=A7.mp hin
  obtain ⟨k',_,q1,q2⟩:=hat j e (by rw [← AD];exact ej)
  rw [Ae,bne_iff_ne] at hc
  have ek:e.key=u:=eq_of_beq hc.1
  rw [ek] at q2
  exact hc.2 (by rw [q1,Xb q2 hk])
 have str:∀ x t,u=.str x t->(es.all λe=>isExactStrKey e.key)=true->wpAny (model prog w) A (foundByValue a u es x) Q E s:=λx t hux hall=>by
  subst hux
  have kx:=R9 hk
  subst kx
  have hiff:∀ e∈es.toList,∀ k',Hd s.heap k' e.key->(e.key.isStr x=true ↔ k'=.str x):=λe hm k' q=>by
   rw [← Array.all_toList,Ar] at hall
   have:=hall e hm
   cases ek:e.key<;>rw [ek] at this q<;>first|(cases this;done)|skip
   rename_i y ty
   rw [R9 q]
   show (y==x)=true ↔ _
   simp
  have hidx:es.findIdx? (λe=>e.key.isStr x)=es.toList.findIdx? (λe=>e.key.isStr x):=by cases es;simp
  unfold foundByValue
  rw [hidx]
  cases hr:es.toList.findIdx? (λe=>e.key.isStr x) with
  | none =>
   refine Ab (h0 (hno λj q=>?_))
   obtain ⟨e,e1,e2,e3⟩:=hto j _ q
   have hm:e∈es.toList:=Al (by rw [AD];exact e1)
   have:=List.findIdx?_eq_none_iff.mp hr e hm
   rw [(hiff e hm _ e3).mpr rfl] at this
   cases this
  | some j =>
   obtain ⟨hj,hpj,_⟩:=List.findIdx?_eq_some_iff_getElem.mp hr
   have he':es[j]? = some es.toList[j]:=by rw [← AD];exact Ay hj
   obtain ⟨k',e1,e2,e3⟩:=hat j _ he'
   have kk:=(hiff _ (BS hj) _ e3).mp hpj
   subst kk
   dsimp only
   rw [he']
   dsimp only
   refine Aa (Bn ho hd (Aa (e3.eq hk hu (Aa (Bn ho hd ?_)))))
   rw [if_neg (by simp),A9 rfl]
   exact Aa (Bq (Ab (h1 j e1)))
 suffices g:wpAny (model prog w) A _ Q E s from mS (λx t hx=>GN (λhall=>str x t hx hall) λ_=>g) λ_=>g
 refine GN (λ_=>walk) λ_=>?_
 suffices g:wpAny (model prog w) A _ Q E s from mR (λb hb=>GN (λz=>absurd z (hany b hb)) λ_=>g) λ_=>g
 suffices g:wpAny (model prog w) A _ Q E s from GN (λ_=>Aa (Ab g)) λ_=>Aa (T9 hk hst g)
 refine GN (λz=>absurd z (by simp)) λ_=>?_
 refine Aa (wpAny_forIn_list _ (λrest b s'=>s'=s∧∃ i hit,b=(none,hit)∧rest=(List.range' i (es.size-i)).filter (λi=>es[i]?.map (λe:DictEntry=>e.hash)==some (DJ w k))∧i≤es.size ∧
   ((hit=none∧∀ j,j<i->ks[j]?≠some k)∨∃ j,hit=some j∧j<i∧ks[j]? = some k)) _ ?_ ?_ _ _
  ⟨rfl,0,none,rfl,by rw [placesWithHash,List.range_eq_range',Nat.sub_zero],A0 _,.inl ⟨rfl,λj z=>absurd z (Nat.not_lt_zero _)⟩⟩)
 ·rintro x rest b s' ⟨rfl,i,hit,rfl,hr,hi,hH⟩
  obtain ⟨hix,hxn,hpx,hskip,hrest⟩:=filter_range'_cons _ _ _ _ _ hr.symm
  have hlt:x<es.size:=by ext
  have hrest':rest=(List.range' (x+1) (es.size-(x+1))).filter (λi=>es[i]?.map (λe:DictEntry=>e.hash)==some (DJ w k)):=by rw [hrest];congr 2;ext
  have ex:es[x]? = some es[x]:=Ax hlt
  obtain ⟨k',e1,e2,e3⟩:=hat x _ ex
  rw [ex] at hpx
  have hh:es[x].hash=DJ w k:=by simpa using hpx
  have hh':(es[x].hash==DJ w k)=true:=by simpa using hh
  have hx:(hit=none∧∀ j,j<x->ks[j]?≠some k)∨∃ j,hit=some j∧j<x∧ks[j]? = some k:=by
   rcases hH with ⟨z0,hno'⟩|⟨j,z1,hji,hj⟩
   ·refine .inl ⟨z0,λj hj q=>?_⟩
    rcases Nat.lt_or_ge j i with z|z
    ·exact hno' j z q
    ·have:=hskip j z hj;rw [hp j q] at this;cases this
   ·exact .inr ⟨j,z1,by ext,hj⟩
  refine mO ex (GN (λ_=>Aa (Bn ho hd (Aa (e3.eq hk hu (Aa (Bn ho hd (GN (λz=>absurd z (by simp)) λ_=>?_))))))) λz=>absurd hh' z)
  refine GN (λc=>?_) λc=>?_
  ·have e1:ks[x]? = some k:=(of_decide_eq_true c)▸e1
   rcases hx with ⟨z0,_⟩|⟨j,_,hjx,hj⟩
   ·exact GN (λz=>absurd z (by simp [z0])) λ_=>Aa (Bq (GN (λ_=>Ab (Ab (h1 x e1))) λ_=>Ab ⟨rfl,x+1,some x,rfl,hrest',hlt,.inr ⟨x,rfl,A3 x,e1⟩⟩))
   ·exact absurd (Rl hn hj e1) (by ext)
  ·refine Aa (Bq (GN (λz=>absurd z (by simp)) λ_=>Ab ⟨rfl,x+1,hit,rfl,hrest',hlt,?_⟩))
   rcases hx with ⟨z0,hno'⟩|⟨j,z1,hji,hj⟩
   ·refine .inl ⟨z0,λj hj q=>?_⟩
    rcases Nat.lt_or_ge j x with z|z
    ·exact hno' j z q
    ·have:j=x:=by ext
     rw [this,e1] at q
     exact c (A9 (AI q))
   ·exact .inr ⟨j,z1,by ext,hj⟩
 ·rintro b s' ⟨rfl,i,hit,rfl,hr,hi,hH⟩
  rcases hH with ⟨rfl,hno'⟩|⟨j,rfl,_,hj⟩
  ·refine Ab (h0 (hno λj q=>?_))
   rcases Nat.lt_or_ge j i with z|z
   ·exact hno' j z q
   ·have hj:j<es.size:=by rw [hsz];exact (Af.mp q).1
    exact List.filter_eq_nil_iff.mp hr.symm j (List.mem_range'_1.mpr ⟨z,by ext⟩) (hp j q)
  ·exact Ab (h1 j hj)
end
noncomputable def Ey (k:D):List D->List D->Option D
 | k'::ks,d::ds=>if k'=k then some d else Ey k ks ds
 | _,_=>none
noncomputable def HM (k v:D):List D->List D->List D
 | k'::ks,d::ds=>(if k'=k then v else d)::HM k v ks ds
 | _,ds=>ds
def D2 (k v:D)(ks ds:List D):List D×List D:=if k∈ks then (ks,HM k v ks ds) else (ks++[k],ds++[v])
theorem F8 {k:D}:∀ {ks ds:List D},k∉ks->Ey k ks ds=none
 | [],_,_=>rfl
 | _::_,[],_=>rfl
 | k'::ks,d::ds,h=>by
  rw [Ah,not_or] at h
  rw [Ey,if_neg (λe=>h.1 e.symm),F8 h.2]
theorem HR {k:D}:∀ {ks ds:List D} {j:Nat},ks.Nodup->ks[j]? = some k->Ey k ks ds=ds[j]?
 | [],_,_,_,e=>by simp at e
 | _::_,[],_,_,_=>by simp [Ey]
 | k'::ks,d::ds,0,n,e=>by simp at e;subst e;simp [Ey]
 | k'::ks,d::ds,j+1,n,e=>by
  rw [Bx] at n
  simp at e
  have:k'≠k:=λz=>n.1 (by rw [z];exact Al e)
  rw [Ey,if_neg this,HR n.2 e]
  rfl
theorem Ml {k v:D}:∀ {ks ds:List D},k∉ks->HM k v ks ds=ds
 | [],_,_=>rfl
 | _::_,[],_=>rfl
 | k'::ks,d::ds,h=>by
  rw [Ah,not_or] at h
  rw [HM,if_neg (λe=>h.1 e.symm),Ml h.2]
theorem Ly {k v:D}:∀ {ks ds:List D} {j:Nat},ks.Nodup->ks[j]? = some k->HM k v ks ds=ds.set j v
 | [],_,_,_,e=>by simp at e
 | _::_,[],_,_,_=>by simp [HM]
 | k'::ks,d::ds,0,n,e=>by
  simp at e
  subst e
  rw [Bx] at n
  rw [HM,if_pos rfl,Ml n.1]
  rfl
 | k'::ks,d::ds,j+1,n,e=>by
  rw [Bx] at n
  simp at e
  have:k'≠k:=λz=>n.1 (by rw [z];exact Al e)
  rw [HM,if_neg this,Ly n.2 e]
  rfl
def DcAt (K:Zc)(th:List Addr)(H:Hp)(a:Addr)(ks ds:List D):Prop:=∃ xs,H a=some (E3 a xs)∧xs.map (·.1)=EO K.w ks∧RepL K th H ks (xs.map (·.2.1))∧RepL K th H ds (xs.map (·.2.2))∧KeysOk ks
noncomputable def DR (mu:Sto):D->Option (List D×List D)
 | .dct ks ds=>some (ks,ds)
 | .ref k=>match mu[k]? with
  | some (.dct ks ds)=>some (ks,ds)
  | _=>none
 | _=>none
section
variable {X:Cx} {K:Zc} {th:List Addr} {mu:Sto} {H:Hp} {pins:List (Addr×Obj)} {st:L2.St} {s:Shared} {A:Around} {E:Value->Shared->Prop}
theorem Eg (so:StoOk K th mu H){d:D}{p:List D×List D}{v:V}(h:DR mu d=some p)(r:Rep K th H d v):∃ a,v=.ref a∧DcAt K th H a p.1 p.2:=by
 unfold DR at h
 split at h
 ·cases h;unfold Rep at r;obtain ⟨a,xs,rfl,_,h1⟩:=r;exact ⟨a,rfl,xs,h1⟩
 ·split at h
  ·rename_i k _ ks ds e
   cases h
   unfold Rep at r
   obtain ⟨a,rfl,ha⟩:=r
   exact ⟨a,rfl,so.at' k a _ ha e⟩
  ·cases h
 ·cases h
structure DcO (X:Cx) (th:List Addr) (H:Hp) (s:Shared) (a:Addr) (ks ds:List D) (xs:List (Int×V×V)) (o:Obj) (es:Array DictEntry) (ep:Nat):Prop where
 ns:(a==sysModules)=false
 at':s.heap.get? a=some o
 ex:o.ExactDict
 dt:o.data=.dict es ep
 pr:Paired (λ(x:Int×V×V) (e:DictEntry)=>e.hash=x.1∧RelV x.2.1 e.key∧RelV x.2.2 e.val) xs es.toList
 en:Paired (EnK X.w s.heap) ks es.toList
 xl:xs.length=ks.length
 dl:ds.length=ks.length
theorem HW {α β:Type}{F:α->β->Prop}:∀ {xs:List α} {ys:List β},xs.length=ys.length->(∀ (j:Nat) x y,xs[j]? = some x->ys[j]? = some y->F x y)->Paired F xs ys
 | [],[],_,_=>.nil
 | [],_::_,h,_=>by simp at h
 | _::_,[],h,_=>by simp at h
 | x::xs,y::ys,h,f=>.cons (f 0 x y rfl rfl) (HW (by simpa using h) λj a b e1 e2=>f (j+1) a b (by simpa using e1) (by simpa using e2))
theorem Gr (I:L2.Inv X pins st H s){a:Addr}{ks ds:List D}(h:DcAt X.z th H a ks ds):∃ xs o es ep,H a=some (E3 a xs)∧DcO X th H s a ks ds xs o es ep:=by
 obtain ⟨xs,h1,h2,h3,h4,h5⟩:=h
 obtain ⟨⟨z,o,es,ep,g1,g2,g3,g4,ge⟩,_⟩:=(show ObjOk X.prog X.w H s.heap a (E3 a xs) from I.hok a _ h1)
 have xl:xs.length=ks.length:=by have:=h3.len;simpa using this
 refine ⟨xs,o,es,ep,h1,z,g1,g2,g3,g4,?_,xl,by have:=h4.len;rw [Ac] at this;ext⟩
 refine HW (by rw [← Dl g4,xl]) λj k e e1 e2=>?_
 obtain ⟨x,q1,q2,q3,q4⟩:=(Dn g4 j).2 e e2
 have hh:(xs.map (·.1))[j]? = (EO X.w ks)[j]?:=by rw [h2]
 rw [Ez,Ap,Ap,q1,e1] at hh
 obtain ⟨v,v1,v2⟩:=h3.get e1
 rw [Ap,q1] at v1
 have v1':x.2.1=v:=by simpa using v1
 refine ⟨by rw [q2];simpa using hh,Hc I (h5.ok k (Al e1)) v2 (by rw [← v1'];exact q3)⟩
theorem We (I:L2.Inv X pins st H s){a:Addr}{ks ds:List D}(h:DcAt X.z th H a ks ds){k:D}{u:Value}(hk:Hd s.heap k u)(hu:A.units+8<cLine){Q:Option Value->Shared->Prop}
  (q0:Ey k ks ds=none->∀ tk,Q none { s with toks:=tk }) (q1:∀ d v r,Ey k ks ds=some d->Rep X.z th H d v->RelV v r->∀ tk,Q (some r) { s with toks:=tk }):wpAny (model X.prog X.w) A (dictGet a u) Q E s:=by
 obtain ⟨xs,o,es,ep,h1,g⟩:=Gr I h
 obtain ⟨xs',h1',h2,h3,h4,h5⟩:=id h
 unfold dictGet
 refine AH (Aa (hk.hash hu λtk=>Aa (JG (s:={ s with toks:=tk }) hu hk g.at' g.dt g.en h5.nd (λz=>Ab (q0 (F8 z) tk)) λj ej=>?_)))
 refine Aa (Bi (s:={ s with toks:=tk }) g.at' g.dt ?_)
 obtain ⟨e,e1,e2⟩:=(Dn g.en j).1 k ej
 rw [AD] at e1
 rw [e1]
 obtain ⟨⟨z',o',es',ep',g1,g2,g3,g4,ge⟩,_⟩:=(show ObjOk X.prog X.w H s.heap a (E3 a xs') from I.hok a _ h1')
 have g1':=g.at'
 rw [g1] at g1'
 cases g1'
 have g3':=g.dt
 rw [g3] at g3'
 cases g3'
 obtain ⟨x,x1,x2,x3,x4⟩:=(Dn g4 j).2 e (by rw [AD];exact e1)
 have vj:(xs'.map (·.2.2))[j]? = some x.2.2:=by rw [Ap,x1];rfl
 obtain ⟨d,d1,d2⟩:=h4.getV vj
 exact Ab (q1 d _ _ (by rw [HR h5.nd ej];exact d1) d2 x4 tk)
theorem H8 {α β:Type}{F:α->β->Prop}:∀ {xs:List α} {ys:List β} (j:Nat) {x:α} {y:β},Paired F xs ys->F x y->Paired F (xs.set j x) (ys.set j y)
 | _,_,_,_,_,.nil,_=>.nil
 | _,_,0,_,_,.cons _ t,f=>.cons f t
 | _,_,j+1,_,_,.cons r t,f=>.cons r (H8 j t f)
theorem Ig {α β:Type}{F:α->β->Prop}:∀ {xs xs':List α} {ys ys':List β},Paired F xs ys->Paired F xs' ys'->Paired F (xs++xs') (ys++ys')
 | _,_,_,_,.nil,t=>t
 | _,_,_,_,.cons r t,t'=>.cons r (Ig t t')
theorem VW (I:L2.Inv X pins st H s){a:Addr}{ks ds:List D}(h:DcAt X.z th H a ks ds)(ext:∀ xs,Ext th H th (upd H a (E3 a xs)))(so:StoOk X.z th mu H){k v:D}{kv vv:V}{u r:Value}(hk:DQ k=true)(rk:Rep X.z th H k kv)(ru:RelV kv u)(rv:Rep X.z th H v vv)(rr:RelV vv r)(lt:ks.length<sizeLine)(hu:A.units+8<cLine)
  {Q:Unit->Shared->Prop} (q:∀ s' xs',L2.Inv X pins st (upd H a (E3 a xs')) s'->DcAt X.z th (upd H a (E3 a xs')) a (D2 k v ks ds).1 (D2 k v ks ds).2->Q () s'):wpAny (model X.prog X.w) A (dictSet a u r) Q E s:=by
 have hd:=Hc I hk rk ru
 obtain ⟨xs',h1',h2,h3,h4,h5⟩:=id h
 obtain ⟨⟨z',o,es,ep,g1,g2,g3,g4,ge⟩,_⟩:=(show ObjOk X.prog X.w H s.heap a (E3 a xs') from I.hok a _ h1')
 obtain ⟨xs,o',es',ep',h1,g⟩:=Gr I h
 have g1':=g.at'
 rw [g1] at g1'
 cases g1'
 have g3':=g.dt
 rw [g3] at g3'
 cases g3'
 have mu1:Mut (H a):=by rw [h1'];exact True.intro
 unfold dictSet
 refine AH (Aa (hd.hash hu λtk=>?_))
 unfold dictSetHashed
 refine AH (Aa (JG (s:={ s with toks:=tk }) hu hd g1 g3 g.en h5.nd (λz=>?_) λj ej=>?_))
 ·have hz0:es.size≤sizeLine:=by rw [← Array.length_toList,← Dl g.en];ext
  refine Aa (Bq (wpAny_updateDictKeys (s:={ s with toks:=tk }) g1 g3 (hz:=hz0) ?_))
  have e1:(D2 k v ks ds).1=ks++[k]:=by unfold D2;rw [if_neg z]
  have e2:(D2 k v ks ds).2=ds++[v]:=by unfold D2;rw [if_neg z]
  have so1:=AS (Obj.mapDictKeys (·.push ⟨DJ X.w k,u,r⟩)) g1 (Obj.isFreed_of_dict (Obj.data_mapDictKeys g3 _))
  refine q _ (xs'++[(DJ X.w k,kv,vv)]) (I.write (x:=a) (e:=a) (t':=tk) mu1 (.inl rfl) (λb ob hb e=>((AF ..).2 b hb).trans e) ⟨_,so1⟩ (JV ⟨z',_,_,ep+1,so1,g2.mapDictKeys _,Obj.data_mapDictKeys g3 _,?_,by rw [Array.size_push,ge]⟩)) ?_
  ·rw [Array.toList_push]
   exact Ig g4 (.cons ⟨rfl,ru,rr⟩ .nil)
  ·rw [e1,e2]
   have ex:=ext (xs'++[(DJ X.w k,kv,vv)])
   refine ⟨_,DG,?_,?_,?_,?_⟩
   ·rw [AM,h2,Ez,Ez,AM];rfl
   ·rw [AM];exact (h3.ext ex so.out).app (.cons (rk.ext ex so.out) .nil)
   ·rw [AM];exact (h4.ext ex so.out).app (.cons (rv.ext ex so.out) .nil)
   ·refine ⟨by rw [Ag];exact lt,?_,λk' hk'=>?_⟩
    ·refine BL.mpr ⟨h5.nd,by simp,λx hx y hy=>?_⟩
     rw [Ao.mp hy]
     exact λe=>z (e▸hx)
    ·rcases AE.mp hk' with w'|w'
     ·exact h5.ok k' w'
     ·rw [Ao.mp w'];exact hk
 ·have mem:k∈ks:=Al ej
  have e1:(D2 k v ks ds).1=ks:=by unfold D2;rw [if_pos mem]
  have e2:(D2 k v ks ds).2=ds.set j v:=by unfold D2;rw [if_pos mem];exact Ly h5.nd ej
  have hj:j<xs'.length:=by
   have:=(Af.mp ej).1
   have l2:=h3.len
   rw [Ac] at l2
   ext
  have hje:j<es.size:=by rw [← Array.length_toList,← Dl g4];exact hj
  obtain ⟨y,y1,y2,y3,y4⟩:=(Dn g4 j).1 xs'[j] (Ay hj)
  rw [AD] at y1
  have ye:es[j]=y:=by rw [Ax hje] at y1;exact AI y1
  refine Aa (Bq (Aa (wpAny_updateDict (s:={ s with toks:=tk }) g1 g3 (wpAny_point ?_))))
  have so1:=AS (Obj.mapDict (·.modify j λe=>{ e with val:=r })) g1 (Obj.isFreed_of_dict (Obj.data_mapDict g3 _))
  refine q _ (xs'.set j (xs'[j].1,xs'[j].2.1,vv)) (I.write (x:=a) (e:=a) (t':=tk) mu1 (.inl rfl) (λb ob hb e=>((AF ..).2 b hb).trans e) ⟨_,so1⟩ (JV ⟨z',_,_,ep,so1,g2.mapDict _,Obj.data_mapDict g3 _,?_,by rw [Array.size_modify,ge]⟩)) ?_
  ·have em:(es.modify j λe=>{ e with val:=r }).toList=es.toList.set j { y with val:=r }:=by
    have yl:es.toList[j]? = some y:=by rw [AD];exact y1
    rw [Array.toList_modify]
    refine Bj λi=>?_
    rw [List.getElem?_modify]
    by_cases c:j=i
    ·subst c
     rw [yl,BQ (by simpa using hje)]
     simp
    ·rw [AJ c]
     simp [c]
   rw [em]
   exact H8 j g4 ⟨y2,y3,rr⟩
  ·rw [e1,e2]
   have ex:=ext (xs'.set j (xs'[j].1,xs'[j].2.1,vv))
   refine ⟨_,DG,?_,?_,?_,h5⟩
   ·rw [← h2,List.map_set]
    refine Bj λi=>?_
    by_cases c:i=j
    ·subst c;simp [hj]
    ·rw [AJ (Ne.symm c)]
   ·have:(xs'.set j (xs'[j].1,xs'[j].2.1,vv)).map (·.2.1)=xs'.map (·.2.1):=by
     rw [List.map_set]
     refine Bj λi=>?_
     by_cases c:i=j
     ·subst c;simp [hj]
     ·rw [AJ (Ne.symm c)]
    rw [this]
    exact h3.ext ex so.out
   ·rw [List.map_set]
    exact (h4.ext ex so.out).setAt j (rv.ext ex so.out)
theorem Lj (I:L2.Inv X pins st H s){a:Addr}{ks ds:List D}(h:DcAt X.z th H a ks ds){k d:D}{u:Value}(hk:Hd s.heap k u)(e:Ey k ks ds=some d):∃ v r,Rep X.z th H d v∧RelV v r ∧
  ∀ {A:Around} {E:Value->Shared->Prop} {Q:Option Value->Shared->Prop},A.units+8<cLine->(∀ tk,Q (some r) { s with toks:=tk })->wpAny (model X.prog X.w) A (dictGet a u) Q E s:=by
 obtain ⟨xs',h1',h2,h3,h4,h5⟩:=id h
 obtain ⟨xs,o,es,ep,h1,g⟩:=Gr I h
 obtain ⟨⟨z',o',es',ep',g1,g2,g3,g4,ge⟩,_⟩:=(show ObjOk X.prog X.w H s.heap a (E3 a xs') from I.hok a _ h1')
 have g1':=g.at'
 rw [g1] at g1'
 cases g1'
 have g3':=g.dt
 rw [g3] at g3'
 cases g3'
 have mem:k∈ks:=by
  refine Classical.byContradiction λz=>?_
  rw [F8 z] at e
  cases e
 obtain ⟨j,ej⟩:=A7.mp mem
 rw [HR h5.nd ej] at e
 obtain ⟨v,v1,v2⟩:=h4.get e
 obtain ⟨en,e1,e2⟩:=(Dn g.en j).1 k ej
 obtain ⟨x,x1,x2,x3,x4⟩:=(Dn g4 j).2 en e1
 rw [Ap,x1] at v1
 have v1':x.2.2=v:=by simpa using v1
 rw [AD] at e1
 refine ⟨v,en.val,v2,v1'▸x4,λhu q=>?_⟩
 unfold dictGet
 refine AH (Aa (hk.hash hu λtk=>Aa (JG (s:={ s with toks:=tk }) hu hk g1 g3 g.en h5.nd (λz=>absurd mem z) λj' ej'=>?_)))
 cases Rl h5.nd ej ej'
 refine Aa (Bi (s:={ s with toks:=tk }) g1 g3 ?_)
 rw [e1]
 exact Ab (q tk)
theorem Lq (I:L2.Inv X pins st H s){a:Addr}{ks ds:List D}(h:DcAt X.z th H a ks ds){k:D}{u:Value}(hk:Hd s.heap k u)(e:Ey k ks ds=none){Q:Option Value->Shared->Prop}(hu:A.units+8<cLine)(q:∀ tk,Q none { s with toks:=tk }):wpAny (model X.prog X.w) A (dictGet a u) Q E s:=
 We I h hk hu (λ_=>q) λd v r e'=>by rw [e] at e';cases e'
theorem Ma (I:L2.Inv X pins st H s){a:Addr}{ks ds:List D}(h:DcAt X.z th H a ks ds):s.TypeIs (.ref a) "dict"∧(a==sysModules)=false∧∃ o,s.heap.get? a=some o∧o.dict=none:=by
 obtain ⟨xs,o,es,ep,h1,g⟩:=Gr I h
 exact ⟨⟨o,g.at',g.ex.1⟩,g.ns,o,g.at',g.ex.2.1⟩
theorem QH {k:D}{ks ds:List D}(n:ks.Nodup)(l:ds.length=ks.length):(Ey k ks ds).isSome=decide (k∈ks):=by
 by_cases c:k∈ks
 ·obtain ⟨j,ej⟩:=A7.mp c
  rw [HR n ej,A9 c]
  have:=(Af.mp ej).1
  rw [Ay (by ext)]
  rfl
 ·rw [F8 c,AX c];rfl
theorem Q8 {a:Addr}{ks ds:List D}(h:DcAt K th H a ks ds):ds.length=ks.length∧KeysOk ks:=by
 obtain ⟨xs,_,_,h3,h4,h5⟩:=h
 have a:=h3.len
 have b:=h4.len
 rw [Ac] at a b
 exact ⟨by ext,h5⟩
def ixC (d e:D)(mu:Sto):Rs D:=match DR mu d with
 | some p=>if DQ e=true then (Ey e p.1 p.2).map λv=>(v,mu) else none
 | none=>none
theorem Ue {d e:D}{r:D×Sto}(h:ixC d e mu=some r):∃ p,DR mu d=some p∧DQ e=true∧∃ v,Ey e p.1 p.2=some v∧r=(v,mu):=by
 unfold ixC at h
 split at h
 ·rename_i p e1
  split at h
  ·rename_i c
   cases q:Ey e p.1 p.2 with
   | none=>rw [q] at h;cases h
   | some v=>rw [q] at h;cases h;exact ⟨p,e1,c,v,q,rfl⟩
  ·cases h
 ·cases h
theorem Zt (hu:X.A.units+64<cLine):IxR X (r2 X.z ixC):=by
 intro value slice pins s st H x y v u Q I rx ry h hs
 obtain ⟨th,mu,d,e,so,r1,r2,t⟩:=h
 obtain ⟨a0,mu0,e0,_⟩:=id t
 obtain ⟨p,e1,hk,w',e2,er⟩:=Ue e0
 rw [e0] at t
 cases er
 obtain ⟨a,rfl,dc⟩:=Eg so e1 r1
 cases rx
 obtain ⟨v',r',q1,q2,q3⟩:=Lj I dc (Hc I hk r2 ry) e2
 obtain ⟨ty,_⟩:=Ma I dc
 refine subscriptTail_builtinR (x:=r') ty slot_dict_getitem.lookup ?_ hs
 unfold getItem
 refine AH (Aa (wpAny_sequenceKey ty (by decide) (Aa (AK (name:=Str.ofString "__getitem__") ty slot_dict_getitem (AG slot_dict_getitem ty entry_dict_getitem ?_ (args_dict_getitem _ _))))))
 refine (?_:wpAny _ _ (dictGet a u >>= _) _ _ s)
 exact Aa (q3 (by rw [Around.in1_units];ext) λtk=>Ab ⟨r',rfl,Ab ⟨rfl,v',H,I.tok _,q2,t.ret so _ q1⟩⟩)
theorem IxR.or {g g':D->D->Sto->Rs D}(h:IxR X (r2 X.z g))(h':IxR X (r2 X.z g')):IxR X (r2 X.z λd e mu=>match g d e mu with|some r=>some r|none=>g' d e mu):=by
 intro value slice pins s st H x y v u Q I rx ry q hs
 obtain ⟨th,mu,d,e,so,r1,r2,t⟩:=q
 dsimp only at t
 cases c:g d e mu with
 | some r=>rw [c] at t;exact h value slice pins s st H x y v u Q I rx ry ⟨th,mu,d,e,so,r1,r2,by rw [c];exact t⟩ hs
 | none=>rw [c] at t;exact h' value slice pins s st H x y v u Q I rx ry ⟨th,mu,d,e,so,r1,r2,t⟩ hs
def ixG (d e:D)(mu:Sto):Rs D:=match ixD d e mu with
 | some r=>some r
 | none=>ixC d e mu
theorem Dt (hu:X.A.units+64<cLine):IxR X (r2 X.z ixG):=IxR.or ZZ (Zt hu)
def inC (neg:Bool)(d c:D)(mu:Sto):Rs D:=match DR mu c with
 | some p=>if DQ d=true then some (.bl (decide (d∈p.1) != neg),mu) else none
 | none=>none
theorem OB {neg:Bool}{d e:D}{r:D×Sto}(h:inC neg d e mu=some r):∃ p,DR mu e=some p∧DQ d=true∧r=(.bl (decide (d∈p.1) != neg),mu):=by
 unfold inC at h
 split at h
 ·rename_i p e1
  split at h
  ·rename_i c;cases h;exact ⟨p,e1,c,rfl⟩
  ·cases h
 ·cases h
theorem Vq (hu:X.A.units+64<cLine)(I:L2.Inv X pins st H s){a:Addr}{ks ds:List D}(dc:DcAt X.z th H a ks ds){d:D}{u:Value}(hk:Hd s.heap d u){Q:Bool->Shared->Prop}(q:∀ tk,Q (decide (d∈ks)) { s with toks:=tk }):wpAny (model X.prog X.w) X.A (contains (.ref a) u) Q E s:=by
 obtain ⟨ty,ns,_⟩:=Ma I dc
 obtain ⟨l,ko⟩:=Q8 dc
 have gm:=QH (k:=d) ko.nd l
 unfold contains
 refine AH (Aa (wpAny_specialOf ty slot_dict_contains.lookup ?_))
 refine (?_:wpAny _ _ (if (some (Value.builtin "dict.__contains__")==some Value.none)=true then _ else _) _ E s)
 rw [if_neg (by rw [beq_builtin_none];exact Am)]
 refine Aa (wpAny_callSpecialUnlessNone?_slot (name:=Str.ofString "__contains__") ty slot_dict_contains (AG slot_dict_contains ty entry_dict_contains ?_ (args_dict_contains _ _)))
 refine (?_:wpAny _ _ (dictGet a u >>= _) _ _ s)
 refine Aa ?_
 have hu':X.A.in1.units+8<cLine:=by rw [Around.in1_units];ext
 cases c:Ey d ks ds with
 | some v =>
  rw [c] at gm
  obtain ⟨v',r',q1,q2,q3⟩:=Lj I dc hk c
  refine q3 hu' λtk=>?_
  refine (?_:wpAny _ _ (ret (.bool true)) _ _ _)
  exact Ab ⟨_,rfl,Bh (by rw [← gm] at q;exact q tk)⟩
 | none =>
  rw [c] at gm
  refine Lq I dc hk c hu' λtk=>?_
  refine (?_:wpAny _ _ (Builtin.Dict.pendingKey? a u >>= _) _ _ _)
  exact Aa (wpAny_pendingKey_other ns (Ab ⟨_,rfl,Bh (by rw [← gm] at q;exact q tk)⟩))
theorem VR (hu:X.A.units+64<cLine):OpV X (compareOp .In) (inC false):=by
 intro pins s st H x y v u Q I rx ry h
 obtain ⟨th,mu,d,e,so,r1,r2,t⟩:=h
 obtain ⟨a0,mu0,e0,_⟩:=id t
 obtain ⟨p,e1,hk,er⟩:=OB e0
 rw [e0] at t
 cases er
 obtain ⟨a,rfl,dc⟩:=Eg so e1 r2
 cases ry
 refine (?_:wpAny _ _ (do return Value.bool (← contains (.ref a) v)) _ _ s)
 exact Aa (Vq hu I dc (Hc I hk r1 rx) λtk=>Ab ⟨.bl _,H,I.tok _,rfl,by have:=t.ret so _ rfl;simpa using this⟩)
theorem Ut (hu:X.A.units+64<cLine):OpV X (compareOp .NotIn) (inC true):=by
 intro pins s st H x y v u Q I rx ry h
 obtain ⟨th,mu,d,e,so,r1,r2,t⟩:=h
 obtain ⟨a0,mu0,e0,_⟩:=id t
 obtain ⟨p,e1,hk,er⟩:=OB e0
 rw [e0] at t
 cases er
 obtain ⟨a,rfl,dc⟩:=Eg so e1 r2
 cases ry
 refine (?_:wpAny _ _ (do return Value.bool (!(← contains (.ref a) v))) _ _ s)
 exact Aa (Vq hu I dc (Hc I hk r1 rx) λtk=>Ab ⟨.bl _,H,I.tok _,rfl,by have:=t.ret so _ rfl;simpa using this⟩)
theorem OpV.or {f:Value->Value->Sem Value}{g g':D->D->Sto->Rs D}(h:OpV X f g)(h':OpV X f g'):OpV X f λd e mu=>match g d e mu with|some r=>some r|none=>g' d e mu:=by
 intro pins s st H x y v u Q I rx ry q
 obtain ⟨th,mu,d,e,so,r1,r2,t⟩:=q
 dsimp only at t
 cases c:g d e mu with
 | some r=>rw [c] at t;exact h pins s st H x y v u Q I rx ry ⟨th,mu,d,e,so,r1,r2,by rw [c];exact t⟩
 | none=>rw [c] at t;exact h' pins s st H x y v u Q I rx ry ⟨th,mu,d,e,so,r1,r2,t⟩
def inG (d e:D)(mu:Sto):Rs D:=match inD d e mu with
 | some r=>some r
 | none=>inC false d e mu
def Kc (d e:D)(mu:Sto):Rs D:=match UB d e mu with
 | some r=>some r
 | none=>inC true d e mu
theorem HH (hu:X.A.units+64<cLine):OpV X (compareOp .In) inG:=OpV.or (V6 hu) (VR hu)
theorem OA (hu:X.A.units+64<cLine):OpV X (compareOp .NotIn) Kc:=OpV.or (U6 hu) (Ut hu)
def putG (d e v:D)(mu:Sto):Rs Unit:=match d with
 | .ref k=>match mu[k]? with
  | some (.dct ks ds)=>if DQ e=true∧ks.length<sizeLine then some ((),mu.set k (.dct (D2 e v ks ds).1 (D2 e v ks ds).2)) else none
  | _=>Tq d e v mu
 | _=>none
def Yg (K:Zc):Q9:=λo i v H Q=>∃ th mu d e w,StoOk K th mu H∧Rep K th H d o∧Rep K th H e i∧Rep K th H w v∧Tr K th H (putG d e w mu) λ_ _ _ H'=>Q H'
theorem YR (hu:X.A.units+64<cLine):T2 X (Yg X.z):=by
 intro pins s st H o i v ov iv u Q I ro ri rv h
 obtain ⟨th,mu,d,e,w,so,r1,r2,r3,t⟩:=h
 unfold putG at t
 split at t
 ·rename_i k
  split at t
  ·rename_i ks ds em
   split at t
   ·rename_i c
    unfold Rep at r1
    obtain ⟨a,rfl,ha⟩:=r1
    have dc:DcAt X.z th H a ks ds:=so.at' k a _ ha em
    obtain ⟨ty,ns,_⟩:=Ma I dc
    cases ro
    unfold setItem
    refine AH (Aa (wpAny_sequenceKey ty (by decide) (Aa (AK (name:=Str.ofString "__setitem__") ty slot_dict_setitem (AG slot_dict_setitem ty entry_dict_setitem ?_ (args_dict_setitem _ _ _))))))
    refine (?_:wpAny _ _ (Builtin.Dict.notOrdered "__setitem__" ⟨[.ref a,iv,u],[]⟩ >>= _) _ _ s)
    refine Aa (wpAny_notOrdered_dict ty (?_:wpAny _ _ (dictSet a iv u >>= _) _ _ s))
    refine Aa (VW I dc (λxs=>.mut (Al ha) _) so c.1 r2 ri r3 rv c.2 (by rw [Around.in1_units];ext) λs' xs' I' dc'=>Ab ⟨.none,rfl,Ab ⟨_,I',?_⟩⟩)
    exact t.retX (.mut (Al ha) _) (so.putG ha _ _ dc')
   ·exact t.no.elim
  ·exact Yu pins s st H o i v ov iv u Q I ro ri rv ⟨th,mu,.ref k,e,w,so,r1,r2,r3,t⟩
 ·exact t.no.elim
def gIx (o i:Ex):Gx:=λv ro mu=>bM (o ro mu) λd m1=>bM (i ro m1) λe m2=>bM (putG d e v m2) λ_ m3=>some (ro,m3)
theorem Nu (hu:X.A.units+64<cLine){o i:Expr}{mo mi:Ex}{pos:Pos}(ho:SV X o mo)(hi:SV X i mi)
  (ha:∀ v,assign (.Subscript o i pos) X.env v=(do
   let ov←holding [v] (eval o X.env)
   let iv←holding [v,ov] (eval i X.env)
   standAt pos
   holding [v,ov,iv] (setItem ov iv v)
   release [v,ov,iv] []):=by intro _;rfl):SVG X (.Subscript o i pos) (gIx mo mi):=⟨PG.weak (VG ho.r hi.r (YR hu) ha) λv st H Q h=>by
 obtain ⟨th,mu,ro,d,so,en,r,t⟩:=h
 refine ⟨th,mu,ro,so,en,t.bind.mono λx th1 mu1 H1 e1 s1 t1 xv rx=>?_⟩
 refine ⟨th1,mu1,ro,s1,en.ext e1 so.out,t1.bind.mono λy th2 mu2 H2 e2 s2 t2 yv ry=>?_⟩
 refine ⟨th2,mu2,x,y,d,s2,rx.ext e2 s1.out,ry,(r.ext e1 so.out).ext e2 s1.out,t2.bind.mono λ_ th3 mu3 H3 e3 s3 t3=>?_⟩
 exact t3.ret s3 _ (((en.ext e1 so.out).ext e2 s1.out).ext e3 s2.out)⟩
end
section
variable {prog:Program} {w:World} {A:Around} {E:Value->Shared->Prop} {s:Shared}
theorem wp_choose {M:Model}{src:Source}{n:Nat}{Q:Nat->Shared->Prop}(hn:n≠0)(h:∀ i d',i<n->Q i { s with drawn:=d' }):wpAny M A (choose src n) Q E s:=
 λ_ _ _=>⟨hn,h _ _ (Nat.mod_lt _ (Nat.pos_of_ne_zero hn))⟩
theorem HE {α:Type}:∀ (xs:List α) (i:Nat) (hi:i<xs.length),(xs[i]::xs.eraseIdx i).Perm xs
 | [],i,hi=>by simp at hi
 | x::xs,0,_=>List.Perm.refl _
 | x::xs,i+1,hi=>by
  have hi':i<xs.length:=by simpa using hi
  exact (List.Perm.swap x xs[i] _).trans (List.Perm.cons x (HE xs i hi'))
theorem Mw {M:Model}{α:Type}:∀ (n:Nat) (xs:List α) {s:Shared} {Q:List α->Shared->Prop},n=xs.length->(∀ ys d',ys.Perm xs->Q ys { s with drawn:=d' })->wpAny M A (drawOrder n xs) Q E s
 | 0,[],s,Q,_,h=>Ab (h [] s.drawn (List.Perm.refl _))
 | 0,_::_,_,_,e,_=>by simp at e
 | n+1,[],_,_,e,_=>by simp at e
 | n+1,x::xs,s,Q,e,h=>by
  refine Aa (wp_choose (by simp) λi d' hi=>?_)
  rw [Ay hi]
  refine Aa (Mw n ((x::xs).eraseIdx i) (by rw [List.length_eraseIdx_of_lt hi,← e];rfl) λys d2 p=>Ab (h _ d2 ?_))
  exact (List.Perm.cons _ p).trans (HE _ _ hi)
theorem Ks {α:Type}(next:Nat->Nat):∀ (f k:Nat) (left:List α) (out:Array α),f=left.length->(pickOrder.go next f k left out).toList.Perm (out.toList++left)
 | 0,k,[],out,_=>by unfold pickOrder.go;simp
 | 0,_,_::_,_,e=>by simp at e
 | f+1,k,[],out,e=>by simp at e
 | f+1,k,x::xs,out,e=>by
  unfold pickOrder.go
  have hi:next k % (x::xs).length<(x::xs).length:=Nat.mod_lt _ (by simp)
  rw [Ay hi]
  refine (Ks next f (k+1) _ _ (by rw [List.length_eraseIdx_of_lt hi,← e];rfl)).trans ?_
  rw [Array.toList_push,List.append_assoc]
  exact List.Perm.append_left _ (HE _ _ hi)
theorem Fq {α:Type}(next:Nat->Nat)(xs:Array α):(pickOrder next xs).toList.Perm xs.toList:=by
 have:=Ks next xs.size 0 xs.toList #[] (by simp)
 simpa [pickOrder] using this
noncomputable def Gz (w:World):Bool:=w.params.followText "set-order"
theorem E1 {Q:Bool->Shared->Prop}(h:Q (Gz w) s):wpAny (model prog w) A setsByText Q E s:=Aa (wpAny_askSetting (Ab h))
theorem DC:Slot "set_iterator" "__next__" "set_iterator.__next__":=
 .of (owner:="set_iterator") (n:="__next__") (by rw [typeLookup_type,builtinLookup_eq_fast];kernel_rfl) (by symm) (by symm) (by symm) (by first|exact .inl (by symm)|exact .inr (by symm)) (by rw [isSubtype_type];kernel_rfl)
theorem GO:entryFor table "set_iterator.__next__"=some Builtin.«set_iterator.__next__»:=entryFor_of_tree (by kernel_rfl)
theorem JP:Manifest.owners.lookup (String.ofList ['r','o','t','a','r','e','t','i','_','t','e','s'].reverse)=some Manifest.sig_set_iterator:=by kernel_rfl
theorem G7 (a:Value):argsOk "set_iterator.__next__" ⟨[a],[]⟩:=by
 unfold argsOk;rw [signature?_of (id:="set_iterator.__next__") (n:=['_','_','t','x','e','n','_','_']) (o:=['r','o','t','a','r','e','t','i','_','t','e','s']) (by kernel_rfl) JP];kernel_rfl
theorem GY:Slot "set_iterator" "__iter__" "set_iterator.__iter__":=
 .of (owner:="set_iterator") (n:="__iter__") (by rw [typeLookup_type,builtinLookup_eq_fast];kernel_rfl) (by symm) (by symm) (by symm) (by first|exact .inl (by symm)|exact .inr (by symm)) (by rw [isSubtype_type];kernel_rfl)
inductive Md where
 | txt|drw (TI:Addr) (pl:List Nat)|one
def SetAt (h:Heap)(S:Addr)(es:Array (Int×Value))(ep:Nat)(t:SetTable):Prop:=∃ o,h.get? S=some o∧o.data=.set es ep t
def Fst (w:World)(es:Array (Int×Value))(t:SetTable)(h:Heap)(i:Nat)(v:Value):Md->Prop
 | .txt=>Gz w=true∧∃ c:Nat,v=rawInt c
 | .drw TI pl=>v=.ref TI∧h.IsTuple TI (pl.map λp:Nat=>rawInt p).toArray∧pl.length=es.size∧(∀ p∈pl,p<es.size)
 | .one=>Gz w=false∧(t.plain=false∨es.size≤1)∧es.size≤1∧t.led=true∧v=rawInt ((if i=0 then 0 else t.place.getD 0 0+1:Nat):Int)
noncomputable def Kd (w:World)(S:Addr)(es:Array (Int×Value))(ep:Nat):Md->List Value
 | .txt=>(pickOrder (w.params.setOrder S ep) es).toList.map (·.2)
 | .drw _ pl=>pl.map λp=>(es.getD p (0,.none)).2
 | .one=>es.toList.map (·.2)
def SIt (w:World)(S I:Addr)(es:Array (Int×Value))(ep:Nat)(t:SetTable)(md:Md)(i:Nat)(h:Heap):Prop:=
 SetAt h S es ep t∧∃ o v,h.get? I=some o∧o.cls=.type "set_iterator"∧o.data=.fields #[v,rawInt i,.ref S,rawInt es.size,rawInt ep]∧Fst w es t h i v md
theorem Fv {M:Model}{I:Addr}{Q:PySem.Fin->Shared->Prop}(hh:A.handled=none)(q:∀ h' e,(∀ c o,s.heap.get? c=some o->h'.get? c=some o)->(∃ o,h'.get? e=some o∧o.cls=.type "StopIteration")->E (.ref e) { s with heap:=h' }) :
  wpAny M A (newExc (.type "StopIteration") [] >>= λe=>(raiseNew e:Sem PySem.Fin)) Q E s:=by
 refine Aa ?_
 simp only [newExc,newTuple]
 refine Aa (AU (Aa (m:=firstArgMember _ _) (wpAny_of_eq (a:=Value.none) (by first|rfl|(simp only [firstArgMember];rfl)) (AU ?_ (by size_fits)))) (by size_fits))
 simp only [raiseNew]
 refine Aa (wpAny_handled ?_)
 rw [hh]
 exact Aa (Ab (wpAny_throw (q _ _ (λc o e=>Ad _ (Ad _ e)) ⟨_,Ai _ rfl,rfl⟩)))
theorem JO {xs:Array Nat}(h:xs.size≤1):SetTable.below xs 0=0:=by
 unfold SetTable.below
 rcases Nat.lt_or_ge 0 xs.size with c|c
 ·have:xs.size=1:=by ext
  rw [this]
  simp [SetTable.below.go]
 ·have:xs.size=0:=by ext
  rw [this]
  simp [SetTable.below.go]
theorem NI {xs:Array Nat}(h:xs.size=1):SetTable.below xs (xs.getD 0 0+1)=1:=by
 unfold SetTable.below
 have e0:xs[0]? = some xs[0]:=Ax (by ext)
 rw [h]
 simp [SetTable.below.go,e0]
theorem ES {a:Addr}{o:Obj}{vs:Array Value}{i:Nat}{x:Value}{h:Heap}(ho:h.get? a=some o)(hd:o.data=.fields vs):∃ o',(h.update a (Obj.mapFields (·.setIfInBounds i x))).get? a=some o'∧o'.cls=o.cls∧o'.data=.fields (vs.setIfInBounds i x):=
 ⟨_,AS _ ho (Obj.isFreed_of_fields (Obj.data_mapFields hd _)),Obj.cls_mapFields ..,Obj.data_mapFields hd _⟩
theorem SetAt.keep {h h':Heap}{S I:Addr}{es:Array (Int×Value)}{ep:Nat}{t:SetTable}(x:SetAt h S es ep t)(ne:S≠I)(sb:Heap.SameBut I h h'):SetAt h' S es ep t:=
 let ⟨o,a,b⟩:=x;⟨o,(sb.2 S ne).trans a,b⟩
def Md.apart (I:Addr):Md->Prop
 | .drw TI _=>TI≠I
 | _=>True
theorem Qj {S I:Addr}{es:Array (Int×Value)}{ep:Nat}{t:SetTable}{md:Md}{i:Nat}{Q:Value->Shared->Prop}(hf:t.fits es.size=true)(ne:S≠I)(ap:md.apart I)(g:SIt w S I es ep t md i s.heap)(hi:i<es.size)
  (q:∀ v h',(Kd w S es ep md)[i]? = some v->SIt w S I es ep t md (i+1) h'->Heap.SameBut I s.heap h'->Q v { s with heap:=h' }) :
  wpAny (model prog w) A (Builtin.«set_iterator.__next__» ⟨[.ref I],[]⟩) (λfin s'=>∃ v,fin=.done (.ret v)∧Q v s') E s:=by
 obtain ⟨⟨ob,g1,g2⟩,o,v,k1,k2,k3,k4⟩:=id g
 refine (?_:wpAny _ _ (fieldsOf (.ref I) >>= _) _ _ _)
 refine Aa (wpAny_fieldsOf k1 k3 (?_:wpAny _ _ (setEntries S >>= _) _ _ _))
 refine Aa (wpAny_setEntries_of g1 g2 hf ?_)
 rw [if_neg (by simp)]
 cases md with
 | drw TI pl =>
  obtain ⟨rfl,⟨tb,b1,b2,n,b3⟩,c1,c2⟩:=k4
  refine (?_:wpAny _ _ (seqItems? (.ref TI) >>= _) _ _ _)
  refine Aa (Bm b1 b3 ?_)
  have hp:i<pl.length:=by ext
  have ei:(pl.map λp:Nat=>rawInt p).toArray[(i:Int).toNat]? = some (rawInt pl[i]):=by simp [hp]
  dsimp only
  rw [ei]
  have hpl:=c2 pl[i] (BS hp)
  refine (?_:wpAny _ _ (setNextDrawn S ((pl[i]:Nat):Int).toNat ((ep:Nat):Int).toNat >>= _) _ _ _)
  refine Aa ?_
  unfold setNextDrawn
  refine Aa (BD g1 g2 hf ?_)
  rw [Int.toNat_natCast,Int.toNat_natCast]
  dsimp only
  rw [if_neg (by simp),Ax hpl]
  refine Ab (Aa (Ba k1 k3 (by simp) (Ab ⟨_,rfl,q _ _ ?_ ?_ (AF ..)⟩)))
  ·unfold Kd
   rw [Ap,Ay hp]
   simp [Array.getD,hpl]
  ·obtain ⟨o',e1,e2,e3⟩:=ES (i:=1) (x:=rawInt ((i:Int)+1)) k1 k3
   exact ⟨SetAt.keep ⟨ob,g1,g2⟩ ne (AF ..),o',.ref TI,e1,e2.trans k2,e3,rfl,⟨tb,((AF ..).2 TI ap).trans b1,b2,n,b3⟩,c1,c2⟩
 | txt =>
  obtain ⟨bt,c,rfl⟩:=k4
  refine (?_:wpAny _ _ (setNext S ((c:Nat):Int).toNat ((i:Nat):Int).toNat ((ep:Nat):Int).toNat >>= _) _ _ _)
  refine Aa ?_
  unfold setNext
  refine Aa (BD g1 g2 hf (Aa (E1 ?_)))
  rw [if_pos bt]
  rw [Int.toNat_natCast,Int.toNat_natCast,Int.toNat_natCast]
  dsimp only
  rw [if_neg (by simp)]
  refine Aa ?_
  unfold setWalk
  refine Aa (BD g1 g2 hf (Aa (E1 ?_)))
  rw [if_pos bt]
  refine Aa (wpAny_askSetting (Ab ?_))
  have hl:i<(pickOrder (w.params.setOrder S ep) es).size:=by
   have:=(Fq (w.params.setOrder S ep) es).length_eq
   simp at this
   ext
  have ex:(pickOrder ((⟨prog,w.params⟩:Setting).params.setOrder S ep) es)[i]? = some (pickOrder (w.params.setOrder S ep) es)[i]:=Ax hl
  refine Ab ?_
  have ex':Option.map (λe:Int×Value=>(e.2,c)) (pickOrder ((⟨prog,w.params⟩:Setting).params.setOrder S ep) es)[i]? = some ((pickOrder (w.params.setOrder S ep) es)[i].2,c):=by rw [ex];rfl
  refine (?_:wpAny _ _ (match Option.map (λe:Int×Value=>(e.2,c)) (pickOrder ((⟨prog,w.params⟩:Setting).params.setOrder S ep) es)[i]? with|some (x,next)=>_|none=>_) _ _ _)
  rw [ex']
  obtain ⟨o',e1,e2,e3⟩:=ES (i:=0) (x:=rawInt (c:Int)) k1 k3
  refine Aa (Ba k1 k3 (by simp) ?_)
  obtain ⟨o2,f1,f2,f3⟩:=ES (i:=1) (x:=rawInt ((i:Int)+1)) e1 e3
  refine Aa (Ba e1 e3 (by simp) (Ab ⟨_,rfl,q _ _ ?_ ?_ ((AF ..).trans (AF ..))⟩))
  ·unfold Kd
   rw [Ap,AD,Ax hl]
   rfl
  ·exact ⟨(SetAt.keep ⟨ob,g1,g2⟩ ne (AF ..)).keep ne (AF ..),o2,rawInt c,f1,(f2.trans e2).trans k2,f3,bt,c,rfl⟩
 | one =>
  obtain ⟨bt,pl,sz,led,rfl⟩:=k4
  have i0:i=0:=by ext
  subst i0
  have s1:es.size=1:=by ext
  have ps:t.place.size=1:=by
   simp only [SetTable.fits,Ae,beq_iff_eq,Ak] at hf
   ext
  refine (?_:wpAny _ _ (setNext S ((0:Nat):Int).toNat ((0:Nat):Int).toNat ((ep:Nat):Int).toNat >>= _) _ _ _)
  refine Aa ?_
  unfold setNext
  refine Aa (BD g1 g2 hf (Aa (E1 ?_)))
  rw [if_neg (by rw [bt];exact Am)]
  refine GN (λz=>?_) λ_=>?_
  ·exfalso
   have z':(!t.plain&&decide (es.size > 1))=true:=z
   rw [s1] at z'
   simp at z'
  refine Aa (GN (λz=>?_) λ_=>?_)
  ·exfalso
   have z':(!t.led&&!es.isEmpty)=true:=z
   rw [led] at z'
   simp at z'
  refine Ab ?_
  have b0:=JO (xs:=t.place) (by ext)
  have ee:es[0]? = some es[0]:=Ax (by ext)
  have pe:t.place[0]? = some t.place[0]:=Ax (by ext)
  have hm:(match es[SetTable.below t.place ((0:Nat):Int).toNat]?,t.place[SetTable.below t.place ((0:Nat):Int).toNat]? with|some (_,x),some j=>some (x,j+1)|_,_=>none)=some (es[0].2,t.place[0]+1):=by
   rw [show ((0:Nat):Int).toNat=0 from rfl,b0,ee,pe]
  refine (?_:wpAny _ _ (pure (match es[SetTable.below t.place ((0:Nat):Int).toNat]?,t.place[SetTable.below t.place ((0:Nat):Int).toNat]? with|some (_,x),some j=>some (x,j+1)|_,_=>none)) _ _ _)
  rw [hm]
  refine Ab ?_
  obtain ⟨o',e1,e2,e3⟩:=ES (i:=0) (x:=rawInt ((t.place[0]+1:Nat):Int)) k1 k3
  refine Aa (Ba k1 k3 (by simp) ?_)
  obtain ⟨o2,f1,f2,f3⟩:=ES (i:=1) (x:=rawInt (((0:Nat):Int)+1)) e1 e3
  refine Aa (Ba e1 e3 (by simp) (Ab ⟨_,rfl,q _ _ ?_ ?_ ((AF ..).trans (AF ..))⟩))
  ·unfold Kd
   rw [Ap,AD,ee]
   rfl
  ·refine ⟨(SetAt.keep ⟨ob,g1,g2⟩ ne (AF ..)).keep ne (AF ..),o2,rawInt ((t.place[0]+1:Nat):Int),f1,(f2.trans e2).trans k2,f3,bt,pl,sz,led,?_⟩
   have:t.place.getD 0 0=t.place[0]:=by simp [Array.getD,ps]
   rw [this]
   rfl
end
noncomputable def rk:D->Nat
 | .int _=>0|.str _=>1|.tup _=>2|_=>3
noncomputable def G1 (i j:Nat):Ordering:=if i<j then .lt else if j<i then .gt else .eq
noncomputable def Jd (i j:Int):Ordering:=if i<j then .lt else if j<i then .gt else .eq
noncomputable def GR (x y:Str):Ordering:=if x.cps.toList<y.cps.toList then .lt else if y.cps.toList<x.cps.toList then .gt else .eq
noncomputable def oTh:Ordering->Ordering->Ordering
 | .eq,t=>t
 | .lt,_=>.lt
 | .gt,_=>.gt
mutual
noncomputable def CO:D->D->Ordering
 | .int i,.int j=>Jd i j
 | .str x,.str y=>GR x y
 | .tup xs,.tup ys=>Gg xs ys
 | a,b=>G1 (rk a) (rk b)
noncomputable def Gg:List D->List D->Ordering
 | [],[]=>.eq
 | [],_::_=>.lt
 | _::_,[]=>.gt
 | x::xs,y::ys=>oTh (CO x y) (Gg xs ys)
end
def ltT (a b:D):Bool:=CO a b==.lt
structure T3 (a b c:Ordering):Prop where
 e1:a=.eq->b=c
 e2:b=.eq->a=c
 e3:a=b->c=a
theorem CT (i j:Nat):G1 j i=(G1 i j).swap:=by
 unfold G1
 rcases Nat.lt_trichotomy i j with h|h|h
 ·rw [if_pos h,if_neg (by ext),if_pos h];rfl
 ·subst h;simp
 ·rw [if_pos h,if_neg (by ext),if_pos h];rfl
theorem Qb (i j:Int):Jd j i=(Jd i j).swap:=by
 unfold Jd
 rcases Int.lt_trichotomy i j with h|h|h
 ·rw [if_pos h,if_neg (by ext),if_pos h];rfl
 ·subst h;simp
 ·rw [if_pos h,if_neg (by ext),if_pos h];rfl
theorem Wx {x y:Str}:(x.cps.toList<y.cps.toList)->¬ (y.cps.toList<x.cps.toList):=λa b=>List.lt_asymm a b
theorem IB (i j:Str):GR j i=(GR i j).swap:=by
 unfold GR
 by_cases h:i.cps.toList<j.cps.toList
 ·rw [if_pos h,if_neg (Wx h),if_pos h];rfl
 ·rw [if_neg h]
  by_cases h2:j.cps.toList<i.cps.toList
  ·rw [if_pos h2,if_neg h,if_pos h2];rfl
  ·rw [if_neg h2,if_neg h,if_neg h2];rfl
theorem M1 {α:Type}(f:α->α->Ordering)(lt:α->α->Prop)(h1:∀ x y,lt x y->f x y=.lt∧f y x=.gt)(h0:∀ x,f x x=.eq)(tr:∀ x y z,lt x y->lt y z->lt x z)(tri:∀ x y,lt x y∨x=y∨lt y x)(a b c:α):T3 (f a b) (f b c) (f a c):=by
 rcases tri a b with h|rfl|h
 ·rcases tri b c with g|rfl|g
  ·rw [(h1 _ _ h).1,(h1 _ _ g).1,(h1 _ _ (tr _ _ _ h g)).1];exact ⟨λz=>(nomatch z),λ_=>rfl,λ_=>rfl⟩
  ·rw [(h1 _ _ h).1,h0];exact ⟨λz=>(nomatch z),λ_=>rfl,λ_=>rfl⟩
  ·rw [(h1 _ _ h).1,(h1 _ _ g).2];exact ⟨λz=>(nomatch z),λz=>(nomatch z),λz=>(nomatch z)⟩
 ·rw [h0];exact ⟨λ_=>rfl,λz=>z.symm,λz=>z.symm⟩
 ·rcases tri b c with g|rfl|g
  ·rw [(h1 _ _ h).2,(h1 _ _ g).1];exact ⟨λz=>(nomatch z),λz=>(nomatch z),λz=>(nomatch z)⟩
  ·rw [(h1 _ _ h).2,h0];exact ⟨λz=>(nomatch z),λ_=>rfl,λ_=>rfl⟩
  ·rw [(h1 _ _ h).2,(h1 _ _ g).2,(h1 _ _ (tr _ _ _ g h)).2];exact ⟨λz=>(nomatch z),λ_=>rfl,λ_=>rfl⟩
theorem W3:∀ i j k:Nat,T3 (G1 i j) (G1 j k) (G1 i k):=
 M1 G1 (·<·) (λx y h=>⟨if_pos h,by rw [G1,if_neg (Nat.lt_asymm h),if_pos h]⟩) (λx=>by rw [G1,if_neg (A8 x),if_neg (A8 x)]) (λ_ _ _=>Nat.lt_trans) Nat.lt_trichotomy
theorem Wh:∀ i j k:Int,T3 (Jd i j) (Jd j k) (Jd i k):=
 M1 Jd (·<·) (λx y h=>⟨if_pos h,by rw [Jd,if_neg (Int.lt_asymm h),if_pos h]⟩) (λx=>by rw [Jd,if_neg (Int.lt_irrefl x),if_neg (Int.lt_irrefl x)]) (λ_ _ _=>Int.lt_trans) Int.lt_trichotomy
theorem Ic {i j:Str}:GR i j=.eq ↔ i=j:=by
 unfold GR
 constructor
 ·intro h
  by_cases h1:i.cps.toList<j.cps.toList
  ·rw [if_pos h1] at h;cases h
  ·rw [if_neg h1] at h
   by_cases h2:j.cps.toList<i.cps.toList
   ·rw [if_pos h2] at h;cases h
   ·exact Js (List.le_antisymm (Std.not_lt.mp h2) (Std.not_lt.mp h1))
 ·rintro rfl
  rw [if_neg (List.lt_irrefl _),if_neg (List.lt_irrefl _)]
theorem FI {i j:Str}:GR i j=.lt ↔ i.cps.toList<j.cps.toList:=by
 unfold GR
 by_cases h1:i.cps.toList<j.cps.toList
 ·simp [h1]
 ·rw [if_neg h1]
  by_cases h2:j.cps.toList<i.cps.toList
  ·simp [h2,h1]
  ·simp [h2,h1]
theorem Ji {i j:Str}:GR i j=.gt ↔ j.cps.toList<i.cps.toList:=by
 rw [← FI,IB i j]
 cases GR i j<;>simp
theorem VJ (i j k:Str):T3 (GR i j) (GR j k) (GR i k):=by
 refine ⟨λh=>?_,λh=>?_,λh=>?_⟩
 ·rw [Ic.mp h]
 ·rw [Ic.mp h]
 ·cases c:GR i j with
  | eq=>rw [Ic.mp c];rw [c] at h;exact h.symm
  | lt=>rw [c] at h;exact FI.mpr (List.lt_trans (FI.mp c) (FI.mp h.symm))
  | gt=>rw [c] at h;exact Ji.mpr (List.lt_trans (Ji.mp h.symm) (Ji.mp c))
mutual
theorem cmp_swap:∀ (a b:D),CO b a=(CO a b).swap
 | .tup xs,.tup ys=>by unfold CO;exact K0 xs ys
 | .int i,b=>by cases b<;>first|(unfold CO;exact Qb _ _)|(simp only [CO];exact CT _ _)
 | .str i,b=>by cases b<;>first|(unfold CO;exact IB _ _)|(simp only [CO];exact CT _ _)
 | .tup xs,.int _=>by simp only [CO];exact CT _ _
 | .tup xs,.str _=>by simp only [CO];exact CT _ _
 | .tup xs,.non=>by simp only [CO];exact CT _ _
 | .tup xs,.bl _=>by simp only [CO];exact CT _ _
 | .tup xs,.lst _=>by simp only [CO];exact CT _ _
 | .tup xs,.dct _ _=>by simp only [CO];exact CT _ _
 | .tup xs,.set _=>by simp only [CO];exact CT _ _
 | .tup xs,.ref _=>by simp only [CO];exact CT _ _
 | .non,b=>by cases b<;>(simp only [CO];exact CT _ _)
 | .bl _,b=>by cases b<;>(simp only [CO];exact CT _ _)
 | .lst _,b=>by cases b<;>(simp only [CO];exact CT _ _)
 | .dct _ _,b=>by cases b<;>(simp only [CO];exact CT _ _)
 | .set _,b=>by cases b<;>(simp only [CO];exact CT _ _)
 | .ref _,b=>by cases b<;>(simp only [CO];exact CT _ _)
theorem K0:∀ (xs ys:List D),Gg ys xs=(Gg xs ys).swap
 | [],[]=>rfl
 | [],_::_=>rfl
 | _::_,[]=>rfl
 | x::xs,y::ys=>by
  unfold Gg
  rw [cmp_swap x y]
  cases CO x y with
  | eq=>exact K0 xs ys
  | lt=>rfl
  | gt=>rfl
end
theorem Nh {a b:D}(h:rk a≠rk b):CO a b=G1 (rk a) (rk b):=by
 cases a<;>cases b<;>first|(simp only [CO];done)|(exact absurd rfl h)
theorem Xl {a b:D}(h:CO a b=.eq):rk a=rk b:=by
 refine Classical.byContradiction λz=>?_
 rw [Nh z] at h
 unfold G1 at h
 repeat' split at h
 all_goals first|(cases h;done)|ext
theorem T3.then' {h1 h2 h3 t1 t2 t3:Ordering}(h:T3 h1 h2 h3)(t:T3 t1 t2 t3):T3 (oTh h1 t1) (oTh h2 t2) (oTh h3 t3):=by
 obtain ⟨a,b,c⟩:=h
 cases h1 with
 | eq =>
  cases a rfl
  cases h2 with
  | eq=>exact t
  | lt=>exact (show T3 t1 .lt .lt from ⟨λ_=>rfl,λz=>(nomatch z),λz=>z.symm⟩)
  | gt=>exact (show T3 t1 .gt .gt from ⟨λ_=>rfl,λz=>(nomatch z),λz=>z.symm⟩)
 | lt =>
  cases h2 with
  | eq=>cases b rfl;exact (show T3 .lt t2 .lt from ⟨λz=>(nomatch z),λ_=>rfl,λ_=>rfl⟩)
  | lt=>cases c rfl;exact (show T3 .lt .lt .lt from ⟨λz=>(nomatch z),λ_=>rfl,λ_=>rfl⟩)
  | gt=>exact (show T3 .lt .gt _ from ⟨λz=>(nomatch z),λz=>(nomatch z),λz=>(nomatch z)⟩)
 | gt =>
  cases h2 with
  | eq=>cases b rfl;exact (show T3 .gt t2 .gt from ⟨λz=>(nomatch z),λ_=>rfl,λ_=>rfl⟩)
  | gt=>cases c rfl;exact (show T3 .gt .gt .gt from ⟨λz=>(nomatch z),λ_=>rfl,λ_=>rfl⟩)
  | lt=>exact (show T3 .gt .lt _ from ⟨λz=>(nomatch z),λz=>(nomatch z),λz=>(nomatch z)⟩)
theorem T3.of_rk {a b c:D}(h:¬ (rk a=rk b∧rk b=rk c)):T3 (CO a b) (CO b c) (CO a c):=by
 have n3:=W3 (rk a) (rk b) (rk c)
 have sg:∀ x y:D,rk x≠rk y->CO x y≠.eq:=λx y z e=>z (Xl e)
 have lt:∀ x y:D,rk x<rk y->CO x y=.lt:=λx y z=>by rw [Nh (by ext)];unfold G1;rw [if_pos z]
 have gt:∀ x y:D,rk y<rk x->CO x y=.gt:=λx y z=>by rw [Nh (by ext)];unfold G1;rw [if_neg (by ext),if_pos z]
 rcases Nat.lt_trichotomy (rk a) (rk b) with h1|h1|h1<;>rcases Nat.lt_trichotomy (rk b) (rk c) with h2|h2|h2
 ·rw [lt a b h1,lt b c h2,lt a c (by ext)];exact ⟨λz=>(nomatch z),λ_=>rfl,λ_=>rfl⟩
 ·rw [lt a b h1,lt a c (by ext)];exact ⟨λz=>(nomatch z),λ_=>rfl,λ_=>rfl⟩
 ·rw [lt a b h1,gt b c h2];exact ⟨λz=>(nomatch z),λz=>(nomatch z),λz=>(nomatch z)⟩
 ·rw [lt b c h2,lt a c (by ext)];exact ⟨λ_=>rfl,λz=>(nomatch z),λz=>z.symm⟩
 ·exact absurd ⟨h1,h2⟩ h
 ·rw [gt b c h2,gt a c (by ext)];exact ⟨λ_=>rfl,λz=>(nomatch z),λz=>z.symm⟩
 ·rw [gt a b h1,lt b c h2];exact ⟨λz=>(nomatch z),λz=>(nomatch z),λz=>(nomatch z)⟩
 ·rw [gt a b h1,gt a c (by ext)];exact ⟨λz=>(nomatch z),λ_=>rfl,λ_=>rfl⟩
 ·rw [gt a b h1,gt b c h2,gt a c (by ext)];exact ⟨λz=>(nomatch z),λ_=>rfl,λ_=>rfl⟩
theorem RD {b:D}(h:0=rk b):∃ j,b=.int j:=by cases b<;>first|exact ⟨_,rfl⟩|cases h
theorem Rx {b:D}(h:1=rk b):∃ j,b=.str j:=by cases b<;>first|exact ⟨_,rfl⟩|cases h
theorem RG {b:D}(h:2=rk b):∃ j,b=.tup j:=by cases b<;>first|exact ⟨_,rfl⟩|cases h
theorem WC {a b:D}(ha:3=rk a)(hb:3=rk b):CO a b=.eq:=by
 cases a<;>first|(cases ha;done)|(cases b<;>first|(cases hb;done)|rfl)
theorem T3.of_o {a b c:D}(h:3=rk a):T3 (CO a b) (CO b c) (CO a c):=by
 by_cases e:rk a=rk b∧rk b=rk c
 ·have h2:=h.trans e.1
  rw [WC h h2,WC h2 (h2.trans e.2),WC h (h2.trans e.2)]
  exact ⟨λ_=>rfl,λ_=>rfl,λ_=>rfl⟩
 ·exact .of_rk e
mutual
theorem Vk:∀ (a b c:D),T3 (CO a b) (CO b c) (CO a c)
 | .tup xs,b,c=>by
  by_cases e:rk (.tup xs)=rk b∧rk b=rk c
  ·obtain ⟨ys,rfl⟩:=RG e.1
   obtain ⟨zs,rfl⟩:=RG e.2
   unfold CO
   exact QT xs ys zs
  ·exact .of_rk e
 | .int i,b,c=>by
  by_cases e:rk (.int i)=rk b∧rk b=rk c
  ·obtain ⟨j,rfl⟩:=RD e.1
   obtain ⟨k,rfl⟩:=RD e.2
   unfold CO
   exact Wh _ _ _
  ·exact .of_rk e
 | .str i,b,c=>by
  by_cases e:rk (.str i)=rk b∧rk b=rk c
  ·obtain ⟨j,rfl⟩:=Rx e.1
   obtain ⟨k,rfl⟩:=Rx e.2
   unfold CO
   exact VJ _ _ _
  ·exact .of_rk e
 | .non,_,_=>.of_o rfl
 | .bl _,_,_=>.of_o rfl
 | .lst _,_,_=>.of_o rfl
 | .dct _ _,_,_=>.of_o rfl
 | .set _,_,_=>.of_o rfl
 | .ref _,_,_=>.of_o rfl
theorem QT:∀ (xs ys zs:List D),T3 (Gg xs ys) (Gg ys zs) (Gg xs zs)
 | [],[],[]=>⟨λ_=>rfl,λ_=>rfl,λ_=>rfl⟩
 | [],[],_::_=>⟨λ_=>rfl,λz=>(nomatch z),λz=>(nomatch z)⟩
 | [],_::_,[]=>⟨λz=>(nomatch z),λz=>(nomatch z),λz=>(nomatch z)⟩
 | [],y::ys,z::zs=>⟨λz=>(nomatch z),λ_=>rfl,λ_=>rfl⟩
 | x::xs,[],[]=>⟨λz=>(nomatch z),λ_=>rfl,λz=>(nomatch z)⟩
 | x::xs,[],_::_=>⟨λz=>(nomatch z),λz=>(nomatch z),λz=>(nomatch z)⟩
 | x::xs,y::ys,[]=>⟨λ_=>rfl,λz=>(nomatch z),λz=>z.symm⟩
 | x::xs,y::ys,z::zs=>by
  unfold Gg
  exact (Vk x y z).then' (QT xs ys zs)
end
theorem OF (a b:D)(h:ltT a b=true):ltT b a=false:=by
 unfold ltT at *
 rw [cmp_swap a b]
 cases c:CO a b<;>rw [c] at h<;>first|rfl|cases h
theorem Ry (a b c:D)(h1:ltT b a=false)(h2:ltT c b=false):ltT c a=false:=by
 unfold ltT at *
 have t:=Vk c b a
 cases q:CO c b with
 | eq=>rw [← t.e1 q];exact h1
 | lt=>rw [q] at h2;cases h2
 | gt =>
  cases q2:CO b a with
  | eq=>rw [← t.e2 q2,q];rfl
  | lt=>rw [q2] at h1;cases h1
  | gt=>rw [t.e3 (q.trans q2.symm),q];rfl
mutual
noncomputable def FZ:D->Bool
 | .int _=>true
 | .str _=>true
 | .tup ds=>GQ ds
 | _=>false
noncomputable def GQ:List D->Bool
 | []=>true
 | d::ds=>FZ d&&GQ ds
end
mutual
theorem LF:∀ {d:D},FZ d=true->hsh d=true
 | .int _,_=>rfl
 | .str _,_=>rfl
 | .tup ds,h=>by unfold FZ at h;unfold hsh;exact MS h
 | .non,h=>nomatch h
 | .bl _,h=>nomatch h
 | .lst _,h=>nomatch h
 | .dct _ _,h=>nomatch h
 | .set _,h=>nomatch h
 | .ref _,h=>nomatch h
theorem MS:∀ {ds:List D},GQ ds=true->GZ ds=true
 | [],_=>rfl
 | d::ds,h=>by
  unfold GQ at h
  rw [Ae] at h
  unfold GZ
  rw [LF h.1,MS h.2]
  rfl
end
mutual
theorem Nw:∀ (a b:D),FZ a=true->FZ b=true->CO a b=.eq->a=b
 | .int i,b,_,hb,h=>by
  cases b<;>first|(cases hb;done)|(simp [CO,G1,rk] at h;done)|skip
  rename_i j
  unfold CO Jd at h
  repeat' split at h
  all_goals first|(cases h;done)|(congr 1;ext)
 | .str i,b,_,hb,h=>by
  cases b<;>first|(cases hb;done)|(simp [CO,G1,rk] at h;done)|skip
  unfold CO at h
  rw [Ic.mp h]
 | .tup xs,b,ha,hb,h=>by
  cases b<;>first|(cases hb;done)|(simp [CO,G1,rk] at h;done)|skip
  unfold CO at h
  unfold FZ at ha hb
  congr 1
  exact OG xs _ ha hb h
 | .non,_,h,_,_=>nomatch h
 | .bl _,_,h,_,_=>nomatch h
 | .lst _,_,h,_,_=>nomatch h
 | .dct _ _,_,h,_,_=>nomatch h
 | .set _,_,h,_,_=>nomatch h
 | .ref _,_,h,_,_=>nomatch h
theorem OG:∀ (xs ys:List D),GQ xs=true->GQ ys=true->Gg xs ys=.eq->xs=ys
 | [],[],_,_,_=>rfl
 | [],_::_,_,_,h=>by cases h
 | _::_,[],_,_,h=>by cases h
 | x::xs,y::ys,ha,hb,h=>by
  unfold GQ at ha hb
  rw [Ae] at ha hb
  unfold Gg at h
  cases c:CO x y<;>rw [c] at h<;>first|(cases h;done)|skip
  rw [Nw x y ha.1 hb.1 c,OG xs ys ha.2 hb.2 h]
end
theorem lt_eq (a b:D)(ha:FZ a=true)(hb:FZ b=true)(h1:ltT a b=false)(h2:ltT b a=false):a=b:=by
 refine Nw a b ha hb ?_
 unfold ltT at h1 h2
 rw [cmp_swap a b] at h2
 cases c:CO a b with
 | eq=>rfl
 | lt=>rw [c] at h1;cases h1
 | gt=>rw [c] at h2;cases h2
theorem S4 (a:D):CO a a=.eq:=by
 have:=cmp_swap a a
 cases c:CO a a<;>rw [c] at this<;>first|rfl|cases this
mutual
theorem Vn:∀ (a b:D) (r:Bool),FZ a=true->FZ b=true->ltB a b=some r->r=(CO a b==.lt)
 | .int i,b,r,_,hb,h=>by
  cases b<;>first|(cases hb;done)|(unfold ltB at h;cases h;done)|skip
  rename_i j
  unfold ltB at h
  cases h
  unfold CO Jd
  by_cases c:i<j
  ·simp [c]
  ·rw [AX c,if_neg c];split<;>rfl
 | .str i,b,r,_,hb,h=>by
  cases b<;>first|(cases hb;done)|(unfold ltB at h;cases h;done)|skip
  rename_i j
  unfold ltB at h
  cases h
  unfold CO
  by_cases c:i.cps.toList<j.cps.toList
  ·rw [A9 c,FI.mpr c];rfl
  ·rw [AX c]
   have:GR i j≠.lt:=λz=>c (FI.mp z)
   cases e:GR i j<;>first|rfl|exact absurd e this
 | .tup xs,b,r,ha,hb,h=>by
  cases b<;>first|(cases hb;done)|(unfold ltB at h;cases h;done)|skip
  unfold ltB at h
  unfold CO
  unfold FZ at ha hb
  exact RO xs _ r ha hb h
 | .non,_,_,h,_,_=>nomatch h
 | .bl _,_,_,h,_,_=>nomatch h
 | .lst _,_,_,h,_,_=>nomatch h
 | .dct _ _,_,_,h,_,_=>nomatch h
 | .set _,_,_,h,_,_=>nomatch h
 | .ref _,_,_,h,_,_=>nomatch h
theorem RO:∀ (xs ys:List D) (r:Bool),GQ xs=true->GQ ys=true->Gy xs ys=some r->r=(Gg xs ys==.lt)
 | [],[],r,_,_,h=>by unfold Gy at h;cases h;rfl
 | [],_::_,r,_,_,h=>by unfold Gy at h;cases h;rfl
 | _::_,[],r,_,_,h=>by unfold Gy at h;cases h;rfl
 | x::xs,y::ys,r,ha,hb,h=>by
  unfold GQ at ha hb
  rw [Ae] at ha hb
  unfold Gy at h
  split at h
  ·rw [Hm (LF ha.1) (LF hb.1)] at h
   unfold Gg
   by_cases c:x=y
   ·rw [A9 c] at h
    subst c
    rw [S4]
    exact RO xs ys r ha.2 hb.2 (by simpa using h)
   ·rw [AX c] at h
    have e:=Vn x y r ha.1 hb.1 (by simpa using h)
    rw [e]
    cases q:CO x y with
    | eq=>exact absurd (Nw x y ha.1 hb.1 q) c
    | lt=>rfl
    | gt=>rfl
  ·cases h
end
def leT (a b:D):Bool:=!ltT b a
def Fz (es:List D):List D:=es.mergeSort leT
theorem P6 (a b c:D)(h1:leT a b=true)(h2:leT b c=true):leT a c=true:=by
 unfold leT at *
 simp at h1 h2 ⊢
 exact Ry a b c h1 h2
theorem P5 (a b:D):(leT a b||leT b a)=true:=by
 unfold leT
 cases c:ltT b a with
 | false=>rfl
 | true=>simp [OF b a c]
theorem DF (es:List D):(Fz es).Perm es:=List.mergeSort_perm es leT
theorem LM (es:List D):(Fz es).Pairwise λa b=>leT a b=true:=List.pairwise_mergeSort P6 P5 es
theorem Jm {es rs:List D}(ho:∀ d∈es,FZ d=true)(hp:rs.Perm es)(hs:rs.Pairwise λa b=>leT a b=true):rs=Fz es:=by
 have hp2:=hp.trans (DF es).symm
 refine List.Perm.eq_of_pairwise (λa b ha hb h1 h2=>?_) hs (LM es) hp2
 unfold leT at h1 h2
 simp at h1 h2
 exact lt_eq a b (ho a (hp.mem_iff.mp ha)) (ho b ((DF es).mem_iff.mp hb)) h2 h1
theorem Kr {es fs:List D}(ho:∀ d∈es,FZ d=true)(hp:fs.Perm es):Fz fs=Fz es:=Jm ho ((DF fs).trans hp) (LM fs)
section
variable {prog:Program} {w:World} {A:Around} {E:Value->Shared->Prop} {s:Shared}
theorem Qs {S I:Addr}{es:Array (Int×Value)}{ep:Nat}{t:SetTable}{md:Md}{Q:PySem.Fin->Shared->Prop}(hh:A.handled=none)(hf:t.fits es.size=true)(g:SIt w S I es ep t md es.size s.heap)
  (q:∀ h' e,(∀ c o,c≠I->s.heap.get? c=some o->h'.get? c=some o)->(∃ o,h'.get? e=some o∧o.cls=.type "StopIteration")->E (.ref e) { s with heap:=h' }) :
  wpAny (model prog w) A (Builtin.«set_iterator.__next__» ⟨[.ref I],[]⟩) Q E s:=by
 obtain ⟨⟨ob,g1,g2⟩,o,v,k1,k2,k3,k4⟩:=id g
 have upd:∀ (h:Heap) f c o',c≠I->h.get? c=some o'->(h.update I f).get? c=some o':=λh f c o' hc e=>((AF ..).2 c hc).trans e
 refine (?_:wpAny _ _ (fieldsOf (.ref I) >>= _) _ _ _)
 refine Aa (wpAny_fieldsOf k1 k3 (?_:wpAny _ _ (setEntries S >>= _) _ _ _))
 refine Aa (wpAny_setEntries_of g1 g2 hf ?_)
 rw [if_neg (by simp)]
 cases md with
 | drw TI pl =>
  obtain ⟨rfl,⟨tb,b1,b2,n,b3⟩,c1,c2⟩:=k4
  refine (?_:wpAny _ _ (seqItems? (.ref TI) >>= _) _ _ _)
  refine Aa (Bm b1 b3 ?_)
  have ei:(pl.map λp:Nat=>rawInt p).toArray[((es.size:Nat):Int).toNat]? = none:=by simp [c1]
  dsimp only
  rw [ei]
  obtain ⟨o',e1,e2,e3⟩:=ES (i:=0) (x:=rawInt 0) k1 k3
  refine Aa (Ba k1 k3 (by simp) (Aa (Ba e1 e3 (by simp) ?_)))
  exact Fv (I:=I) hh λh' e a b=>q h' e (λc o hc z=>a c o (upd _ _ c o hc (upd _ _ c o hc z))) b
 | txt =>
  obtain ⟨bt,c,rfl⟩:=k4
  refine (?_:wpAny _ _ (setNext S ((c:Nat):Int).toNat ((es.size:Nat):Int).toNat ((ep:Nat):Int).toNat >>= _) _ _ _)
  refine Aa ?_
  unfold setNext
  refine Aa (BD g1 g2 hf (Aa (E1 ?_)))
  rw [if_pos bt]
  rw [Int.toNat_natCast,Int.toNat_natCast,Int.toNat_natCast]
  dsimp only
  rw [if_neg (by simp)]
  refine Aa ?_
  unfold setWalk
  refine Aa (BD g1 g2 hf (Aa (E1 ?_)))
  rw [if_pos bt]
  refine Aa (wpAny_askSetting (Ab (Ab ?_)))
  have hl:(pickOrder (w.params.setOrder S ep) es).size=es.size:=by
   have:=(Fq (w.params.setOrder S ep) es).length_eq
   simpa using this
  have ex':Option.map (λe:Int×Value=>(e.2,c)) (pickOrder ((⟨prog,w.params⟩:Setting).params.setOrder S ep) es)[es.size]? = none:=by
   rw [Bb (by rw [show (⟨prog,w.params⟩:Setting).params.setOrder S ep=w.params.setOrder S ep from rfl,hl];exact Aj _)];rfl
  refine (?_:wpAny _ _ (match Option.map (λe:Int×Value=>(e.2,c)) (pickOrder ((⟨prog,w.params⟩:Setting).params.setOrder S ep) es)[es.size]? with|some (x,next)=>_|none=>_) _ _ _)
  rw [ex']
  refine Aa (Ba k1 k3 (by simp) ?_)
  exact Fv (I:=I) hh λh' e a b=>q h' e (λc o hc z=>a c o (upd _ _ c o hc z)) b
 | one =>
  obtain ⟨bt,pl,sz,led,rfl⟩:=k4
  refine (?_:wpAny _ _ (setNext S ((if es.size=0 then 0 else (t.place.getD 0 0+1):Nat):Int).toNat ((es.size:Nat):Int).toNat ((ep:Nat):Int).toNat >>= _) _ _ _)
  refine Aa ?_
  unfold setNext
  refine Aa (BD g1 g2 hf (Aa (E1 ?_)))
  rw [if_neg (by rw [bt];exact Am)]
  refine GN (λz=>?_) λ_=>?_
  ·exfalso
   have z':(!t.plain&&decide (es.size > 1))=true:=z
   simp at z'
   ext
  refine Aa (GN (λz=>?_) λ_=>?_)
  ·exfalso
   have z':(!t.led&&!es.isEmpty)=true:=z
   rw [led] at z'
   simp at z'
  refine Ab ?_
  have ps:t.place.size=es.size:=by
   simp only [SetTable.fits,Ae,beq_iff_eq,Ak] at hf
   exact hf.1
  have bl:SetTable.below t.place (if es.size=0 then 0 else (t.place.getD 0 0+1))=es.size:=by
   by_cases c:es.size=0
   ·rw [if_pos c,JO (by ext),c]
   ·rw [if_neg c,NI (by ext)];ext
  have en:es[es.size]? = none:=Bb (Aj _)
  have hm:(match es[SetTable.below t.place ((if es.size=0 then 0 else (t.place.getD 0 0+1):Nat):Int).toNat]?,t.place[SetTable.below t.place ((if es.size=0 then 0 else (t.place.getD 0 0+1):Nat):Int).toNat]? with|some (_,x),some j=>some (x,j+1)|_,_=>none)=none:=by
   rw [Int.toNat_natCast,bl,en]
  refine (?_:wpAny _ _ (pure (match es[SetTable.below t.place ((if es.size=0 then 0 else (t.place.getD 0 0+1):Nat):Int).toNat]?,t.place[SetTable.below t.place ((if es.size=0 then 0 else (t.place.getD 0 0+1):Nat):Int).toNat]? with|some (_,x),some j=>some (x,j+1)|_,_=>none)) _ _ _)
  rw [hm]
  refine Ab (Aa (Ba k1 k3 (by simp) ?_))
  exact Fv (I:=I) hh λh' e a b=>q h' e (λc o hc z=>a c o (upd _ _ c o hc z)) b
theorem SIt.ty {S I:Addr}{es:Array (Int×Value)}{ep:Nat}{t:SetTable}{md:Md}{i:Nat}(g:SIt w S I es ep t md i s.heap):s.TypeIs (.ref I) "set_iterator":=let ⟨_,o,v,k1,k2,_⟩:=g;⟨o,k1,k2⟩
noncomputable def Md.fp (S I:Addr):Md->List Addr
 | .drw TI _=>[I,S,TI]
 | _=>[I,S]
theorem Jh:entryFor table "set_iterator.__iter__"=some Builtin.«dict_keyiterator.__iter__»:=
 entryFor_alias (id':="dict_keyiterator.__iter__") (by kernel_rfl) rfl (by symm) (by kernel_rfl)
theorem JK (a:Value):argsOk "set_iterator.__iter__" ⟨[a],[]⟩:=by
 unfold argsOk;rw [signature?_of (id:="set_iterator.__iter__") (n:=['_','_','r','e','t','i','_','_']) (o:=['r','o','t','a','r','e','t','i','_','t','e','s']) (by kernel_rfl) JP];kernel_rfl
theorem KI (hh:A.handled=none){S I:Addr}{es:Array (Int×Value)}{ep:Nat}{t:SetTable}{md:Md}(hf:t.fits es.size=true)(ne:S≠I)(ap:md.apart I) :
  Walks prog w A I (md.fp S I) [I] es.size (λi v=>(Kd w S es ep md)[i]? = some v) (λi h=>SIt w S I es ep t md i h) where
 sub:=λb hb=>by rw [Ao.mp hb];cases md<;>simp [Md.fp]
 frame:=λ_ h h' st hk=>by
  obtain ⟨⟨ob,g1,g2⟩,o,v,k1,k2,k3,k4⟩:=st
  refine ⟨⟨ob,hk S (by cases md<;>simp [Md.fp]) _ g1,g2⟩,o,v,hk I (by cases md<;>simp [Md.fp]) _ k1,k2,k3,?_⟩
  cases md with
  | drw TI pl=>obtain ⟨a,⟨tb,b1,b2⟩,c⟩:=k4;exact ⟨a,⟨tb,hk TI (by simp [Md.fp]) _ b1,b2⟩,c⟩
  | txt=>exact k4
  | one=>exact k4
 item:=λ_ s Q E hi st hQ=>by
  unfold pyNext
  exact Aa (wpAny_attempt (AK (name:=Str.ofString "__next__") st.ty DC (AG DC st.ty GO (Qj hf ne ap st hi λv h' e g' sb=>Ab (hQ v h' s.toks e g' λb o hb z=>(sb.2 b (by simpa using hb)).trans z)) (G7 _))))
 done:=λs Q E st hQ=>by
  unfold pyNext
  refine Aa (wpAny_attempt (AK (name:=Str.ofString "__next__") st.ty DC (AG DC st.ty GO (Qs hh hf st λh' e a b=>?_) (G7 _))))
  obtain ⟨o,ho,hc⟩:=b
  exact Aa (BF (T:="StopIteration") (b:=true) ⟨o,ho,hc⟩ isSubtype_stop (Ab (hQ h' s.toks λb o hb z=>a b o (by simpa using hb) z)))
 self:=λi s Q E st hQ=>by
  refine wpAny_pyIter_slot st.ty GY (AG GY st.ty Jh ?_ (JK _))
  refine (?_:wpAny _ _ (ret (.ref I)) _ _ s)
  exact Ab ⟨_,rfl,"set_iterator",_,st.ty,DC.lookup,hQ⟩
theorem JF:entryFor table "set.__iter__"=some Builtin.«frozenset.__iter__»:=
 entryFor_alias (id':="frozenset.__iter__") (by kernel_rfl) (by symm) (by symm) (by kernel_rfl)
theorem ND {S:Addr}{ob:Obj}{es:Array (Int×Value)}{ep:Nat}{t:SetTable}{Q:Value->Shared->Prop}(hz:es.size≤sizeLine)(g1:s.heap.get? S=some ob)(gc:ob.cls=.type "set")(g2:ob.data=.set es ep t)(hf:t.fits es.size=true)(hw:Gz w=true∨t.led=true∧(t.plain=false∨es.size≤1))
  (q:∀ I h' d' md,s.heap.objs.size≤I->SIt w S I es ep t md 0 h'->md.apart I->(∀ b o,s.heap.get? b=some o->h'.get? b=some o)->(Kd w S es ep md).Perm (es.toList.map (·.2))->(∀ b∈md.fp S I,b<h'.objs.size)->Q (.ref I) { s with heap:=h',drawn:=d' }):wpAny (model prog w) A (pyIter (.ref S)) Q E s:=by
 have ty:s.TypeIs (.ref S) "set":=⟨ob,g1,gc⟩
 refine wpAny_pyIter_slot ty F.slot_set_iter (AG F.slot_set_iter ty JF ?_ (F.args_set_iter_1 _))
 refine (?_:wpAny _ _ (Builtin.Frozenset.sizeOf S >>= _) _ _ s)
 refine Aa (Aa (wpAny_setEntries_of g1 g2 hf (Ab ?_)))
 have lt:S<s.heap.objs.size:=An g1
 have fin:∀ (h1:Heap) d1 (md:Md) (v:Value),(∀ b o,s.heap.get? b=some o->h1.get? b=some o)->s.heap.objs.size≤h1.objs.size->Fst w es t h1 0 v md->(∀ TI pl,md=.drw TI pl->TI<h1.objs.size)->(Kd w S es ep md).Perm (es.toList.map (·.2)) ->
   wpAny (model prog w) A.in1 (setEpoch S >>= λe=>newFields "set_iterator" [v,rawInt 0,.ref S,rawInt es.size,rawInt e] >>= λr=>ret r) (λfin s'=>∃ v,fin=.done (.ret v)∧∃ T' r,s'.TypeIs v T'∧typeLookup (.type T') "__next__"=pure (some r)∧Q v s') E { s with heap:=h1,drawn:=d1 }:=λh1 d1 md v hk hsz hF hTI hp=>by
  refine Aa (wpAny_setEpoch_of (s:={ s with heap:=h1,drawn:=d1 }) (hk _ _ g1) g2 hf (Aa ?_))
  unfold newFields
  refine AU (Ab ⟨_,rfl,"set_iterator",_,⟨_,Ai _ rfl,rfl⟩,DC.lookup,?_⟩) (by size_fits)
  refine q h1.objs.size _ d1 md hsz ⟨⟨ob,Ad _ (hk _ _ g1),g2⟩,_,v,Ai _ rfl,rfl,rfl,?_⟩ ?_ (λb o e=>Ad _ (hk b o e)) hp ?_
  ·cases md with
   | drw TI pl=>obtain ⟨a,⟨tb,b1,b2⟩,c⟩:=hF;exact ⟨a,⟨tb,Ad _ b1,b2⟩,c⟩
   | txt=>exact hF
   | one=>exact hF
  ·cases md with
   | drw TI pl=>exact AA (hTI TI pl rfl)
   | txt=>exact True.intro
   | one=>exact True.intro
  ·intro b hb
   rw [Bc]
   have lS:=A5 (Az lt hsz)
   cases md with
   | drw TI pl =>
    have:=hTI TI pl rfl
    simp only [Md.fp,Ah,Au,AY] at hb
    rcases hb with rfl|rfl|rfl
    ·exact A3 _
    ·exact lS
    ·exact A5 this
   | txt =>
    simp only [Md.fp,Ah,Au,AY] at hb
    rcases hb with rfl|rfl
    ·exact A3 _
    ·exact lS
   | one =>
    simp only [Md.fp,Ah,Au,AY] at hb
    rcases hb with rfl|rfl
    ·exact A3 _
    ·exact lS
 refine (?_:wpAny _ _ (setDrawn S >>= _) _ _ s)
 refine Aa ?_
 unfold setDrawn
 refine Aa (BD g1 g2 hf (Aa (E1 (Ab ?_))))
 refine GN (λc=>?_) λc=>?_
 ·have c':(!Gz w&&(!t.plain&&decide (es.size > 1)))=true:=c
  refine Aa (Mw es.size (List.range es.size) (by simp) λys d' p=>?_)
  unfold newTuple
  refine Aa (AU ?_ (by
   show ((ys.map λi:Nat=>rawInt i).toArray).size≤sizeLine
   rw [Aq,Ac,p.length_eq,BM];exact hz))
  have sz:(s.heap.push { cls:=.type "tuple",data:=.seq (ys.map λi:Nat=>rawInt i).toArray }).objs.size=s.heap.objs.size+1:=Bc ..
  refine fin _ d' (.drw s.heap.objs.size ys) _ (λb o e=>Ad _ e) (by rw [sz];ext) ⟨rfl,⟨_,Ai _ rfl,rfl,_,rfl⟩,by rw [p.length_eq,BM],λx hx=>BC.mp (p.mem_iff.mp hx)⟩ (λTI pl e=>by cases e;rw [sz];exact A3 _) ?_
  unfold Kd
  have e1:(List.range es.size).map (λp=>(es.getD p (0,.none)).2)=es.toList.map (·.2):=by
   refine Bj λi=>?_
   rw [Ap,Ap,AD]
   by_cases hi:i<es.size
   ·simp [hi,Array.getD]
   ·simp [hi]
  rw [← e1]
  exact p.map _
 ·have c':¬ (!Gz w&&(!t.plain&&decide (es.size > 1)))=true:=c
  by_cases bt:Gz w=true
  ·refine fin s.heap s.drawn .txt (rawInt 0) (λ_ _ e=>e) (Aj _) ⟨bt,0,rfl⟩ (λTI pl e=>nomatch e) ?_
   exact (Fq _ es).map _
  ·have bf:Gz w=false:=by simpa using bt
   have hw':=hw.resolve_left bt
   have sz:es.size≤1:=by
    rw [bf] at c'
    rcases hw'.2 with z|z
    ·rw [z] at c';simp at c';ext
    ·exact z
   exact fin s.heap s.drawn .one (rawInt 0) (λ_ _ e=>e) (Aj _) ⟨bf,hw'.2,sz,hw'.1,rfl⟩ (λTI pl e=>nomatch e) (List.Perm.refl _)
theorem NR {S:Addr}{ob:Obj}{es:Array (Int×Value)}{ep:Nat}{t:SetTable}{Q:List Value->Shared->Prop}(hh:A.handled=none)(hz:es.size≤sizeLine)(g1:s.heap.get? S=some ob)(gc:ob.cls=.type "set")(g2:ob.data=.set es ep t)(hf:t.fits es.size=true)(hw:Gz w=true∨t.led=true∧(t.plain=false∨es.size≤1))
  (q:∀ zs h' tk d',zs.Perm (es.toList.map (·.2))->(∀ b o,s.heap.get? b=some o->h'.get? b=some o)->Q zs { s with heap:=h',toks:=tk,drawn:=d' }):wpAny (model prog w) A (collect (.ref S)) Q E s:=by
 have lt:S<s.heap.objs.size:=An g1
 have nS:s.heap.objs.size≠S:=Nat.ne_of_gt lt
 unfold collect
 refine Aa (wpAny_runValue (Bl F.entry_proto_collect ?_))
 rw [Bd F.plain_proto_collect _]
 refine (?_:wpAny _ A.in1 (newList [] >>= λl=>again (.builtin "list.__iadd__" ⟨[l,.ref S],[]⟩)) _ _ s)
 refine Aa (AU (Ab ⟨BG F.plain_list_iadd _,Bl F.entry_list_iadd ?_⟩))
 rw [Bd F.plain_list_iadd _]
 refine (?_:wpAny _ A.in1 (Builtin.List.listExtendWith (.ref s.heap.objs.size) (.ref S) (.ref s.heap.objs.size)) _ _ _)
 (unfold Builtin.List.listExtendWith)
 have gS:(s.heap.push { cls:=.type "list",data:=.seq ([]:List Value).toArray }).get? S=some ob:=Ad _ g1
 have gL:(s.heap.push { cls:=.type "list",data:=.seq ([]:List Value).toArray }).get? s.heap.objs.size=some { cls:=.type "list",data:=.seq ([]:List Value).toArray }:=Ai _ rfl
 generalize hP:s.heap.push { cls:=.type "list",data:=.seq ([]:List Value).toArray }=h1 at gS gL ⊢
 have k1:∀ b o,s.heap.get? b=some o->h1.get? b=some o:=λb o e=>by rw [← hP];exact Ad _ e
 have sz1:h1.objs.size=s.heap.objs.size+1:=by rw [← hP];exact Bc ..
 have ty:Shared.TypeIs { s with heap:=h1 } (.ref S) "set":=⟨ob,gS,gc⟩
 refine Aa (Br ty ?_)
 have e1:Builtin.List.listSameRef (.ref s.heap.objs.size) (.ref S)=false:=by simp [Builtin.List.listSameRef,nS]
 have e2:(Value.type "set"==Value.type "list")=false:=by decide
 have e3:(Value.type "set"==Value.type "tuple")=false:=by decide
 simp only [e1,e2,e3,Bool.or_false,AR,Bu]
 refine Aa (ND (s:={ s with heap:=h1 }) hz gS gc g2 hf hw λI h2 d2 md hI st ap k2 pm fpl=>?_)
 refine Aa (AH ?_)
 have ty2:Shared.TypeIs { s with heap:=h2,drawn:=d2 } (.ref S) "set":=⟨ob,k2 _ _ gS,gc⟩
 (unfold Builtin.List.listLengthHint)
 refine Aa (wpAny_specialOf ty2 F.slot_set_len.lookup ?_)
 refine (?_:wpAny _ A.in1 (isInstance (Value.ref S) (.type "set") >>= _) _ _ _)
 refine Aa (BF ty2 sub_set_self ?_)
 refine (?_:wpAny _ A.in1 (typeOf (Value.ref S) >>= _) _ _ _)
 refine Aa (Br ty2 (Ab ?_))
 refine (?_:wpAny _ A.in1 (rule "list.extend.makes-room" >>= λ_=>Builtin.List.listTouch (.ref s.heap.objs.size) >>= λ_=>again (.builtin "list.extend.loop" ⟨[.ref s.heap.objs.size,.ref I,.ref s.heap.objs.size],[]⟩)) _ _ _)
 refine Aa (Bq (Aa ?_))
 refine (?_:wpAny _ A.in1 (updateSeq s.heap.objs.size (·.push .none) >>= λ_=>updateSeq s.heap.objs.size (·.pop)) _ _ _)
 have gL2:=k2 _ _ gL
 refine Aa (wpAny_updateSeq gL2 rfl ?_)
 have gL3:=AS (Obj.mapSeq (·.push Value.none)) gL2 rfl
 refine wpAny_updateSeq gL3 rfl ?_
 have gL4:=AS (Obj.mapSeq (·.pop)) gL3 rfl
 have nL:s.heap.objs.size∉md.fp S I:=by
  have nI:s.heap.objs.size≠I:=λe=>by
   have:s.heap.objs.size+1≤I:=by rw [← sz1];exact hI
   rw [← e] at this
   exact absurd this (Nat.not_succ_le_self _)
  cases md with
  | drw TI pl =>
   obtain ⟨_,o,v,_,_,_,_,⟨tb,b1,b2,_⟩,_⟩:=st
   have nT:s.heap.objs.size≠TI:=λe=>by
    rw [← e,gL2] at b1
    cases b1
    exact absurd b2 (by decide)
   simp only [Md.fp,Ah,Au,AY,not_or]
   exact ⟨nI,nS,nT⟩
  | txt=>simp only [Md.fp,Ah,Au,AY,not_or];exact ⟨nI,nS⟩
  | one=>simp only [Md.fp,Ah,Au,AY,not_or];exact ⟨nI,nS⟩
 have oth:∀ b o,b≠s.heap.objs.size->h2.get? b=some o->((h2.update s.heap.objs.size (Obj.mapSeq (·.push Value.none))).update s.heap.objs.size (Obj.mapSeq (·.pop))).get? b=some o:=
  λb o hb e=>(Bk _ _ (Ne.symm hb)).trans ((Bk _ _ (Ne.symm hb)).trans e)
 have nSI:S≠I:=λe=>by
  have a:s.heap.objs.size+1≤I:=by rw [← sz1];exact hI
  rw [← e] at a
  exact absurd (Az lt (AN (Nat.le_succ _) a)) (A8 _)
 have W:=(KI (prog:=prog) (A:=A.in1) (w:=w) (ep:=ep) hh hf nSI ap).toS
 refine Ab ⟨BG F.plain_extend_loop _,codeAny_extend_loopS (A:=A) W hz _ nL _ es.size 0 _ _ _ rfl (A0 _) ?_ gL4 (ItemsOf.nil _) λs' acc' c' hm hS' hacc=>?_⟩
 ·exact (KI (prog:=prog) (A:=A.in1) (w:=w) (ep:=ep) hh hf nSI ap).frame 0 _ _ st λb hb o e=>oth b o (λz=>nL (z▸hb)) e
 refine (?_:wpAny _ A (load s.heap.objs.size >>= _) _ _ s')
 refine Aa (wpAny_load hS' ?_)
 obtain ⟨zh,zg,zd,zt,zo⟩:=s'
 have e4:zg=s.gens:=hm.gens
 have e5:zd=d2:=hm.drawn
 have e6:zo=s.os:=hm.os
 subst e4 e5 e6
 refine Ab (q acc'.toList zh zt zd ?_ λb o e=>?_)
 ·have ln:(Kd w S es ep md).length=es.size:=by rw [pm.length_eq];simp
  have:acc'.toList=Kd w S es ep md:=by
   refine Bj λi=>?_
   by_cases hi:i<es.size
   ·have hi':i<acc'.size:=by rw [hacc.1];exact hi
    rw [AD,Ax hi']
    exact (hacc.2 i _ (Ax hi')).symm
   ·rw [AD,Bb (by rw [hacc.1];ext),List.getElem?_eq_none (by rw [ln];ext)]
  rw [this]
  exact pm
 ·have bl:=An e
  refine hm.heap b o ?_ (oth b o (AA bl) (k2 _ _ (k1 _ _ e)))
  simp only [Ah,Au,AY,not_or]
  refine ⟨AA bl,λz=>?_⟩
  have a:s.heap.objs.size+1≤I:=by rw [← sz1];exact hI
  rw [← z] at a
  exact absurd (Az bl (AN (Nat.le_succ _) a)) (A8 _)
def HU (prog:Program)(w:World)(A:Around)(zs out:List Value)(s:Shared):Prop:=∀ (h1:Heap) (a:Addr) (P:PySem.Fin->Shared->Prop) (E':Value->Shared->Prop),(∀ b o,s.heap.get? b=some o->h1.get? b=some o)->s.heap.get? a=none->h1.get? a=some (seqObj "list" zs.toArray 0) ->
 P (.done (.ret .none)) { s with heap:=sortedHeap h1 a zs out.toArray }->wpAny (model prog w) A (Builtin.«list.sort» ⟨[.ref a],[]⟩) P E' { s with heap:=h1 }
theorem Kv {x:Value}{Q:Value->Shared->Prop}(hcol:wpAny (model prog w) A.in1 (collect x) (λzs s1=>zs.length≤sizeLine∧∃ out,HU prog w A.in1.in1 zs out s1∧∀ h' e a,(∀ b o,s1.heap.get? b=some o->h'.get? b=some o)->s1.heap.objs.size≤a->h'.get? a=some (seqObj "list" out.toArray e)->Q (.ref a) { s1 with heap:=h' }) E s) :
  wpAny (model prog w) A (call (.builtin "sorted") [x]) Q E s:=by
 (refine Calls.call_function_entry kind_sorted plain_sorted entry_sorted (args_sorted1 _) ?_)
 unfold Builtin.«sorted»
 refine Aa (m:=checkCount "sorted" 1 1 _) (Ab (Aa (wpAny_mono hcol (λzs s1 hq=>?_) λ_ _ z=>z)))
 obtain ⟨hz,out,hs,q⟩:=hq
 refine Aa (wpAny_newList ?_ hz)
 have g1:(s1.heap.push (seqObj "list" zs.toArray 0)).get? s1.heap.objs.size=some (seqObj "list" zs.toArray 0):=Ai _ rfl
 have fr:s1.heap.get? s1.heap.objs.size=none:=Heap.get?_none_of_le (Aj _)
 refine Aa (AH (AG slot_list_sort ⟨_,g1,rfl⟩ entry_list_sort (hs (s1.heap.push (seqObj "list" zs.toArray 0)) _ _ _ (λb o e=>Ad _ e) fr g1 ⟨_,rfl,Ab ⟨_,rfl,?_⟩⟩) (args_list_sort _)))
 obtain ⟨e,he⟩:=sortedHeap_at (out:=out.toArray) g1
 refine q _ e _ (λb o z=>?_) (Aj _) he
 have lb:=An z
 rw [sortedHeap_old (AA lb) (by rw [size_push'];exact A5 lb)]
 exact Ad _ z
end
noncomputable def VX:D->Bool
 | .str _=>true
 | _=>false
def KA (es:List D):Bool:=es.all λa=>es.all λb=>(ltB a b).isSome
def Ej (es:List D):Bool:=decide (es.length<64)&&es.all FZ&&KA es&&(es.all VX||es.all tupS)
section
variable {X:Cx} {K:Zc} {th:List Addr} {mu:Sto} {H:Hp} {pins:List (Addr×Obj)} {st:L2.St} {s:Shared}
theorem Tg {es:List D}(ho:es.all FZ=true)(hc:KA es=true):Pre es.length (Qh es) λi j=>ltT (es.getD i .non) (es.getD j .non):=by
 have gd:∀ i,i<es.length->es.getD i .non=es[i]?.getD .non∧∃ d,es[i]? = some d∧es.getD i .non=d∧d∈es:=λi hi=>by
  rw [AL]
  exact ⟨rfl,es[i],Ay hi,by rw [Ay hi];rfl,BS hi⟩
 rw [Ar] at ho
 unfold KA at hc
 rw [Ar] at hc
 refine ⟨λi j hi hj=>?_,λi j hi hj h=>OF _ _ h,λi j k hi hj hk h1 h2=>Ry _ _ _ h1 h2⟩
 obtain ⟨_,d,e1,e2,e3⟩:=gd i hi
 obtain ⟨_,d',f1,f2,f3⟩:=gd j hj
 unfold Qh
 rw [e1,f1,e2,f2]
 have:=hc d e3
 rw [Ar] at this
 obtain ⟨r,hr⟩:=Option.isSome_iff_exists.mp (this d' f3)
 dsimp only
 rw [hr,Vn d d' r (ho d e3) (ho d' f3) hr]
 rfl
theorem TQ (I:L2.Inv X pins st H s){es:List D}{vs:List V}{us:List Value}(hd:es.all VX=true)(r:RepL X.z th H es vs)(q:Vals vs us){A:Around} :
  ∀ i j b C,Qh es i j=some b->C b s->PySem.W.kas_ask X.prog X.w A oneType' us i j C s:=λi j b C e hC=>by
 rw [Ar] at hd
 unfold Qh at e
 cases e1:es[i]? with
 | none=>rw [e1] at e;cases e
 | some d =>
  cases e2:es[j]? with
  | none=>rw [e1,e2] at e;cases e
  | some d' =>
   rw [e1,e2] at e
   have s1:=hd d (Al e1)
   have s2:=hd d' (Al e2)
   cases d<;>first|(cases s1;done)|skip
   cases d'<;>first|(cases s2;done)|skip
   rename_i x y
   unfold ltB at e
   cases e
   obtain ⟨v,v1,v2⟩:=r.get e1
   obtain ⟨v',v1',v2'⟩:=r.get e2
   obtain ⟨u,u1,u2⟩:=q.get v1
   obtain ⟨u',u1',u2'⟩:=q.get v1'
   obtain ⟨rfl,_⟩:=(show _∧_ from v2)
   obtain ⟨rfl,_⟩:=(show _∧_ from v2')
   obtain ⟨t,rfl⟩:=u2
   obtain ⟨t',rfl⟩:=u2'
   unfold PySem.W.kas_ask
   rw [AL,AL,u1,u1']
   exact PySem.W.kas_lt_str hC
theorem RN {es:List D}{vs:List V}{us:List Value}(hd:es.all VX=true)(r:RepL X.z th H es vs)(q:Vals vs us):∃ ss,StrsAre us ss:=by
 refine ⟨_,strsAre_map us λu hu=>?_⟩
 obtain ⟨i,ei⟩:=A7.mp hu
 have hi:i<es.length:=by
  have:=(Af.mp ei).1
  rw [← q.length,r.len] at this
  exact this
 rw [Ar] at hd
 obtain ⟨v,v1,v2⟩:=r.get (Ay hi)
 have hs:=hd _ (BS hi)
 obtain ⟨u',u1,u2⟩:=q.get v1
 rw [ei] at u1
 cases u1
 cases e:es[i]<;>rw [e] at hs v2<;>first|(cases hs;done)|skip
 obtain ⟨rfl,_⟩:=(show _∧_ from v2)
 obtain ⟨t,rfl⟩:=u2
 exact ⟨_,t,rfl⟩
theorem sorts (hu:X.A.units+64<cLine)(I:L2.Inv X pins st H s){es:List D}{vs:List V}{zs:List Value}(h2:RepL X.z th H es vs)(rv:Vals vs zs)(ok:Ej es=true) :
  ∃ ws out,RepL X.z th H (Fz es) ws∧Vals ws out∧HU X.prog X.w X.A.in1.in1 zs out s:=by
 unfold Ej at ok
 rw [Ae,Ae,Ae,Ak,Bool.or_eq_true] at ok
 obtain ⟨⟨⟨c64,ho⟩,hc⟩,hk⟩:=ok
 have ho':∀ d∈es,FZ d=true:=by rw [Ar] at ho;exact ho
 have lz:zs.length=es.length:=by rw [← rv.length,h2.len]
 by_cases c2:es.length<2
 ·have:Fz es=es:=by
   refine (Jm ho' (List.Perm.refl _) ?_).symm
   match es,c2 with
   | [],_=>exact .nil
   | [_],_=>exact List.pairwise_singleton _ _
   | _::_::_,c2=>exact absurd c2 (by simp only [List.length_cons];ext)
  rw [this]
  exact ⟨vs,zs,h2,rv,λh1 a P E' hk fr hl hP=>S0 hl (by rw [lz];exact c2) hP⟩
 ·obtain ⟨p,p1,pm,up⟩:=Ug (Tg ho hc) (by ext)
  have pl:p.size=es.length:=by rw [← Array.length_toList,pm.length_eq,BM]
  have inn:∀ i∈p.toList,i<es.length:=λi hi=>BC.mp (pm.mem_iff.mp hi)
  have es_eq:p.toList.map (λi=>es.getD i .non)=Fz es:=by
   refine Jm ho' ?_ ?_
   ·refine (pm.map _).trans ?_
    have:(List.range es.length).map (λi=>es.getD i .non)=es:=by
     refine Bj λi=>?_
     rw [Ap]
     by_cases hi:i<es.length
     ·simp [hi]
     ·simp [hi]
    rw [this]
   ·rw [List.pairwise_iff_getElem]
    intro i j hi hj hij
    rw [Ac,Array.length_toList,pl] at hi hj
    have:=up i j (Nat.le_of_lt hij) hj
    rw [SF (by ext),SF (by ext)] at this
    dsimp only at this
    unfold leT
    simp only [List.getElem_map,Array.getElem_toList]
    rw [this]
    rfl
  refine ⟨p.toList.map λi=>vs.getD i .non,p.toList.map λi=>zs.getD i Value.none,?_,?_,λh1 a P E' hk1 fr hl hP=>?_⟩
  ·rw [← es_eq]
   exact RepL.pick (ds:=es) (vs:=vs) _ _ _ λi hi=>by
    have hi':=inn i hi
    obtain ⟨v,ev,rv'⟩:=h2.get (show es[i]? = some es[i] by simp [hi'])
    rw [AL,AL,ev,show es[i]? = some es[i] by simp [hi']]
    exact rv'
  ·exact Vals.pick rv _ _ _ λi hi=>by
    have hi':=inn i hi
    obtain ⟨v,ev,_⟩:=h2.get (show es[i]? = some es[i] by simp [hi'])
    obtain ⟨u,eu,ru⟩:=rv.get ev
    rw [AL,AL,ev,eu]
    exact ru
  ·have I6:L2.Inv X pins st H { s with heap:=((h1.update a (Obj.mapSeq λ_=>#[])).push (seqObj "tuple" zs.toArray 0)).push (seqObj "list" #[] 0) }:=I.kept (t':=s.toks) λb o q=>by
    refine Ad _ (Ad _ ?_)
    rw [Heap.get?_update_ne _ _ _ _ (λz=>by rw [z,fr] at q;cases q)]
    exact hk1 b o q
   rcases hk with hk|hk
   ·obtain ⟨ss,hS⟩:=RN hk h2 rv
    refine O6 (kd:=oneType') p (by rw [lz];exact pl) hl (by rw [lz];ext) (by rw [lz];exact c64) (λQ' E2 hq=>?_) (λG hG=>?_) hP
    ·match zs,hS,lz with
     | [],_,lz=>simp at lz;ext
     | [_],_,lz=>simp at lz;ext
     | v1::v2::r,hS,_=>rw [keyKind_strs hS];exact Ab hq
    ·rw [lz]
     exact Iq (λi j b C ea hC=>TQ I6 hk h2 rv i j b C ea hC) _ p G p1 hG
   ·obtain ⟨fs,f1,f2,f3⟩:=J1 I6 hk h2 rv
    refine O6 (kd:=tuples' true) p (by rw [lz];exact pl) hl (by rw [lz];ext) (by rw [lz];exact c64) (λQ' E2 hq=>PySem.W.kat_kind f1 (by rw [f2];ext) (T:=.type "str") (λv hv=>?_) rfl hq) (λG hG=>?_) hP
    ·obtain ⟨x,tk,rfl⟩:=f3 v hv
     exact λA Q E s _ hq=>Br (typeIs_str s x tk) hq
    ·rw [lz]
     exact Iq (λi j b C ea hC=>V8 I6 hk h2 rv (A:=X.A.in1.in1) (by show X.A.units+1+1+60<cLine;ext) i j b C ea hC) _ p G p1 hG
end
section
variable {prog:Program} {w:World} {A:Around} {E:Value->Shared->Prop} {s:Shared}
def YieldsV (prog:Program)(w:World)(A:Around)(E:Value->Shared->Prop)(h:Heap)(l:Addr)(us:List Value):Prop:=
 ∀ (s1:Shared) (A':Around) (R:Value->Shared->Prop),A'.handled=A.handled->(∀ b o,h.get? b=some o->s1.heap.get? b=some o) ->
  (∀ (I:Addr) (fp:List Addr) (h2:Heap) (d2:Drawn) (P:Nat->Value->Prop) (St:Nat->Heap->Prop),s1.heap.objs.size≤I->(∀ b∈fp,b<h2.objs.size)->(∀ b∈fp,s1.heap.objs.size≤b∨∃ o,h.get? b=some o)->(∀ A2:Around,A2.handled=A.handled->Walks prog w A2 I fp [I] us.length P St)->St 0 h2 ->
   (∀ b o,s1.heap.get? b=some o->h2.get? b=some o)->(∀ i v,P i v->us[i]? = some v)->R (.ref I) { s1 with heap:=h2,drawn:=d2 })->wpAny (model prog w) A' (pyIter (.ref l)) R E s1
end
def Hx (r:List D)(v:D):List D:=if v∈r then r else r++[v]
def KN (es:List D):List D:=es.foldl Hx []
section
variable {X:Cx} {K:Zc} {th:List Addr} {mu:Sto} {H:Hp} {pins:List (Addr×Obj)} {st:L2.St} {s:Shared}
theorem Mr (I:L2.Inv X pins st H s)(hc:X.calm=true){a:Addr}{vs:List V}{E:Value->Shared->Prop}(h:SqL X.K H a vs):∃ us,Vals vs us∧YieldsV X.prog X.w X.A E s.heap a us∧∃ o,s.heap.get? a=some o∧o.cls=.type "list":=by
 obtain ⟨its,rv,pl,hz⟩:=I.list h
 obtain ⟨o,n,ho,hcl,hdd,hdt⟩:=id pl
 refine ⟨its,rv,λs1 A' R hA hk hR=>?_,o,ho,hcl⟩
 have pl':s1.heap.IsList a its.toArray:=pl.isList.at λo e=>hk a o e
 have lt:a<s1.heap.objs.size:=An (hk a o ho)
 have hh:=I.ok.hd hc
 refine wpAny_pyIter_list pl' (hR s1.heap.objs.size [s1.heap.objs.size,a] _ s1.drawn (λi v=>its.toArray[i]? = some v) (λi h=>h.IsListIter s1.heap.objs.size a i∧h.IsList a its.toArray) (Aj _) (λb hb=>?_) (λb hb=>?_) (λA2 hA2=>?_) ?_ (λb o e=>Ad _ e) λi v hP=>?_)
 ·rw [Bc]
  rcases Ah.mp hb with rfl|hb
  ·exact A3 _
  ·rw [Ao.mp hb];exact A5 lt
 ·rcases Ah.mp hb with rfl|hb
  ·exact .inl (Aj _)
  ·rw [Ao.mp hb];exact .inr ⟨o,ho⟩
 ·have:=Walks.list (prog:=X.prog) (w:=X.w) (hA2.trans hh) s1.heap.objs.size a (AA lt) its.toArray
  rw [Aq] at this
  exact this
 ·exact ⟨⟨_,Ai _ rfl,rfl,rfl⟩,pl'.push _⟩
 ·have hP':its.toArray[i]? = some v:=hP
  simpa using hP'
theorem LQ (I:L2.Inv X pins st H s)(hc:X.calm=true){a:Addr}{vs:List V}{E:Value->Shared->Prop}(h:SqT X.K H a vs):∃ us,Vals vs us∧YieldsV X.prog X.w X.A E s.heap a us∧∃ o,s.heap.get? a=some o∧o.cls=.type "tuple":=by
 obtain ⟨its,rv,pl,hz⟩:=I.tuple h
 obtain ⟨o,ho,hcl,n,hdt⟩:=id pl
 refine ⟨its,rv,λs1 A' R hA hk hR=>?_,o,ho,hcl⟩
 have pl':s1.heap.IsTuple a its.toArray:=⟨o,hk a o ho,hcl,n,hdt⟩
 have lt:a<s1.heap.objs.size:=An (hk a o ho)
 have hh:=I.ok.hd hc
 refine wpAny_pyIter_tuple pl' (hR s1.heap.objs.size [s1.heap.objs.size,a] _ s1.drawn (λi v=>its.toArray[i]? = some v) (λi h=>h.IsTupleIter s1.heap.objs.size a i∧h.IsTuple a its.toArray) (Aj _) (λb hb=>?_) (λb hb=>?_) (λA2 hA2=>?_) ?_ (λb o e=>Ad _ e) λi v hP=>?_)
 ·rw [Bc]
  rcases Ah.mp hb with rfl|hb
  ·exact A3 _
  ·rw [Ao.mp hb];exact A5 lt
 ·rcases Ah.mp hb with rfl|hb
  ·exact .inl (Aj _)
  ·rw [Ao.mp hb];exact .inr ⟨o,ho⟩
 ·have:=Walks.tuple (prog:=X.prog) (w:=X.w) (hA2.trans hh) s1.heap.objs.size a (AA lt) its.toArray
  rw [Aq] at this
  exact this
 ·exact ⟨⟨_,Ai _ rfl,rfl,rfl⟩,⟨o,Ad _ (hk a o ho),hcl,n,hdt⟩⟩
 ·have hP':its.toArray[i]? = some v:=hP
  simpa using hP'
def TY:Fn:=λds mu=>match ds with
 | [.set es]=>some (.int es.length,mu)
 | [d]=>(DR mu d).map λp=>(.int p.1.length,mu)
 | _=>none
theorem RW {ds:List D}{r:D×Sto}(h:TY ds mu=some r):(∃ es,ds=[.set es]∧r=(.int es.length,mu))∨∃ d p,ds=[d]∧DR mu d=some p∧r=(.int p.1.length,mu):=by
 unfold TY at h
 split at h
 ·cases h;exact .inl ⟨_,rfl,rfl⟩
 ·rename_i d _
  cases e:DR mu d with
  | none=>rw [e] at h;cases h
  | some p=>rw [e] at h;cases h;exact .inr ⟨d,p,rfl,e,rfl⟩
 ·cases h
theorem Qx:CallV X (.builtin "len") TY:=by
 intro pins s st H xs us Q I r h
 obtain ⟨th,mu,ds,so,rd,t⟩:=h
 obtain ⟨a0,mu0,e0,_⟩:=id t
 rcases RW e0 with ⟨es,rfl,er⟩|⟨d,p,rfl,ed,er⟩
 ·rw [e0] at t
  cases er
  obtain ⟨x,rfl,rx⟩:=Dh rd
  unfold Rep at rx
  obtain ⟨a,us',vs,rfl,_,h1,h2,h3,_⟩:=rx
  obtain ⟨u,rfl,ru⟩:=vals1 r
  cases ru
  obtain ⟨⟨o,tes,ep,tb,ho,hex,hd,sb,hf,hv,_⟩,_⟩:=(show ObjOk X.prog X.w H s.heap a (UC X.w a us') from I.hok a _ h1)
  have ln:tes.size=es.length:=by
   have e1:us'.length=tes.size:=by have:=hv.length;simpa using this
   rw [← e1,h2.length_eq,List.length_zip,Ez,Ac,h3.len,Nat.min_self]
  refine PySem.call_len_set ho hex hd hf (by unfold scanBound at sb;ext) ⟨.int es.length,H,I.tok _,⟨_,by rw [ln]⟩,t.ret so _ rfl⟩
 ·rw [e0] at t
  cases er
  obtain ⟨x,rfl,rx⟩:=Dh rd
  obtain ⟨a,rfl,dc⟩:=Eg so ed rx
  obtain ⟨u,rfl,ru⟩:=vals1 r
  cases ru
  obtain ⟨xs',o,es,ep,h1,g⟩:=Gr I dc
  have ty:s.TypeIs (.ref a) "dict":=⟨o,g.at',g.ex.1⟩
  have ln:es.size=p.1.length:=by rw [Dl g.en,Array.length_toList]
  have fit:((p.1.length:Nat):Int)<2 ^ 63:=by
   have:=(Q8 dc).2.len
   rw [As] at this
   ext
  have hM:MeetsIn X.prog X.w (Builtin.«dict.__len__» ⟨[.ref a],[]⟩) (λ_ R s=>s.heap.get? a=some o∧R (.ok (.ret (.int p.1.length s.toks))) { s with toks:=s.toks+1 }):=.of_wp λA R s ⟨g0,h⟩=>by
   refine (?_:wpAny _ _ (dictSize a >>= _) _ _ s)
   unfold dictSize
   refine Aa (Aa (Bi g0 g.dt (Ab (?_:wpAny _ _ (Builtin.Dict.pendingCount a >>= _) _ _ s))))
   refine Aa (wpAny_pendingCount_other g.ns (wpAny_ret_mkInt ?_))
   rw [Nat.add_zero,ln]
   exact h
  (refine Calls.call_function_entry kind_len plain_len entry_len (args_len1 _) ?_)
  unfold Builtin.«len»
  refine Aa (m:=oneArg "len" _) (Ab (Aa (m:=callSpecial? (.ref a) (Str.ofString "__len__")) (AK (name:=Str.ofString "__len__") ty F.slot_dict_len (call_meetsIn F.slot_dict_len ty F.entry_dict_len (F.args_dict_len_1 _) hM ⟨g.at',?_⟩))))
  refine (?_:wpAny _ _ _ _ _ { s with toks:=s.toks+1 })
  refine Aa (AH (Ab (Aa (wpAny_letGo (?_:wpAny _ _ (if ((p.1.length:Nat):Int)<0 then _ else _) _ _ _)))))
  rw [if_neg (by ext)]
  refine (?_:wpAny _ _ (if ((p.1.length:Nat):Int) ≥ 2 ^ 63 then _ else _) _ _ _)
  rw [if_neg (by ext)]
  exact Aa (wpAny_mkInt (Ab ⟨_,rfl,⟨.int p.1.length,H,I.tok _,⟨_,rfl⟩,t.ret so _ rfl⟩⟩))
def D0:Fn:=λds mu=>match Qf ds mu with|some r=>some r|none=>TY ds mu
theorem CN:CallV X (.builtin "len") D0:=CallV.or P2 Qx
def QV (mu:Sto):D->Option (List D)
 | .set es=>some es
 | d=>Hy mu d
def L6:Fn:=λds mu=>match Fh ds with
 | some d=>match QV mu d with
  | some es=>if Ej es=true then some (.lst (Fz es),mu) else none
  | none=>none
 | none=>none
theorem Rw {ds:List D}{r:D×Sto}(h:L6 ds mu=some r):∃ d es,ds=[d]∧QV mu d=some es∧Ej es=true∧r=(.lst (Fz es),mu):=by
 unfold L6 at h
 split at h
 ·rename_i d e
  split at h
  ·rename_i es e2
   split at h
   ·rename_i c;cases h;exact ⟨d,es,Ft e,e2,c,rfl⟩
   ·cases h
  ·cases h
 ·cases h
theorem Nv {es fs:List D}(p:fs.Perm es)(h:Ej es=true):Ej fs=true:=by
 unfold Ej KA at *
 rw [Ae,Ae,Ae,Ak,Bool.or_eq_true] at *
 simp only [Ar] at *
 obtain ⟨⟨⟨a,b⟩,c⟩,d⟩:=h
 exact ⟨⟨⟨by rw [p.length_eq];exact a,λx hx=>b x (p.mem_iff.mp hx)⟩,λx hx y hy=>c x (p.mem_iff.mp hx) y (p.mem_iff.mp hy)⟩,d.imp (λz x hx=>z x (p.mem_iff.mp hx)) λz x hx=>z x (p.mem_iff.mp hx)⟩
theorem Qz {es:List D}(h:Ej es=true):∀ d∈es,FZ d=true:=by
 unfold Ej at h
 rw [Ae,Ae,Ae] at h
 exact Ar.mp h.1.1.2
theorem RepL.perm {ds:List D}{vs us:List V}(p:us.Perm vs)(r:RepL K th H ds vs):∃ ds',ds'.Perm ds∧RepL K th H ds' us:=by
 induction p generalizing ds with
 | nil=>exact ⟨ds,List.Perm.refl _,r⟩
 | cons x p ih =>
  cases ds with
  | nil=>cases r.inv0
  | cons d ds =>
   obtain ⟨v,r',e,a,b⟩:=r.inv
   cases e
   obtain ⟨ds',q1,q2⟩:=ih b
   exact ⟨d::ds',q1.cons d,.cons a q2⟩
 | swap x y l =>
  cases ds with
  | nil=>cases r.inv0
  | cons d ds =>
   obtain ⟨v,r',e,a,b⟩:=r.inv
   cases e
   cases ds with
   | nil=>cases b.inv0
   | cons d' ds =>
    obtain ⟨v',r2,e',a',b'⟩:=b.inv
    cases e'
    exact ⟨d'::d::ds,List.Perm.swap _ _ _,.cons a' (.cons a b')⟩
 | trans p q ih1 ih2 =>
  obtain ⟨ds1,a1,b1⟩:=ih2 r
  obtain ⟨ds2,a2,b2⟩:=ih1 b1
  exact ⟨ds2,a2.trans a1,b2⟩
theorem Vals.perm {vs:List V}{us us':List Value}(p:us'.Perm us)(r:Vals vs us):∃ vs',vs'.Perm vs∧Vals vs' us':=by
 induction p generalizing vs with
 | nil=>cases r;exact ⟨[],.nil,.nil⟩
 | cons x p ih =>
  cases r with
  | cons a b=>obtain ⟨vs',q1,q2⟩:=ih b;exact ⟨_,q1.cons _,.cons a q2⟩
 | swap x y l =>
  cases r with
  | cons a b =>
   cases b with
   | cons a' b'=>exact ⟨_,List.Perm.swap _ _ _,.cons a' (.cons a b')⟩
 | trans p q ih1 ih2 =>
  obtain ⟨v1,a1,b1⟩:=ih2 r
  obtain ⟨v2,a2,b2⟩:=ih1 b1
  exact ⟨v2,a2.trans a1,b2⟩
theorem Pl (hu:X.A.units+64<cLine)(hc:X.calm=true):CallV X (.builtin "sorted") L6:=by
 intro pins s st H xs us Q I r h
 obtain ⟨th,mu,ds,so,rd,t⟩:=h
 obtain ⟨a0,mu0,e0,_⟩:=id t
 obtain ⟨d,es,rfl,eg,ok,er⟩:=Rw e0
 rw [e0] at t
 cases er
 obtain ⟨x,rfl,rx⟩:=Dh rd
 obtain ⟨u,rfl,ru⟩:=vals1 r
 have fin:∀ (fs:List D) (vs:List V) (zs:List Value) (h1:Heap) (tk:Nat) d',fs.Perm es->RepL X.z th H fs vs->Vals vs zs->(∀ b o,s.heap.get? b=some o->h1.get? b=some o)->zs.length≤sizeLine∧∃ out,HU X.prog X.w X.A.in1.in1 zs out { s with heap:=h1,toks:=tk,drawn:=d' } ∧
   ∀ h' e a,(∀ b o,h1.get? b=some o->h'.get? b=some o)->h1.objs.size≤a->h'.get? a=some (seqObj "list" out.toArray e)->EP X pins st Q (.ref a) { s with heap:=h',toks:=tk,drawn:=d' }:=λfs vs zs h1 tk d' p h2 rv hk=>by
  have I0:L2.Inv X pins st H { s with drawn:=d' }:=⟨I.ok,I.os,I.bare,I.base,I.loc,I.cell,I.free,I.freeC,I.pin,I.hok,I.len⟩
  have I1:L2.Inv X pins st H { s with heap:=h1,toks:=tk,drawn:=d' }:=I0.kept (t':=tk) hk
  have okf:=Nv p ok
  have l64:fs.length<64:=by
   unfold Ej at okf
   rw [Ae,Ae,Ae,Ak] at okf
   exact okf.1.1.1
  have lz:zs.length=fs.length:=by rw [← rv.length,h2.len]
  obtain ⟨ws,out,w1,w2,w3⟩:=sorts hu I1 h2 rv okf
  rw [Kr (Qz ok) p] at w1
  have z64:64≤sizeLine:=by rw [As];decide
  have wl:(Fz es).length≤sizeLine:=by rw [(DF es).length_eq,← p.length_eq];ext
  refine ⟨by ext,out,w3,λh' e a hk' ha he=>?_⟩
  have hp:H a=none:=I1.hok.fresh ha
  refine ⟨.ref a,_,I1.laid (t':=tk) (o:=.lst ws) hk' ha ⟨by rw [w1.len];exact wl,out,e,w2,he⟩,rfl,?_⟩
  exact t.retX (.new hp _) (so.new hp _) _ (Rep.newLst so hp w1 wl)
 refine Kv ?_
 have seqc:∀ (T:String) (a:Addr) (ob:Obj) (vs:List V) (zs:List Value) (n:Nat),(T="list"∨T="tuple")->s.heap.get? a=some ob->ob.cls=.type T->ob.data=.seq zs.toArray n->Vals vs zs->RepL X.z th H es vs->es.length≤sizeLine->wpAny (model X.prog X.w) X.A.in1 (collect (.ref a)) (λzs s1=>zs.length≤sizeLine∧∃ out,HU X.prog X.w X.A.in1.in1 zs out s1∧∀ h' e a,(∀ b o,s1.heap.get? b=some o->h'.get? b=some o)->s1.heap.objs.size≤a->h'.get? a=some (seqObj "list" out.toArray e)->EP X pins st Q (.ref a) { s1 with heap:=h' }) X.xe s:=λT a ob vs zs n hT g1 g2 g3 rv h2 hz=>by
  refine Od hT g1 g2 g3 ?_ (by rw [← rv.length,h2.len];exact hz)
  refine fin es vs zs _ s.toks s.drawn (List.Perm.refl _) h2 rv λb o e=>?_
  have lt:=An e
  rw [Heap.get?_update_ne _ _ _ _ (AA lt),Heap.get?_push_ne _ _ _ (AA lt)]
  exact e
 have sq:Hy mu d=some es->wpAny (model X.prog X.w) X.A.in1 (collect u) (λzs s1=>zs.length≤sizeLine∧∃ out,HU X.prog X.w X.A.in1.in1 zs out s1∧∀ h' e a,(∀ b o,s1.heap.get? b=some o->h'.get? b=some o)->s1.heap.objs.size≤a->h'.get? a=some (seqObj "list" out.toArray e)->EP X pins st Q (.ref a) { s1 with heap:=h' }) X.xe s:=λe2=>by
  obtain ⟨a,vs,rfl,h1,h2,h3⟩:=Hn so e2 rx
  cases ru
  rcases h1 with h1|⟨h1,_⟩
  ·obtain ⟨its,rv,⟨o,n,g1,g2,_,g3⟩,_⟩:=I.list h1
   exact seqc "list" a o vs its n (.inl rfl) g1 g2 g3 rv h2 h3
  ·obtain ⟨its,rv,⟨o,g1,g2,n,g3⟩,_⟩:=I.tuple h1
   exact seqc "tuple" a o vs its n (.inr rfl) g1 g2 g3 rv h2 h3
 unfold QV at eg
 split at eg
 ·cases eg
  unfold Rep at rx
  obtain ⟨a,us',vs,rfl,_,h1,h2,h3,_⟩:=rx
  cases ru
  obtain ⟨⟨o,tes,ep,tb,ho,hex,hd,sb,hf,hv,hw,_⟩,_⟩:=(show ObjOk X.prog X.w H s.heap a (UC X.w a us') from I.hok a _ h1)
  refine NR (I.ok.hd hc) (fits_of_scanBound sb) ho hex.1 hd hf hw λzs h' tk d' pm hk=>?_
  obtain ⟨ws,p1,r1⟩:=Vals.perm pm hv
  obtain ⟨fs,p2,r2⟩:=RepL.perm (p1.trans (by have:=h2.map (·.2);rw [List.map_snd_zip (by rw [Ez,Ac,h3.len];exact Aj _)] at this;exact this)) h3
  exact fin fs ws zs h' tk d' p2 r2 r1 hk
 ·exact sq eg
end
section
variable {prog:Program} {w:World} {A:Around} {E:Value->Shared->Prop} {s:Shared}
theorem NW {i t:Addr}{k:Nat}{its:Array Value}{x:Value}{Q:Value->Shared->Prop}(g:s.heap.IsTupleIter i t k)(p:s.heap.IsTuple t its)(e:its[k]? = some x)
  (q:∀ h',h'.IsTupleIter i t (k+1)->Heap.SameBut i s.heap h'->Q x { s with heap:=h' }):wpAny (model prog w) A (Builtin.SmallTypes.nextOf (.ref i)) Q E s:=by
 obtain ⟨ob,g1,g2,g3⟩:=id g
 obtain ⟨tb,p1,p2,n,p3⟩:=p
 (unfold Builtin.SmallTypes.nextOf)
 refine Aa (AK (name:=Str.ofString "__next__") g.typeIs BU (AG BU g.typeIs F.entry_tuple_iterator_next (?_:wpAny _ _ (field (.ref i) 0 >>= _) _ _ _) (F.args_tuple_iterator_next_1 _)))
 refine Aa (Bv g1 g3 (x:=.ref t) rfl (?_:wpAny _ _ (if (Value.ref t==Value.none)=true then _ else _) _ _ _))
 have nn:¬ ((Value.ref t==Value.none)=true):=Am
 rw [if_neg nn]
 refine Aa (m:=field (.ref i) 1) (Bv g1 g3 (x:=.int k 0) rfl (?_:wpAny _ _ (seqItems? (.ref t) >>= _) _ _ _))
 refine Aa (Bm p1 p3 ?_)
 simp only [Int.toNat_natCast,e]
 refine Aa (Ba g1 g3 (by simp) (Ab ⟨x,rfl,Ab (q _ ⟨_,AS _ g1 (Obj.isFreed_of_fields (Obj.data_mapFields g3 _)),(Obj.cls_mapFields ..).trans g2,?_⟩ (AF ..))⟩))
 rw [Obj.data_mapFields g3]
 simp [rawInt]
theorem SE {i t:Addr}{k:Nat}{its:Array Value}{Q:Value->Shared->Prop}(hh:A.handled=none)(g:s.heap.IsTupleIter i t k)(p:s.heap.IsTuple t its)(e:its[k]? = none)
  (q:∀ h' b,Heap.ExtBut i s.heap h'->(∃ o,h'.get? b=some o∧o.cls=.type "StopIteration")->E (.ref b) { s with heap:=h' }):wpAny (model prog w) A (Builtin.SmallTypes.nextOf (.ref i)) Q E s:=by
 obtain ⟨ob,g1,g2,g3⟩:=id g
 obtain ⟨tb,p1,p2,n,p3⟩:=p
 (unfold Builtin.SmallTypes.nextOf)
 refine Aa (AK (name:=Str.ofString "__next__") g.typeIs BU (AG BU g.typeIs F.entry_tuple_iterator_next (?_:wpAny _ _ (field (.ref i) 0 >>= _) _ _ _) (F.args_tuple_iterator_next_1 _)))
 refine Aa (Bv g1 g3 (x:=.ref t) rfl (?_:wpAny _ _ (if (Value.ref t==Value.none)=true then _ else _) _ _ _))
 have nn:¬ ((Value.ref t==Value.none)=true):=Am
 rw [if_neg nn]
 refine Aa (m:=field (.ref i) 1) (Bv g1 g3 (x:=.int k 0) rfl (?_:wpAny _ _ (seqItems? (.ref t) >>= _) _ _ _))
 refine Aa (Bm p1 p3 ?_)
 simp only [Int.toNat_natCast,e]
 refine Aa (Bq (Aa (Ba g1 g3 (by simp) (?_:wpAny _ _ (newExc (.type "StopIteration") [] >>= _) _ _ _))))
 refine Aa ?_
 simp only [newExc,newTuple]
 refine Aa (AU (Aa (m:=firstArgMember _ _) (wpAny_of_eq (a:=Value.none) (by first|rfl|(simp only [firstArgMember];rfl)) (AU ?_ (by size_fits)))) (by size_fits))
 simp only [raiseNew]
 refine Aa (wpAny_handled ?_)
 first|rw [show A.in1.handled=none from hh]|rw [hh]
 exact Aa (Ab (wpAny_throw (q _ _ (((AF ..).extBut.push _).push _) ⟨_,Ai _ rfl,rfl⟩)))
def zTu (z TI TO i1 i2 l1 l2:Addr)(k:Nat)(h:Heap):Prop:=
 IsZip h z TI TO .none∧IsPair h TI (.ref i1) (.ref i2)∧(∃ a b,IsPair h TO a b)∧h.IsTupleIter i1 l1 k∧h.IsTupleIter i2 l2 k
theorem Rq {z TI TO i1 i2 l1 l2:Addr}{k:Nat}{xs ys:Array Value}{x y:Value}{Q:Value->Shared->Prop}(D:ZipApart z TI TO i1 i2 l1 l2)(g:zTu z TI TO i1 i2 l1 l2 k s.heap)
  (p1:s.heap.IsTuple l1 xs) (p2:s.heap.IsTuple l2 ys) (ex:xs[k]? = some x) (ey:ys[k]? = some y)
  (q:∀ h',IsZip h' z TI TO (rawInt s.heap.objs.size)->IsPair h' TO x y->h'.IsTupleIter i1 l1 (k+1)->h'.IsTupleIter i2 l2 (k+1)->IsPair h' s.heap.objs.size x y ->
   (∀ c o,c≠z->c≠TO->c≠i1->c≠i2->s.heap.get? c=some o->h'.get? c=some o)->Q (.ref s.heap.objs.size) { s with heap:=h' }) :
  wpAny (model prog w) A (Builtin.«zip.__next__» ⟨[.ref z],[]⟩) (λfin s'=>∃ v,fin=.done (.ret v)∧Q v s') E s:=by
 obtain ⟨g1,g2,⟨a,b,g3⟩,g4,g5⟩:=g
 refine (?_:wpAny _ _ (field (.ref z) 2 >>= _) _ _ _)
 refine Aa (Bv g1 rfl (x:=.bool false) rfl (?_:wpAny _ _ (field (.ref z) 3 >>= _) _ _ _))
 refine Aa (Bv g1 rfl (x:=.ref TI) rfl (Aa (Bm g2 rfl (?_:wpAny _ _ (Builtin.SmallTypes.ownedTupleIsFree (.ref z) >>= _) _ _ _))))
 refine Aa ?_
 (unfold Builtin.SmallTypes.ownedTupleIsFree)
 refine Aa (Bv g1 rfl (x:=.none) rfl (Ab ?_))
 simp only [if_true]
 refine Aa (Bq (Aa (Bv g1 rfl (x:=.ref TO) rfl (Aa (wpAny_setField_rec g1 (by simp) λq1 z1 b1=>?_)))))
 replace z1:IsZip q1 z TI TO .ellipsis:=z1
 refine Aa ?_
 simp only [List.zipIdx_cons,List.zipIdx_nil,List.forIn_cons,List.forIn_nil]
 refine Aa (Aa (wpAny_onRaise (?_:wpAny _ _ (Builtin.SmallTypes.nextOf (.ref i1) >>= _) _ _ _)))
 refine Aa (NW (g4.extBut b1.extBut D.i1z) (p1.extBut b1.extBut D.l1z) ex λq2 n1 b2=>Ab ?_)
 have o2:IsPair q2 TO a b:=b2.extBut _ _ D.TOi1 (b1.extBut _ _ D.TOz g3)
 refine Aa (Bm o2 rfl (Aa (wpAny_updateSeq_pair o2 λq3 o3 b3=>Aa (wpAny_letGo (Ab ?_)))))
 replace o3:IsPair q3 TO x b:=o3
 refine Aa (Aa (wpAny_onRaise (?_:wpAny _ _ (Builtin.SmallTypes.nextOf (.ref i2) >>= _) _ _ _)))
 refine Aa (NW (((g5.extBut b1.extBut D.i2z).extBut b2.extBut D.i12.symm).extBut b3.extBut D.TOi2.symm) (((p2.extBut b1.extBut D.l2z).extBut b2.extBut D.l2i1).extBut b3.extBut D.l2TO) ey λq4 n2 b4=>Ab ?_)
 have o4:IsPair q4 TO x b:=b4.extBut _ _ D.TOi2 o3
 refine Aa (Bm o4 rfl (Aa (wpAny_updateSeq_pair o4 λq5 o5 b5=>Aa (wpAny_letGo (Ab (Ab ?_))))))
 replace o5:IsPair q5 TO x y:=o5
 refine Aa (Bm o5 rfl (Aa (wpAny_newTuple ?_)))
 have sz:q5.objs.size=s.heap.objs.size:=by rw [b5.1,b4.1,b3.1,b2.1,b1.1]
 have z5:IsZip q5 z TI TO .ellipsis:=b5.extBut _ _ D.TOz.symm (b4.extBut _ _ D.i2z.symm (b3.extBut _ _ D.TOz.symm (b2.extBut _ _ D.i1z.symm z1)))
 have k5:∀ c o,c≠z->c≠TO->c≠i1->c≠i2->s.heap.get? c=some o->q5.get? c=some o:=λc o d1 d2 d3 d4 e=>b5.extBut _ _ d2 (b4.extBut _ _ d4 (b3.extBut _ _ d2 (b2.extBut _ _ d3 (b1.extBut _ _ d1 e))))
 have m1:q5.IsTupleIter i1 l1 (k+1):=((n1.extBut b3.extBut D.TOi1.symm).extBut b4.extBut D.i12).extBut b5.extBut D.TOi1.symm
 have m2:q5.IsTupleIter i2 l2 (k+1):=n2.extBut b5.extBut D.TOi2.symm
 have zl:q5.objs.size≠z:=Nat.ne_of_gt (An z5)
 refine (?_:wpAny _ _ (Builtin.SmallTypes.ownedTupleHandOut (.ref z) (.ref q5.objs.size) >>= _) _ _ _)
 refine Aa ?_
 (unfold Builtin.SmallTypes.ownedTupleHandOut)
 have z6:IsZip (q5.push { cls:=.type "tuple",data:=.seq #[x,y] }) z TI TO .ellipsis:=Ad _ z5
 refine Aa (wpAny_setField_rec z6 (by simp) λq7 z7 b7=>?_)
 replace z7:IsZip q7 z TI TO (rawInt q5.objs.size):=z7
 refine wpAny_setField_rec z7 (by simp) λq8 z8 b8=>?_
 replace z8:IsZip q8 z TI TO (rawInt q5.objs.size):=z8
 have up:∀ c o,c≠z->q5.get? c=some o->q8.get? c=some o:=λc o d e=>b8.extBut _ _ d (b7.extBut _ _ d (Ad _ e))
 have nw:IsPair q8 q5.objs.size x y:=b8.extBut _ _ zl (b7.extBut _ _ zl (Ai _ rfl))
 rw [sz] at z8 nw
 refine Ab ⟨_,rfl,?_⟩
 rw [sz]
 exact q q8 z8 (up _ _ D.TOz o5) (m1.at λo e=>up _ o D.i1z e) (m2.at λo e=>up _ o D.i2z e) nw λc o d1 d2 d3 d4 e=>up c o d1 (k5 c o d1 d2 d3 d4 e)
theorem RB {z TI TO i1 i2 l1 l2:Addr}{k:Nat}{xs ys:Array Value}{Q:PySem.Fin->Shared->Prop}(hh:A.handled=none)(D:ZipApart z TI TO i1 i2 l1 l2)(g:zTu z TI TO i1 i2 l1 l2 k s.heap)
  (p1:s.heap.IsTuple l1 xs) (p2:s.heap.IsTuple l2 ys) (en:xs[k]? = none∨ys[k]? = none)
  (q:∀ h' e,(∀ c o,c≠z->c≠TO->c≠i1->c≠i2->s.heap.get? c=some o->h'.get? c=some o)->(∃ o,h'.get? e=some o∧o.cls=.type "StopIteration")->E (.ref e) { s with heap:=h' }) :
  wpAny (model prog w) A (Builtin.«zip.__next__» ⟨[.ref z],[]⟩) Q E s:=by
 obtain ⟨g1,g2,⟨a,b,g3⟩,g4,g5⟩:=g
 refine (?_:wpAny _ _ (field (.ref z) 2 >>= _) _ _ _)
 refine Aa (Bv g1 rfl (x:=.bool false) rfl (?_:wpAny _ _ (field (.ref z) 3 >>= _) _ _ _))
 refine Aa (Bv g1 rfl (x:=.ref TI) rfl (Aa (Bm g2 rfl (?_:wpAny _ _ (Builtin.SmallTypes.ownedTupleIsFree (.ref z) >>= _) _ _ _))))
 refine Aa ?_
 (unfold Builtin.SmallTypes.ownedTupleIsFree)
 refine Aa (Bv g1 rfl (x:=.none) rfl (Ab ?_))
 simp only [if_true]
 refine Aa (Bq (Aa (Bv g1 rfl (x:=.ref TO) rfl (Aa (wpAny_setField_rec g1 (by simp) λq1 z1 b1=>?_)))))
 replace z1:IsZip q1 z TI TO .ellipsis:=z1
 refine Aa ?_
 simp only [List.zipIdx_cons,List.zipIdx_nil,List.forIn_cons,List.forIn_nil]
 refine Aa (Aa (wpAny_onRaise (?_:wpAny _ _ (Builtin.SmallTypes.nextOf (.ref i1) >>= _) _ _ _)))
 cases ex:xs[k]? with
 | none =>
  refine Aa (SE hh (g4.extBut b1.extBut D.i1z) (p1.extBut b1.extBut D.l1z) ex λq2 e b2 he=>?_)
  obtain ⟨oe,he1,he2⟩:=he
  have z2:IsZip q2 z TI TO .ellipsis:=b2 _ _ D.i1z.symm z1
  have ne:e≠z:=λu=>by subst u;rw [z2] at he1;cases he1;simp at he2
  exact wpAny_setField_rec z2 (by simp) λq3 _ b3=>q q3 e (λc o d1 _ d3 _ u=>b3.extBut _ _ d1 (b2 _ _ d3 (b1.extBut _ _ d1 u))) ⟨oe,b3.extBut _ _ ne he1,he2⟩
 | some x =>
  have ey:ys[k]? = none:=en.resolve_left λu=>by rw [ex] at u;cases u
  refine Aa (NW (g4.extBut b1.extBut D.i1z) (p1.extBut b1.extBut D.l1z) ex λq2 n1 b2=>Ab ?_)
  have o2:IsPair q2 TO a b:=b2.extBut _ _ D.TOi1 (b1.extBut _ _ D.TOz g3)
  refine Aa (Bm o2 rfl (Aa (wpAny_updateSeq_pair o2 λq3 o3 b3=>Aa (wpAny_letGo (Ab ?_)))))
  refine Aa (Aa (wpAny_onRaise (?_:wpAny _ _ (Builtin.SmallTypes.nextOf (.ref i2) >>= _) _ _ _)))
  refine Aa (SE hh (((g5.extBut b1.extBut D.i2z).extBut b2.extBut D.i12.symm).extBut b3.extBut D.TOi2.symm) (((p2.extBut b1.extBut D.l2z).extBut b2.extBut D.l2i1).extBut b3.extBut D.l2TO) ey λq4 e b4 he=>?_)
  obtain ⟨oe,he1,he2⟩:=he
  have z4:IsZip q4 z TI TO .ellipsis:=b4 _ _ D.i2z.symm (b3.extBut _ _ D.TOz.symm (b2.extBut _ _ D.i1z.symm z1))
  have ne:e≠z:=λu=>by subst u;rw [z4] at he1;cases he1;simp at he2
  exact wpAny_setField_rec z4 (by simp) λq5 _ b5=>q q5 e (λc o d1 d2 d3 d4 u=>b5.extBut _ _ d1 (b4 _ _ d4 (b3.extBut _ _ d2 (b2.extBut _ _ d3 (b1.extBut _ _ d1 u))))) ⟨oe,b5.extBut _ _ ne he1,he2⟩
theorem N9 {z TI TO i1 i2 l1 l2:Addr}{k:Nat}{xs ys:Array Value}{x y:Value}{Q:Option Value->Shared->Prop}(D:ZipApart z TI TO i1 i2 l1 l2)(g:zTu z TI TO i1 i2 l1 l2 k s.heap)
  (p1:s.heap.IsTuple l1 xs) (p2:s.heap.IsTuple l2 ys) (ex:xs[k]? = some x) (ey:ys[k]? = some y)
  (q:∀ h',IsZip h' z TI TO (rawInt s.heap.objs.size)->IsPair h' TO x y->h'.IsTupleIter i1 l1 (k+1)->h'.IsTupleIter i2 l2 (k+1)->IsPair h' s.heap.objs.size x y ->
   (∀ c o,c≠z->c≠TO->c≠i1->c≠i2->s.heap.get? c=some o->h'.get? c=some o)->Q (some (.ref s.heap.objs.size)) { s with heap:=h' }) :
  wpAny (model prog w) A (pyNext (.ref z)) Q E s:=by
 have ty:s.TypeIs (.ref z) "zip":=⟨_,g.1,rfl⟩
 unfold pyNext
 exact Aa (wpAny_attempt (AK (name:=Str.ofString "__next__") ty F.slot_zip_next (AG F.slot_zip_next ty F.entry_zip_next (Rq D g p1 p2 ex ey λh' a1 a2 a3 a4 a5 a6=>Ab (q h' a1 a2 a3 a4 a5 a6)) (F.args_zip_next_1 _))))
theorem Oe {z TI TO i1 i2 l1 l2:Addr}{k:Nat}{xs ys:Array Value}{Q:Option Value->Shared->Prop}(hh:A.handled=none)(D:ZipApart z TI TO i1 i2 l1 l2)(g:zTu z TI TO i1 i2 l1 l2 k s.heap)
  (p1:s.heap.IsTuple l1 xs) (p2:s.heap.IsTuple l2 ys) (en:xs[k]? = none∨ys[k]? = none)
  (q:∀ h',(∀ c o,c≠z->c≠TO->c≠i1->c≠i2->s.heap.get? c=some o->h'.get? c=some o)->Q none { s with heap:=h' }):wpAny (model prog w) A (pyNext (.ref z)) Q E s:=by
 have ty:s.TypeIs (.ref z) "zip":=⟨_,g.1,rfl⟩
 unfold pyNext
 refine Aa (wpAny_attempt (AK (name:=Str.ofString "__next__") ty F.slot_zip_next (AG F.slot_zip_next ty F.entry_zip_next (RB hh D g p1 p2 en λh' e hk he=>?_) (F.args_zip_next_1 _))))
 obtain ⟨o,ho,hc⟩:=he
 exact Aa (BF (T:="StopIteration") (b:=true) ⟨o,ho,hc⟩ isSubtype_stop (Ab (q _ hk)))
end
noncomputable abbrev zu1 (h:Heap) (l1:Addr):Heap:=h.push { cls:=.type "tuple_iterator",data:=.fields #[.ref l1,.int 0 0] }
abbrev zu2 (h:Heap) (l1 l2:Addr):Heap:=(zu1 h l1).push { cls:=.type "tuple_iterator",data:=.fields #[.ref l2,.int 0 0] }
abbrev zu3 (h:Heap) (l1 l2:Addr):Heap:=(zu2 h l1 l2).push { cls:=.type "tuple",data:=.seq #[.ref h.objs.size,.ref (zu1 h l1).objs.size] }
abbrev zu4 (h:Heap) (l1 l2:Addr):Heap:=(zu3 h l1 l2).push { cls:=.type "tuple",data:=.seq #[.none,.none] }
abbrev zu5 (h:Heap) (l1 l2:Addr):Heap:=(zu4 h l1 l2).push { cls:=.type "zip",data:=.fields #[.none,.bool false,.bool false,.ref (zu2 h l1 l2).objs.size,.ref (zu3 h l1 l2).objs.size] }
theorem Xz (l1 l2:Addr)(xs ys:Array Value):Meets (Builtin.«zip.__new__» ⟨[.type "zip",.ref l1,.ref l2],[]⟩) (λ_ R s=>s.heap.IsTuple l1 xs∧s.heap.IsTuple l2 ys∧R (.ok (.ret (.ref (zu4 s.heap l1 l2).objs.size))) { s with heap:=zu5 s.heap l1 l2 }):=
 .of_wp λprog w A R s h=>by
  obtain ⟨hp,gn,dr,tk,os⟩:=s
  obtain ⟨t1,t2,h⟩:=h
  have hsub:=sub_zip
  have u1:Heap.IsTuple (Shared.heap ⟨hp,gn,dr,tk,os⟩) l1 xs:=t1
  have u2:Heap.IsTuple (Shared.heap ⟨hp.push { cls:=.type "tuple_iterator",data:=.fields #[.ref l1,.int 0 0] },gn,dr,tk,os⟩) l2 ys:=Heap.IsTuple.push t2 _
  wp_walk using wpAny_pyIter_tuple u1,wpAny_pyIter_tuple u2
  exact ⟨_,rfl,h⟩
theorem UO {prog:Program}{w:World}{A:Around}{E:Value->Shared->Prop}{s:Shared}{l1 l2:Addr}{xs ys:Array Value}{Q:Value->Shared->Prop}(p1:s.heap.IsTuple l1 xs)(p2:s.heap.IsTuple l2 ys)
  (q:∀ h',zTu (s.heap.objs.size+4) (s.heap.objs.size+2) (s.heap.objs.size+3) s.heap.objs.size (s.heap.objs.size+1) l1 l2 0 h'->(∀ c o,s.heap.get? c=some o->h'.get? c=some o)->Q (.ref (s.heap.objs.size+4)) { s with heap:=h' }) :
  wpAny (model prog w) A (call (.type "zip") [.ref l1,.ref l2]) Q E s:=by
 refine callType_new F.called_zip (by decide) (F.typeCall_zip_2 _ _) (F.newCall_zip_2 _ _) (λobj=>F.args_object_init_3 obj _ _) F.entry_zip_new (Xz l1 l2 xs ys) ⟨p1,p2,?_⟩
 have n1:(zu1 s.heap l1).objs.size=s.heap.objs.size+1:=Bc ..
 have n2:(zu2 s.heap l1 l2).objs.size=s.heap.objs.size+2:=by rw [Bc,n1]
 have n3:(zu3 s.heap l1 l2).objs.size=s.heap.objs.size+3:=by rw [Bc,n2]
 have n4:(zu4 s.heap l1 l2).objs.size=s.heap.objs.size+4:=by rw [Bc,n3]
 have e5:(zu5 s.heap l1 l2).get? (zu4 s.heap l1 l2).objs.size=some _:=Ai _ rfl
 have e4:(zu4 s.heap l1 l2).get? (zu3 s.heap l1 l2).objs.size=some _:=Ai _ rfl
 have e3:(zu3 s.heap l1 l2).get? (zu2 s.heap l1 l2).objs.size=some _:=Ai _ rfl
 have e2:(zu2 s.heap l1 l2).get? (zu1 s.heap l1).objs.size=some _:=Ai _ rfl
 have e1:(zu1 s.heap l1).get? s.heap.objs.size=some _:=Ai _ rfl
 have w5:∀ c o,(zu4 s.heap l1 l2).get? c=some o->(zu5 s.heap l1 l2).get? c=some o:=λc o e=>Ad _ e
 have w4:∀ c o,(zu3 s.heap l1 l2).get? c=some o->(zu5 s.heap l1 l2).get? c=some o:=λc o e=>w5 c o (Ad _ e)
 have w3:∀ c o,(zu2 s.heap l1 l2).get? c=some o->(zu5 s.heap l1 l2).get? c=some o:=λc o e=>w4 c o (Ad _ e)
 have w2:∀ c o,(zu1 s.heap l1).get? c=some o->(zu5 s.heap l1 l2).get? c=some o:=λc o e=>w3 c o (Ad _ e)
 have w1:∀ c o,s.heap.get? c=some o->(zu5 s.heap l1 l2).get? c=some o:=λc o e=>w2 c o (Ad _ e)
 have f4:=w5 _ _ e4
 have f3:=w4 _ _ e3
 have f2:=w3 _ _ e2
 have f1:=w2 _ _ e1
 refine (?_:_∧_)
 rw [n2,n3,n4] at e5
 rw [n1,n2] at f3
 rw [n3] at f4
 rw [n1] at f2
 rw [n4]
 exact ⟨⟨_,e5,rfl⟩,q _ ⟨e5,f3,⟨_,_,f4⟩,⟨_,f1,rfl,rfl⟩,⟨_,f2,rfl,rfl⟩⟩ w1⟩
def Yh (K:PySem.W.Frag)(a b:Addr):It:=
 ⟨λi H=>∃ xs ys x y,SqT K H a xs∧SqT K H b ys∧xs[i]? = some x∧ys[i]? = some y,
  λi H v H'=>∃ T x y,v=.ref T∧H T=none∧H'=upd H T (.tup [x,y])∧(∀ xs,SqT K H a xs->xs[i]? = some x)∧∀ ys,SqT K H b ys->ys[i]? = some y,
  λi H=>∃ xs ys,SqT K H a xs∧SqT K H b ys∧(xs.length≤i∨ys.length≤i)⟩
theorem PU {P:Program}{w:World}{K:PySem.W.Frag}{elts:List Expr}{k:Nat}{pos:Pos}(z TI TO i1 i2 l1 l2:Addr)(D:ZipApart z TI TO i1 i2 l1 l2) :
  Turn P w K (.Tuple elts k pos) (Yh K l1 l2) [z,TI,TO,i1,i2] z (zTu z TI TO i1 i2 l1 l2) where
 mem:=by simp
 obj:=λi h st b hb=>by
  obtain ⟨h1,h2,⟨_,_,h3⟩,⟨o4,h4,_,d4⟩,⟨o5,h5,_,d5⟩⟩:=st
  have hb':b=z∨b=TI∨b=TO∨b=i1∨b=i2:=by simpa using hb
  rcases hb' with e|e|e|e|e<;>subst e
  ·exact ⟨_,h1,λv e=>by cases e⟩
  ·exact ⟨_,h2,λv e=>by cases e⟩
  ·exact ⟨_,h3,λv e=>by cases e⟩
  ·exact ⟨_,h4,λv e=>by rw [d4] at e;cases e⟩
  ·exact ⟨_,h5,λv e=>by rw [d5] at e;cases e⟩
 keep:=λi h h' st kk=>by
  obtain ⟨h1,h2,⟨a,b,h3⟩,h4,h5⟩:=st
  exact ⟨kk z (by simp) _ h1,kk TI (by simp) _ h2,⟨a,b,kk TO (by simp) _ h3⟩,h4.at λo e=>kk i1 (by simp) o e,h5.at λo e=>kk i2 (by simp) o e⟩
 item:=by
  intro X hP hw hK hc i pins s σ H E I hf st hg
  subst hP hw hK
  obtain ⟨xs,ys,x,y,hq1,hq2,hx,hy⟩:=hg
  obtain ⟨its1,rv1,p1,hz1⟩:=I.tuple hq1
  obtain ⟨its2,rv2,p2,hz2⟩:=I.tuple hq2
  obtain ⟨u1,hu1,ru1⟩:=rv1.get hx
  obtain ⟨u2,hu2,ru2⟩:=rv2.get hy
  obtain ⟨h1,h2,⟨a,b,h3⟩,h4,h5⟩:=st
  have D':=D
  refine N9 D ⟨h1,h2,⟨a,b,h3⟩,h4,h5⟩ (show s.heap.IsTuple l1 its1.toArray from p1) (show s.heap.IsTuple l2 its2.toArray from p2) (x:=u1) (y:=u2) (by simpa using hu1) (by simpa using hu2) λh' a1 a2 a3 a4 a5 hk=>?_
  have lt:∀ {c:Addr} {o:Obj},s.heap.get? c=some o->c≠s.heap.objs.size:=λe=>AA (An e)
  refine ⟨_,rfl,wpAny_letOwnedTupleGo_zip a1 λh'' b1 sb=>?_⟩
  have nT:s.heap.objs.size≠z:=Ne.symm (lt h1)
  have kk:∀ b o,b∉[z,TI,TO,i1,i2]->s.heap.get? b=some o->h''.get? b=some o:=λb o hb e=>by
   simp only [Ah,Au,AY,not_or] at hb
   exact (sb.2 b hb.1).trans (hk b o hb.1 hb.2.2.1 hb.2.2.2.1 hb.2.2.2.2 e)
  have I1:Inv X pins σ H { s with heap:=h'',toks:=s.toks }:=I.turnedL kk hf
  have hn:H s.heap.objs.size=none:=I.hok.fresh (Aj _)
  have fT:Hv X pins H s.heap.objs.size:=I.fpOk (Aj _) hn
  have I2:Inv X pins σ (upd H s.heap.objs.size (.tup [x,y])) { s with heap:=h'',toks:=s.toks }:=I1.lay fT I.sz
   ⟨⟨by show 2≤sizeLine;decide,_,(sb.2 _ nT).trans a5,rfl⟩,[u1,u2],.cons ru1 (.cons ru2 .nil),⟨_,(sb.2 _ nT).trans a5,rfl,_,rfl⟩⟩
  refine ⟨.ref s.heap.objs.size,_,I2,rfl,⟨_,x,y,rfl,hn,rfl,λxs' hx'=>by rw [I.tuple_inj hx' hq1];exact hx,λys' hy'=>by rw [I.tuple_inj hy' hq2];exact hy⟩,?_,λb hb=>?_⟩
  ·exact ⟨b1,(sb.2 _ D.TIz).trans (hk _ _ D.TIz D.TITO D.TIi1 D.TIi2 h2),⟨_,_,(sb.2 _ D.TOz).trans a2⟩,a3.at λo e=>(sb.2 _ D.i1z).trans e,a4.at λo e=>(sb.2 _ D.i2z).trans e⟩
  ·have hb':b=z∨b=TI∨b=TO∨b=i1∨b=i2:=by simpa using hb
   have ne:b≠s.heap.objs.size:=by
    obtain ⟨o4,e4,_⟩:=h4
    obtain ⟨o5,e5,_⟩:=h5
    rcases hb' with e|e|e|e|e<;>subst e
    ·exact lt h1
    ·exact lt h2
    ·exact lt h3
    ·exact lt e4
    ·exact lt e5
   rw [CK ne]
   exact (hf b hb).1
 done:=by
  intro X hP hw hK hc i pins s σ H E I hf st hg
  subst hP hw hK
  obtain ⟨xs,ys,hq1,hq2,hend⟩:=hg
  obtain ⟨its1,rv1,p1,hz1⟩:=I.tuple hq1
  obtain ⟨its2,rv2,p2,hz2⟩:=I.tuple hq2
  obtain ⟨h1,h2,⟨a,b,h3⟩,h4,h5⟩:=st
  have n1:=rv1.length
  have n2:=rv2.length
  refine Oe (I.ok.hd hc) D ⟨h1,h2,⟨a,b,h3⟩,h4,h5⟩ (show s.heap.IsTuple l1 its1.toArray from p1) (show s.heap.IsTuple l2 its2.toArray from p2) (by
   rcases hend with e|e
   ·exact .inl (by simp;ext)
   ·exact .inr (by simp;ext)) λh' hk=>⟨rfl,I.turnedL (t':=s.toks) (λb o hb e=>?_) hf⟩
  simp only [Ah,Au,AY,not_or] at hb
  exact hk b o hb.1 hb.2.2.1 hb.2.2.2.1 hb.2.2.2.2 e
 self:=λA i s Q E st h=>wpAny_pyIter_zip st.1 h
def Yb (K:PySem.W.Frag)(ta:TA):TI:=fun σ H R=>ta σ H λvs H1=>∃ a b,vs=[.ref a,.ref b]∧(∃ xs,SqT K H1 a xs)∧(∃ ys,SqT K H1 b ys)∧R (Yh K a b) H1
theorem Uj {X:Cx}{a b:Expr}{ta:TA}{p pos:Pos}{elts:List Expr}{k:Nat}{tp:Pos}(hg:Gl X "zip")(hm:X.mg "zip"=none)(hz:bootBuiltins "zip"=some (.type "zip"))(ha:PA X [a,b] ta)(hs:starEach [a,b] X.env=[(false,eval a X.env),(false,eval b X.env)]:=by rfl)(hs2:starEach [b] X.env=[(false,eval b X.env)]:=by rfl) :
  PI X (.Tuple elts k tp) (.Call (.Name "zip" p) [a,b] [] pos) (Yb X.K ta):=by
 intro pins s σ H R I h
 refine Call_ (HI I hg hm hz (BB (thn (ha pos pins s σ H _ I h) λus s1 ⟨vs,H1,I1,r1,q1⟩=>?_) (by rw [hs,hs2]) (by rw [hs2];rfl)))
 obtain ⟨a1,a2,e,⟨xs,hx⟩,⟨ys,hy⟩,q⟩:=q1
 subst e
 obtain ⟨u1,u2,rfl,ra,rb⟩:=vals2 r1
 cases ra
 cases rb
 obtain ⟨its1,rv1,p1,_⟩:=I1.tuple hx
 obtain ⟨its2,rv2,p2,_⟩:=I1.tuple hy
 have lt1:a1<s1.heap.objs.size:=by obtain ⟨o,e,_⟩:=p1;exact An e
 have lt2:a2<s1.heap.objs.size:=by obtain ⟨o,e,_⟩:=p2;exact An e
 refine UO (show s1.heap.IsTuple a1 its1.toArray from p1) (show s1.heap.IsTuple a2 its2.toArray from p2) λh' zt hk=>?_
 refine wpAny_pyIter_zip zt.1 ?_
 refine ⟨s1.heap.objs.size+4,[s1.heap.objs.size+4,s1.heap.objs.size+2,s1.heap.objs.size+3,s1.heap.objs.size,s1.heap.objs.size+1],_,_,H1,rfl,I1.kept (t':=s1.toks) λb o e=>hk b o e,
  PU _ _ _ _ _ a1 a2 ?_,zt,λb hb=>?_,q⟩
 ·exact L9 _ _ _ lt1 lt2
 ·have hle:s1.heap.objs.size≤b:=by
   have hb':b=s1.heap.objs.size+4∨b=s1.heap.objs.size+2∨b=s1.heap.objs.size+3∨b=s1.heap.objs.size∨b=s1.heap.objs.size+1:=by simpa using hb
   rcases hb' with rfl|rfl|rfl|rfl|rfl<;>simp
  exact I1.fpOk hle (I1.hok.fresh hle)
section
variable {X:Cx} {K:Zc} {th:List Addr} {mu:Sto} {H:Hp}
noncomputable def QS (ds:List D):Option (List D×List D):=match ds with
 | [.tup xs,.tup ys]=>some (xs,ys)
 | _=>none
theorem QK {ds:List D}{p:List D×List D}(h:QS ds=some p):ds=[.tup p.1,.tup p.2]:=by
 unfold QS at h
 split at h
 ·cases h;rfl
 ·cases h
def Zd (a:Exs):Ix:=λro mu=>bM (a ro mu) λds m1=>(QS ds).map λp=>((FV p.1 p.2,none),m1)
theorem Ra {a b:Expr}{m:Exs}{p pos:Pos}{elts:List Expr}{k:Nat}{tp:Pos}(hm:X.mg "zip"=none)(ha:SVA X [a,b] m)(hg:Gl X "zip":=by rfl)(hs:starEach [a,b] X.env=[(false,eval a X.env),(false,eval b X.env)]:=by rfl)(hs2:starEach [b] X.env=[(false,eval b X.env)]:=by rfl) :
  SVI X (.Tuple elts k tp) (.Call (.Name "zip" p) [a,b] [] pos) (Zd m):=⟨PI.weak (Uj hg hm PyProof.Rows.boot_zip ha.1 hs hs2) λst H R h=>by
 obtain ⟨th,mu,ro,so,en,t⟩:=h
 refine ⟨th,mu,ro,so,en,t.bind.mono λds th1 mu1 H1 e1 s1 t1 vs rvs=>?_⟩
 cases q:QS ds with
 | none=>rw [q] at t1;exact t1.no.elim
 | some pr =>
  rw [q] at t1
  rw [QK q] at rvs
  obtain ⟨xs,ys⟩:=pr
  obtain ⟨x,y,rfl,rx,ry⟩:=Ht rvs
  unfold Rep at rx ry
  obtain ⟨a1,us,rfl,h1,l1,z1⟩:=rx
  obtain ⟨a2,ws,rfl,h2,l2,z2⟩:=ry
  refine ⟨a1,a2,rfl,⟨us,h1⟩,⟨ws,h2⟩,t1.ret s1 _ ⟨?_,λth' mu' H' e s' go i d ed=>?_,λth' mu' H' e s' go=>?_⟩⟩
  ·show (FV xs ys).length≤sizeLine
   unfold FV
   rw [Ac,List.length_zip]
   exact AN (Nat.min_le_left _ _) z1
  ·have g1:=e.sqT s1.out h1
   have g2:=e.sqT s1.out h2
   have ed':(FV xs ys)[i]? = some d:=ed
   unfold FV at ed'
   rw [Ap] at ed'
   cases q3:(xs.zip ys)[i]? with
   | none=>rw [q3] at ed';cases ed'
   | some pq =>
    rw [q3] at ed'
    have hd:D.tup [pq.1,pq.2]=d:=by simpa using ed'
    subst hd
    obtain ⟨hx,hy⟩:=List.getElem?_zip_eq_some.mp q3
    obtain ⟨v1,ev1,rv1⟩:=(l1.ext e s1.out).get hx
    obtain ⟨v2,ev2,rv2⟩:=(l2.ext e s1.out).get hy
    refine ⟨⟨us,ws,v1,v2,g1,g2,ev1,ev2⟩,λv H2 y=>?_⟩
    obtain ⟨T,x',y',rfl,hT,rfl,f1,f2⟩:=y
    have ex:=f1 us g1
    have ey:=f2 ws g2
    rw [ev1] at ex
    rw [ev2] at ey
    cases ex
    cases ey
    exact ⟨.new hT _,s'.new hT _,Rep.newTup s' hT (.cons rv1 (.cons rv2 .nil)) (by show 2≤sizeLine;decide)⟩
  ·have g1:=e.sqT s1.out h1
   have g2:=e.sqT s1.out h2
   refine ⟨us,ws,g1,g2,?_⟩
   show us.length≤(FV xs ys).length∨ws.length≤(FV xs ys).length
   unfold FV
   rw [Ac,List.length_zip,l1.len,l2.len]
   dsimp only
   ext⟩
noncomputable def orI (m m':Ix):Ix:=λro mu=>match m ro mu with|some r=>some r|none=>m' ro mu
theorem SVI.or {tg e:Expr}{m m':Ix}(h:SVI X tg e m)(h':SVI X tg e m'):SVI X tg e (orI m m'):=⟨λpins s st H R I q=>by
 obtain ⟨th,mu,ro,so,en,t⟩:=q
 unfold orI at t
 cases c:m ro mu with
 | some p =>
  refine h.r pins s st H R I ⟨th,mu,ro,so,en,?_⟩
  rw [c];simpa only [c] using t
 | none =>
  refine h'.r pins s st H R I ⟨th,mu,ro,so,en,?_⟩
  simpa only [c] using t⟩
def VS (a:Exs):Ix:=orI (iZp a) (Zd a)
theorem Q4 {a b:Expr}{m:Exs}{p pos:Pos}{elts:List Expr}{k:Nat}{tp:Pos}(hm:X.mg "zip"=none)(ha:SVA X [a,b] m)(hg:Gl X "zip":=by rfl)(hs:starEach [a,b] X.env=[(false,eval a X.env),(false,eval b X.env)]:=by rfl)(hs2:starEach [b] X.env=[(false,eval b X.env)]:=by rfl) :
  SVI X (.Tuple elts k tp) (.Call (.Name "zip" p) [a,b] [] pos) (VS m):=SVI.or (TJ hm ha hg hs hs2) (Ra hm ha hg hs hs2)
end
mutual
noncomputable def EE (n:Nat):D->Bool
 | .ref k=>decide (k<n)
 | .tup ds=>FE n ds
 | .lst ds=>FE n ds
 | .dct ks ds=>FE n ks&&FE n ds
 | .set ds=>FE n ds
 | _=>true
noncomputable def FE (n:Nat):List D->Bool
 | []=>true
 | d::ds=>EE n d&&FE n ds
end
def Mj (n:Nat):MO->Bool
 | .lst ds=>FE n ds
 | .dct ks ds=>FE n ks&&FE n ds
noncomputable def JY (g:D->Option D):List D->Option (List D)
 | []=>some []
 | d::ds=>match g d,JY g ds with
  | some d',some ds'=>some (d'::ds')
  | _,_=>none
noncomputable def frz (n:Nat)(mu:Sto):Nat->D->Option D
 | 0,d=>if EE n d=true then some d else none
 | f+1,d=>if EE n d=true then some d else match d with
  | .ref k=>match mu[k]? with
   | some (.lst ds)=>(JY (frz n mu f) ds).map .lst
   | some (.dct ks ds)=>if FE n ks=true then (JY (frz n mu f) ds).map (.dct ks) else none
   | none=>none
  | .tup ds=>(JY (frz n mu f) ds).map .tup
  | .lst ds=>(JY (frz n mu f) ds).map .lst
  | _=>none
def LJ (mu m1:Sto)(d:D):Rs D:=match frz mu.length m1 3 d with
 | some d'=>if (m1.take mu.length).all (Mj mu.length)=true then some (d',m1.take mu.length) else none
 | none=>none
def fnG (n:Nat)(m:Sx):Fn:=λds mu=>bM (m (ds.map some++List.replicate (n-ds.length) none) mu) λp m1=>match p.1 with
 | .rt d=>LJ mu m1 d
 | .nx=>LJ mu m1 .non
 | _=>none
section
variable {K:Zc} {th th1 more:List Addr} {H:Hp} {mu:Sto}
mutual
theorem LP (pre:th1=th++more):∀ {d:D} {v:V},EE th.length d=true->Rep K th1 H d v->Rep K th H d v
 | .non,_,_,h=>h
 | .bl _,_,_,h=>h
 | .int _,_,_,h=>h
 | .str _,_,_,h=>h
 | .tup ds,_,l,h=>by
  unfold EE at l
  unfold Rep at h ⊢
  obtain ⟨a,vs,q,h1,h2,z⟩:=h
  exact ⟨a,vs,q,h1,El pre l h2,z⟩
 | .lst ds,_,l,h=>by
  unfold EE at l
  unfold Rep at h ⊢
  obtain ⟨a,vs,q,h1,h2,z⟩:=h
  exact ⟨a,vs,q,h1.imp (λw=>⟨λz=>w.1 (by rw [pre];exact A1 _ z),w.2⟩) id,El pre l h2,z⟩
 | .dct ks ds,_,l,h=>by
  unfold EE at l
  rw [Ae] at l
  unfold Rep at h ⊢
  obtain ⟨a,xs,q,n,h1,h2,h3,h4,h5⟩:=h
  exact ⟨a,xs,q,λz=>n (by rw [pre];exact A1 _ z),h1,h2,El pre l.1 h3,El pre l.2 h4,h5⟩
 | .set ds,_,l,h=>by
  unfold EE at l
  unfold Rep at h ⊢
  obtain ⟨a,us,vs,q,n,h1,h2,h3,h4⟩:=h
  exact ⟨a,us,vs,q,λz=>n (by rw [pre];exact A1 _ z),h1,h2,El pre l h3,h4⟩
 | .ref k,_,l,h=>by
  unfold EE at l
  rw [Ak] at l
  unfold Rep at h ⊢
  obtain ⟨a,q,h1⟩:=h
  rw [pre,Av l] at h1
  exact ⟨a,q,h1⟩
theorem El (pre:th1=th++more):∀ {ds:List D} {vs:List V},FE th.length ds=true->RepL K th1 H ds vs->RepL K th H ds vs
 | [],_,_,h=>by rw [h.inv0];exact .nil
 | d::ds,_,l,h=>by
  unfold FE at l
  rw [Ae] at l
  obtain ⟨v,r,rfl,h1,h2⟩:=h.inv
  exact .cons (LP pre l.1 h1) (El pre l.2 h2)
end
theorem He {g:D->Option D}(hg:∀ d d' v,g d=some d'->Rep K th1 H d v->Rep K th H d' v):∀ {ds ds':List D} {vs:List V},JY g ds=some ds'->RepL K th1 H ds vs->RepL K th H ds' vs∧ds'.length=ds.length
 | [],ds',vs,e,h=>by cases e;rw [h.inv0];exact ⟨.nil,rfl⟩
 | d::ds,ds',vs,e,h=>by
  obtain ⟨v,r,rfl,h1,h2⟩:=h.inv
  unfold JY at e
  split at e
  ·rename_i d2 ds2 e1 e2
   cases e
   obtain ⟨a,b⟩:=He hg e2 h2
   exact ⟨.cons (hg _ _ _ e1 h1) a,by simp [b]⟩
  ·cases e
theorem OC (so:StoOk K th1 mu H)(pre:th1=th++more):∀ (f:Nat) (d d':D) (v:V),frz th.length mu f d=some d'->Rep K th1 H d v->Rep K th H d' v
 | 0,d,d',v,e,h=>by
  unfold frz at e
  split at e
  ·rename_i c;cases e;exact LP pre c h
  ·cases e
 | f+1,d,d',v,e,h=>by
  have ih:=OC so pre f
  unfold frz at e
  split at e
  ·rename_i c;cases e;exact LP pre c h
  ·rename_i c
   have kp:∀ {k:Nat} {a:Addr},¬ k<th.length->th1[k]? = some a->a∉th:=λ{k a} hk ha z=>by
    obtain ⟨i,hi,ei⟩:=List.mem_iff_getElem.mp z
    have:th1[i]? = some a:=by rw [pre,Av hi,Ay hi,ei]
    have:=Vz so.nd this ha
    ext
   split at e
   ·rename_i k
    have hk:¬ k<th.length:=by unfold EE at c;simpa using c
    unfold Rep at h
    obtain ⟨a,rfl,ha⟩:=h
    split at e
    ·rename_i ds em
     cases q:JY (frz th.length mu f) ds with
     | none=>rw [q] at e;cases e
     | some ds' =>
      rw [q] at e
      cases e
      obtain ⟨vs,h1,h2,h3⟩:=so.at' k a _ ha em
      obtain ⟨r1,r2⟩:=He ih q h2
      unfold Rep
      exact ⟨a,vs,rfl,.inl ⟨kp hk ha,.inl h1⟩,r1,by rw [r2];exact h3⟩
    ·rename_i ks ds em
     split at e
     ·rename_i lk
      cases q:JY (frz th.length mu f) ds with
      | none=>rw [q] at e;cases e
      | some ds' =>
       rw [q] at e
       cases e
       obtain ⟨xs,h1,h2,h3,h4,h5⟩:=so.at' k a _ ha em
       obtain ⟨r1,r2⟩:=He ih q h4
       unfold Rep
       exact ⟨a,xs,rfl,kp hk ha,h1,h2,El pre lk h3,r1,h5⟩
     ·cases e
    ·cases e
   ·rename_i ds
    cases q:JY (frz th.length mu f) ds with
    | none=>rw [q] at e;cases e
    | some ds' =>
     rw [q] at e
     cases e
     unfold Rep at h ⊢
     obtain ⟨a,vs,rfl,h1,h2,h3⟩:=h
     obtain ⟨r1,r2⟩:=He ih q h2
     exact ⟨a,vs,rfl,h1,r1,by rw [r2];exact h3⟩
   ·rename_i ds
    cases q:JY (frz th.length mu f) ds with
    | none=>rw [q] at e;cases e
    | some ds' =>
     rw [q] at e
     cases e
     unfold Rep at h ⊢
     obtain ⟨a,vs,rfl,h1,h2,h3⟩:=h
     obtain ⟨r1,r2⟩:=He ih q h2
     exact ⟨a,vs,rfl,h1.imp (λw=>⟨λz=>w.1 (by rw [pre];exact A1 _ z),w.2⟩) id,r1,by rw [r2];exact h3⟩
   ·cases e
theorem Tv (so:StoOk K th1 mu H)(pre:th1=th++more)(hl:(mu.take th.length).all (Mj th.length)=true):StoOk K th (mu.take th.length) H:=by
 have len:th.length≤mu.length:=by rw [← so.len,pre,Ag];ext
 refine ⟨by rw [AZ];ext,?_,λk a o e1 e2=>?_⟩
 ·have:=so.nd
  rw [pre] at this
  exact (BL.mp this).1
 ·have hk:=(Af.mp e1).1
  rw [Bp hk] at e2
  have q:=so.at' k a o (by rw [pre,Av hk];exact e1) e2
  have lo:=Ar.mp hl o (Al (by rw [Bp hk];exact e2))
  cases o with
  | lst ds=>obtain ⟨vs,q1,q2,z⟩:=q;exact ⟨vs,q1,El pre lo q2,z⟩
  | dct ks ds =>
   unfold Mj at lo
   rw [Ae] at lo
   obtain ⟨xs,q1,q2,q3,q4,z⟩:=q
   exact ⟨xs,q1,q2,El pre lo.1 q3,El pre lo.2 q4,z⟩
end
theorem N0 {P:Program}{w:World}{K:PySem.W.Frag}{mg:Str->Option Value}{base:Heap}{x qual:Str}{st:Stmt}{f:Addr}{fd:FuncData}{N ps:List Str}{k:Nat}{m:Sx}(n j:Nat)(F:Fun K x qual st f fd)(S:CG N ps (B7 st))(hn:N.length=n)(hj:ps.length=j)
  (hbody:∀ (cdv:Value) (A:Around) (outer:List Env) (s:Shared) (H:Hp) (E:XK),Room k (A.deeper (envOfC qual (B7 st) s.heap.objs.size f cdv)) ->
   SVB (Ka CX0 P w K mg base N qual (B7 st) f cdv A outer s H E).nox (Er st) m):D4 P w K mg base CX0 (k+1) f fd ps (spF ⟨K,P,w⟩ (fnG n m) j):=by
 subst hn hj
 refine F.ok S (λvs H Q E h=>?_) (λcdv A outer s H vs Q E hr h=>?_)
 ·obtain ⟨th,mu,ds,_,r,hl,_⟩:=h
  rw [r.len]
  exact hl
 ·obtain ⟨th,mu,ds,so,r,hl,t⟩:=h
  refine ⟨_,(hbody cdv A outer s H E hr).r,?_⟩
  obtain ⟨d0,mu0,e0,q0⟩:=id t
  obtain ⟨p,m1,e1,e2⟩:=EW e0
  refine ⟨th,mu,_,so,IQ r,p,m1,e1,λth1 H1 x1 s1 st' en'=>?_⟩
  obtain ⟨fl,ro'⟩:=p
  obtain ⟨more,pre⟩:=x1.pre
  have done:∀ (d:D) (v:V),LJ mu m1 d=some (d0,mu0)->Rep ⟨K,P,w⟩ th1 H1 d v->Q v H1:=λd v ec rv=>by
   unfold LJ at ec
   split at ec
   ·rename_i d' ef
    split at ec
    ·rename_i hl
     cases ec
     rw [← so.len] at ef hl q0
     exact q0 th H1 ⟨⟨[],by simp⟩,λ_ _ n _=>n,x1.keep⟩ (Tv s1 pre hl) v (OC s1 pre 3 d d0 v ef rv)
    ·cases ec
   ·cases ec
  cases fl with
  | rt d=>exact λv rv=>done d v e2 rv
  | nx=>exact done .non .non e2 (by unfold Rep;rfl)
  | bk=>cases e2
  | ct=>cases e2
def DAt (h:Heap)(d:Addr)(es:Array DictEntry)(ep:Nat):Prop:=∃ o,h.get? d=some o∧o.data=.dict es ep
def DIt (T:String)(d I:Addr)(es:Array DictEntry)(ep i:Nat)(h:Heap):Prop:=DAt h d es ep∧∃ o,h.get? I=some o∧o.cls=.type T∧o.data=.fields #[.ref d,.int i 0,.int es.size 0,.int ep 0]
section
variable {prog:Program} {w:World} {A:Around} {E:Value->Shared->Prop} {s:Shared}
theorem DIt.ty {T:String}{d I:Addr}{es:Array DictEntry}{ep i:Nat}(g:DIt T d I es ep i s.heap):s.TypeIs (.ref I) T:=let ⟨_,o,a,b,_⟩:=g;⟨o,a,b⟩
theorem DIt.step {T:String}{d I:Addr}{es:Array DictEntry}{ep i:Nat}{h:Heap}(ne:d≠I)(g:DIt T d I es ep i h):DIt T d I es ep (i+1) (h.update I (Obj.mapFields (·.setIfInBounds 1 (rawInt ((i:Int)+1))))):=by
 obtain ⟨⟨od,d1,d2⟩,o,a,b,c⟩:=g
 exact ⟨⟨od,((AF ..).2 d ne).trans d1,d2⟩,_,AS _ a (Obj.isFreed_of_fields (Obj.data_mapFields c _)),(Obj.cls_mapFields ..).trans b,by rw [Obj.data_mapFields c];simp [rawInt]⟩
theorem QB {d I:Addr}{es:Array DictEntry}{ep i:Nat}{Q:Option Value->Shared->Prop}(ne:d≠I)(g:DIt "dict_keyiterator" d I es ep i s.heap)(hi:i<es.size)
  (q:∀ h',DIt "dict_keyiterator" d I es ep (i+1) h'->Heap.SameBut I s.heap h'->Q (some es[i].key) { s with heap:=h' }):wpAny (model prog w) A (pyNext (.ref I)) Q E s:=by
 obtain ⟨⟨od,d1,d2⟩,o,a,b,c⟩:=id g
 unfold pyNext
 refine Aa (wpAny_attempt (AK (name:=Str.ofString "__next__") g.ty Bo (AG Bo g.ty F.entry_dict_keyiterator_next ?_ (F.args_dict_keyiterator_next_1 _))))
 refine Aa (Ab (Aa (Aa ?_)))
 refine Aa (BI g.ty (Ab (Aa (wpAny_fieldsOf a c ?_))))
 simp only [show Builtin.Dict_items.ownsTuple "dict_keyiterator"=false by decide,AR,Bu]
 refine (?_:wpAny _ _ (if (Value.ref d==Value.none)=true then _ else _) _ _ s)
 rw [if_neg (show ¬ ((Value.ref d==Value.none)=true) from Am)]
 refine Aa (Ab (Aa (Bi d1 d2 ?_)))
 rw [if_neg (by simp)]
 refine Aa (Ab (Aa (Bn d1 d2 ?_)))
 rw [if_neg (by simp)]
 refine Ab ?_
 simp only [show ¬ ((i:Int)<0) by ext,Bu,Int.toNat_natCast,Ax hi]
 refine Aa (Aa (BI g.ty (Ab ?_)))
 refine Aa (wpAny_isOneOf_keyiter g.ty ?_)
 refine (?_:wpAny _ _ (setField (.ref I) 1 (rawInt ((i:Int)+1)) >>= _) _ _ s)
 have g':=g.step ne
 refine Aa (Ba a c (by simp) (Aa (AH ?_)))
 generalize hu:s.heap.update I (Obj.mapFields (·.setIfInBounds 1 (rawInt ((i:Int)+1))))=h2 at g' ⊢
 have sb:Heap.SameBut I s.heap h2:=by rw [← hu];exact AF ..
 have t2:=DIt.ty (s:={ s with heap:=h2 }) g'
 refine Aa (wpAny_isOneOf_keyiter (s:={ s with heap:=h2 }) t2 ?_)
 refine (?_:wpAny _ _ (pure es[i].key) _ _ _)
 exact Ab (Ab ⟨_,rfl,Ab (q _ g' sb)⟩)
theorem Rc {d I:Addr}{es:Array DictEntry}{ep:Nat}{Q:Option Value->Shared->Prop}(hh:A.handled=none)(g:DIt "dict_keyiterator" d I es ep es.size s.heap)
  (q:∀ h',(∀ c o,c≠I->s.heap.get? c=some o->h'.get? c=some o)->Q none { s with heap:=h' }):wpAny (model prog w) A (pyNext (.ref I)) Q E s:=by
 obtain ⟨⟨od,d1,d2⟩,o,a,b,c⟩:=id g
 unfold pyNext
 refine Aa (wpAny_attempt (AK (name:=Str.ofString "__next__") g.ty Bo (AG Bo g.ty F.entry_dict_keyiterator_next ?_ (F.args_dict_keyiterator_next_1 _))))
 refine Aa (Ab (Aa (Aa ?_)))
 refine Aa (BI g.ty (Ab (Aa (wpAny_fieldsOf a c ?_))))
 simp only [show Builtin.Dict_items.ownsTuple "dict_keyiterator"=false by decide,AR,Bu]
 refine (?_:wpAny _ _ (if (Value.ref d==Value.none)=true then _ else _) _ _ s)
 rw [if_neg (show ¬ ((Value.ref d==Value.none)=true) from Am)]
 refine Aa (Ab (Aa (Bi d1 d2 ?_)))
 rw [if_neg (by simp)]
 refine Aa (Ab (Aa (Bn d1 d2 ?_)))
 rw [if_neg (by simp)]
 refine Ab ?_
 simp only [show ¬ ((es.size:Int)<0) by ext,Bu,Int.toNat_natCast,Bb (Aj es.size)]
 refine Aa (Aa (BI g.ty (Ab ?_)))
 refine (?_:wpAny _ _ (setField (.ref I) 0 .none >>= _) _ _ s)
 refine Aa (Ba a c (by simp) ?_)
 refine Fv (I:=I) hh λh' e z1 z2=>?_
 obtain ⟨oe,he,hc⟩:=z2
 exact Aa (BF (T:="StopIteration") (b:=true) ⟨oe,he,hc⟩ isSubtype_stop (Ab (q h' λc o hc z=>z1 c o (((AF ..).2 c hc).trans z))))
theorem KD (hh:A.handled=none){d I:Addr}{es:Array DictEntry}{ep:Nat}(ne:d≠I):Walks prog w A I [I,d] [I] es.size (λi v=>∃ e,es[i]? = some e∧e.key=v) (λi h=>DIt "dict_keyiterator" d I es ep i h) where
 sub:=λb hb=>by rw [Ao.mp hb];simp
 frame:=λ_ h1 h2 st hk=>let ⟨⟨od,d1,d2⟩,o,a,b⟩:=st;⟨⟨od,hk d (by simp) _ d1,d2⟩,o,hk I (by simp) _ a,b⟩
 item:=λk s R E hi st hQ=>QB ne st hi λh' g' sb=>hQ _ h' s.toks ⟨_,Ax hi,rfl⟩ g' λb o hb z=>(sb.2 b (by simpa using hb)).trans z
 done:=λs R E st hQ=>Rc hh st λh' k=>hQ h' s.toks λb o hb z=>k b o (by simpa using hb) z
 self:=λ_ s R E st hQ=>by
  refine wpAny_pyIter_slot st.ty F.slot_dict_keyiterator_iter (AG F.slot_dict_keyiterator_iter st.ty F.entry_dict_keyiterator_iter ?_ (F.args_dict_keyiterator_iter_1 _))
  refine (?_:wpAny _ _ (ret (.ref I)) _ _ s)
  exact Ab ⟨_,rfl,"dict_keyiterator",_,st.ty,Bo.lookup,hQ⟩
theorem RR {d I:Addr}{es:Array DictEntry}{ep i:Nat}{Q:Option Value->Shared->Prop}(ne:d≠I)(g:DIt "dict_valueiterator" d I es ep i s.heap)(hi:i<es.size)
  (q:∀ h',DIt "dict_valueiterator" d I es ep (i+1) h'->Heap.SameBut I s.heap h'->Q (some es[i].val) { s with heap:=h' }):wpAny (model prog w) A (pyNext (.ref I)) Q E s:=by
 obtain ⟨⟨od,d1,d2⟩,o,a,b,c⟩:=id g
 unfold pyNext
 refine Aa (wpAny_attempt (AK (name:=Str.ofString "__next__") g.ty Bg (AG Bg g.ty F.entry_dict_valueiterator_next ?_ (F.args_dict_valueiterator_next_1 _))))
 refine Aa (Ab (Aa (Aa ?_)))
 refine Aa (BJ g.ty (Ab (Aa (wpAny_fieldsOf a c ?_))))
 simp only [show Builtin.Dict_items.ownsTuple "dict_valueiterator"=false by decide,AR,Bu]
 refine (?_:wpAny _ _ (if (Value.ref d==Value.none)=true then _ else _) _ _ s)
 rw [if_neg (show ¬ ((Value.ref d==Value.none)=true) from Am)]
 refine Aa (Ab (Aa (Bi d1 d2 ?_)))
 rw [if_neg (by simp)]
 refine Aa (Ab (Aa (Bn d1 d2 ?_)))
 rw [if_neg (by simp)]
 refine Ab ?_
 simp only [show ¬ ((i:Int)<0) by ext,Bu,Int.toNat_natCast,Ax hi]
 refine Aa (Aa (BJ g.ty (Ab ?_)))
 refine Aa (wpAny_isOneOf_valiter g.ty ?_)
 refine (?_:wpAny _ _ (setField (.ref I) 1 (rawInt ((i:Int)+1)) >>= _) _ _ s)
 have g':=g.step ne
 refine Aa (Ba a c (by simp) (Aa (AH ?_)))
 generalize hu:s.heap.update I (Obj.mapFields (·.setIfInBounds 1 (rawInt ((i:Int)+1))))=h2 at g' ⊢
 have sb:Heap.SameBut I s.heap h2:=by rw [← hu];exact AF ..
 have t2:=DIt.ty (s:={ s with heap:=h2 }) g'
 refine Aa (wpAny_isOneOf_valiter (s:={ s with heap:=h2 }) t2 ?_)
 refine Aa (wpAny_isOneOf_valiter (s:={ s with heap:=h2 }) t2 ?_)
 refine (?_:wpAny _ _ (pure es[i].val) _ _ _)
 exact Ab (Ab ⟨_,rfl,Ab (q _ g' sb)⟩)
theorem Sk {d I:Addr}{es:Array DictEntry}{ep:Nat}{Q:Option Value->Shared->Prop}(hh:A.handled=none)(g:DIt "dict_valueiterator" d I es ep es.size s.heap)
  (q:∀ h',(∀ c o,c≠I->s.heap.get? c=some o->h'.get? c=some o)->Q none { s with heap:=h' }):wpAny (model prog w) A (pyNext (.ref I)) Q E s:=by
 obtain ⟨⟨od,d1,d2⟩,o,a,b,c⟩:=id g
 unfold pyNext
 refine Aa (wpAny_attempt (AK (name:=Str.ofString "__next__") g.ty Bg (AG Bg g.ty F.entry_dict_valueiterator_next ?_ (F.args_dict_valueiterator_next_1 _))))
 refine Aa (Ab (Aa (Aa ?_)))
 refine Aa (BJ g.ty (Ab (Aa (wpAny_fieldsOf a c ?_))))
 simp only [show Builtin.Dict_items.ownsTuple "dict_valueiterator"=false by decide,AR,Bu]
 refine (?_:wpAny _ _ (if (Value.ref d==Value.none)=true then _ else _) _ _ s)
 rw [if_neg (show ¬ ((Value.ref d==Value.none)=true) from Am)]
 refine Aa (Ab (Aa (Bi d1 d2 ?_)))
 rw [if_neg (by simp)]
 refine Aa (Ab (Aa (Bn d1 d2 ?_)))
 rw [if_neg (by simp)]
 refine Ab ?_
 simp only [show ¬ ((es.size:Int)<0) by ext,Bu,Int.toNat_natCast,Bb (Aj es.size)]
 refine Aa (Aa (BJ g.ty (Ab ?_)))
 refine (?_:wpAny _ _ (setField (.ref I) 0 .none >>= _) _ _ s)
 refine Aa (Ba a c (by simp) ?_)
 refine Fv (I:=I) hh λh' e z1 z2=>?_
 obtain ⟨oe,he,hc⟩:=z2
 exact Aa (BF (T:="StopIteration") (b:=true) ⟨oe,he,hc⟩ isSubtype_stop (Ab (q h' λc o hc z=>z1 c o (((AF ..).2 c hc).trans z))))
theorem Kx (hh:A.handled=none){d I:Addr}{es:Array DictEntry}{ep:Nat}(ne:d≠I):Walks prog w A I [I,d] [I] es.size (λi v=>∃ e,es[i]? = some e∧e.val=v) (λi h=>DIt "dict_valueiterator" d I es ep i h) where
 sub:=λb hb=>by rw [Ao.mp hb];simp
 frame:=λ_ h1 h2 st hk=>let ⟨⟨od,d1,d2⟩,o,a,b⟩:=st;⟨⟨od,hk d (by simp) _ d1,d2⟩,o,hk I (by simp) _ a,b⟩
 item:=λk s R E hi st hQ=>RR ne st hi λh' g' sb=>hQ _ h' s.toks ⟨_,Ax hi,rfl⟩ g' λb o hb z=>(sb.2 b (by simpa using hb)).trans z
 done:=λs R E st hQ=>Sk hh st λh' k=>hQ h' s.toks λb o hb z=>k b o (by simpa using hb) z
 self:=λ_ s R E st hQ=>by
  refine wpAny_pyIter_slot st.ty F.slot_dict_valueiterator_iter (AG F.slot_dict_valueiterator_iter st.ty entry_dict_valueiterator_iter ?_ (F.args_dict_valueiterator_iter_1 _))
  refine (?_:wpAny _ _ (ret (.ref I)) _ _ s)
  exact Ab ⟨_,rfl,"dict_valueiterator",_,st.ty,Bg.lookup,hQ⟩
theorem NC {d:Addr}{o:Obj}{es:Array DictEntry}{ep:Nat}{Q:Value->Shared->Prop}(ns:(d==sysModules)=false)(d1:s.heap.get? d=some o)(dc:o.cls=.type "dict")(d2:o.data=.dict es ep)
  (q:∀ h',h'.objs.size=s.heap.objs.size+1->(∀ b o,s.heap.get? b=some o->h'.get? b=some o)->DIt "dict_keyiterator" d s.heap.objs.size es ep 0 h'->Q (.ref s.heap.objs.size) { s with heap:=h' }):wpAny (model prog w) A (pyIter (.ref d)) Q E s:=by
 have hT:s.TypeIs (.ref d) "dict":=⟨o,d1,dc⟩
 refine wpAny_pyIter_slot hT F.slot_dict_iter (AG F.slot_dict_iter hT F.entry_dict_iter ?_ (F.args_dict_iter_1 _))
 unfold Builtin.«dict.__iter__» Builtin.Dict.dictSlotNone
 refine Aa (Aa (wpAny_notOrdered_dict hT ?_))
 refine (?_:wpAny _ _ (pure (Value.ref d)) _ _ s)
 refine Ab (?_:wpAny _ _ (Builtin.Dict.showsAll d >>= _) _ _ s)
 unfold Builtin.Dict.showsAll
 rw [if_neg (by rw [ns];exact Am)]
 refine Aa (Ab (Aa (Bi d1 d2 (Aa (Bn d1 d2 ?_)))))
 refine Aa (AU (Ab ⟨_,rfl,"dict_keyiterator",_,⟨_,Ai _ rfl,rfl⟩,Bo.lookup,?_⟩))
 exact q _ (Bc ..) (λb o e=>Ad _ e) ⟨⟨o,Ad _ d1,d2⟩,_,Ai _ rfl,rfl,rfl⟩
theorem Nq {v d:Addr}{ov o:Obj}{es:Array DictEntry}{ep:Nat}{Q:Value->Shared->Prop}(v1:s.heap.get? v=some ov)(vc:ov.cls=.type "dict_values")(v2:ov.data=.fields #[.ref d])(d1:s.heap.get? d=some o)(d2:o.data=.dict es ep)
  (q:∀ h',h'.objs.size=s.heap.objs.size+1->(∀ b o,s.heap.get? b=some o->h'.get? b=some o)->DIt "dict_valueiterator" d s.heap.objs.size es ep 0 h'->Q (.ref s.heap.objs.size) { s with heap:=h' }):wpAny (model prog w) A (pyIter (.ref v)) Q E s:=by
 have hT:s.TypeIs (.ref v) "dict_values":=⟨ov,v1,vc⟩
 refine wpAny_pyIter_slot hT F.slot_dict_values_iter (AG F.slot_dict_values_iter hT F.entry_dict_values_iter ?_ (F.args_dict_values_iter_1 _))
 unfold Builtin.«dict_values.__iter__» Builtin.Dict_items.dictOf
 refine Aa (Ab (Aa (Aa (Bv v1 v2 (x:=.ref d) rfl (Ab ?_)))))
 (unfold Builtin.Dict_items.newIterator)
 refine Aa (Aa (Bi d1 d2 (Aa (Bn d1 d2 ?_))))
 simp only [show Builtin.Dict_items.ownsTuple "dict_valueiterator"=false by decide,AR,Bu]
 refine AU (Ab ⟨_,rfl,"dict_valueiterator",_,⟨_,Ai _ rfl,rfl⟩,Bg.lookup,?_⟩)
 exact q _ (Bc ..) (λb o e=>Ad _ e) ⟨⟨o,Ad _ d1,d2⟩,_,Ai _ rfl,rfl,rfl⟩
theorem NL {S:Addr}{ob:Obj}{es:Array DictEntry}{ep:Nat}{Q:List Value->Shared->Prop}(hh:A.handled=none)(hz:es.size≤sizeLine)(g1:s.heap.get? S=some ob)(gc:ob.cls=.type "dict")(ns:(S==sysModules)=false)(g2:DAt s.heap S es ep)
  (q:∀ h' tk,(∀ b o,s.heap.get? b=some o->h'.get? b=some o)->Q (es.toList.map (·.key)) { s with heap:=h',toks:=tk }):wpAny (model prog w) A (collect (.ref S)) Q E s:=by
 obtain ⟨od,d1,d2⟩:=g2
 have lS:S<s.heap.objs.size:=An g1
 have ld:S<s.heap.objs.size:=An d1
 have nS:s.heap.objs.size≠S:=Nat.ne_of_gt lS
 have nd:s.heap.objs.size≠S:=Nat.ne_of_gt ld
 unfold collect
 refine Aa (wpAny_runValue (Bl F.entry_proto_collect ?_))
 rw [Bd F.plain_proto_collect _]
 refine (?_:wpAny _ A.in1 (newList [] >>= λl=>again (.builtin "list.__iadd__" ⟨[l,.ref S],[]⟩)) _ _ s)
 refine Aa (AU (Ab ⟨BG F.plain_list_iadd _,Bl F.entry_list_iadd ?_⟩))
 rw [Bd F.plain_list_iadd _]
 refine (?_:wpAny _ A.in1 (Builtin.List.listExtendWith (.ref s.heap.objs.size) (.ref S) (.ref s.heap.objs.size)) _ _ _)
 (unfold Builtin.List.listExtendWith)
 have gS:(s.heap.push { cls:=.type "list",data:=.seq ([]:List Value).toArray }).get? S=some ob:=Ad _ g1
 have gd:(s.heap.push { cls:=.type "list",data:=.seq ([]:List Value).toArray }).get? S=some od:=Ad _ d1
 have gL:(s.heap.push { cls:=.type "list",data:=.seq ([]:List Value).toArray }).get? s.heap.objs.size=some { cls:=.type "list",data:=.seq ([]:List Value).toArray }:=Ai _ rfl
 generalize hP:s.heap.push { cls:=.type "list",data:=.seq ([]:List Value).toArray }=h1 at gS gL gd ⊢
 have k1:∀ b o,s.heap.get? b=some o->h1.get? b=some o:=λb o e=>by rw [← hP];exact Ad _ e
 have sz1:h1.objs.size=s.heap.objs.size+1:=by rw [← hP];exact Bc ..
 have ty:Shared.TypeIs { s with heap:=h1 } (.ref S) "dict":=⟨ob,gS,gc⟩
 refine Aa (Br ty ?_)
 have e1:Builtin.List.listSameRef (.ref s.heap.objs.size) (.ref S)=false:=by simp [Builtin.List.listSameRef,nS]
 simp only [e1,show (Value.type "dict"==Value.type "list")=false by decide,show (Value.type "dict"==Value.type "tuple")=false by decide,Bool.or_false,AR,Bu]
 have lt1:S<h1.objs.size:=by rw [sz1];exact A5 ld
 refine Aa (NC (s:={ s with heap:=h1 }) ns gd (by rw [g1] at d1;cases d1;exact gc) d2 λh2 e2 k2 st=>?_)
 have ty2:Shared.TypeIs { s with heap:=h2 } (.ref S) "dict":=⟨ob,k2 _ _ gS,gc⟩
 have nLI:s.heap.objs.size≠h1.objs.size:=by rw [sz1];exact AA (A3 _)
 have ndI:S≠h1.objs.size:=AA lt1
 refine Aa (AH ?_)
 (unfold Builtin.List.listLengthHint)
 refine Aa (wpAny_specialOf ty2 F.slot_dict_len.lookup ?_)
 refine (?_:wpAny _ A.in1 (isInstance (Value.ref S) (.type "dict") >>= _) _ _ _)
 refine Aa (BF (b:=true) ty2 (by rw [isSubtype_type];kernel_rfl) ?_)
 refine (?_:wpAny _ A.in1 (typeOf (Value.ref S) >>= _) _ _ _)
 refine Aa (Br ty2 (Ab ?_))
 have gL2:=k2 _ _ gL
 refine (?_:wpAny _ A.in1 (rule "list.extend.makes-room" >>= λ_=>Builtin.List.listTouch (.ref s.heap.objs.size) >>= λ_=>again (.builtin "list.extend.loop" ⟨[.ref s.heap.objs.size,.ref h1.objs.size,.ref s.heap.objs.size],[]⟩)) _ _ _)
 refine Aa (Bq (Aa ?_))
 refine (?_:wpAny _ A.in1 (updateSeq s.heap.objs.size (·.push .none) >>= λ_=>updateSeq s.heap.objs.size (·.pop)) _ _ _)
 refine Aa (wpAny_updateSeq gL2 rfl ?_)
 have gL3:=AS (Obj.mapSeq (·.push Value.none)) gL2 rfl
 refine wpAny_updateSeq gL3 rfl ?_
 have gL4:=AS (Obj.mapSeq (·.pop)) gL3 rfl
 have nL:s.heap.objs.size∉[h1.objs.size,S]:=by
  simp only [Ah,Au,AY,not_or]
  exact ⟨nLI,nd⟩
 have oth:∀ b o,b≠s.heap.objs.size->h2.get? b=some o->((h2.update s.heap.objs.size (Obj.mapSeq (·.push Value.none))).update s.heap.objs.size (Obj.mapSeq (·.pop))).get? b=some o:=
  λb o hb e=>(Bk _ _ hb.symm).trans ((Bk _ _ hb.symm).trans e)
 have W:=(KD (prog:=prog) (A:=A.in1) (w:=w) (es:=es) (ep:=ep) hh ndI).toS
 refine Ab ⟨BG F.plain_extend_loop _,codeAny_extend_loopS (A:=A) W hz _ nL _ es.size 0 _ _ _ rfl (A0 _) ?_ gL4 (ItemsOf.nil _) λs' acc' c' hm hS' hacc=>?_⟩
 ·exact (KD (prog:=prog) (A:=A.in1) (w:=w) (es:=es) (ep:=ep) hh ndI).frame 0 _ _ st λb hb o e=>oth b o (λz=>nL (z▸hb)) e
 refine (?_:wpAny _ A (load s.heap.objs.size >>= _) _ _ s')
 refine Aa (wpAny_load hS' ?_)
 obtain ⟨zh,zg,zd,zt,zo⟩:=s'
 have e4:zg=s.gens:=hm.gens
 have e5:zd=s.drawn:=hm.drawn
 have e6:zo=s.os:=hm.os
 subst e4 e5 e6
 have ac:acc'.toList=es.toList.map (·.key):=by
  refine Bj λi=>?_
  rw [Ap,AD,AD]
  by_cases hi:i<es.size
  ·have hi':i<acc'.size:=by rw [hacc.1];exact hi
   obtain ⟨e,x1,x2⟩:=hacc.2 i _ (Ax hi')
   rw [Ax hi',x1,← x2]
   rfl
  ·rw [Bb (by rw [hacc.1];ext),Bb (by ext)]
   rfl
 refine Ab ?_
 refine (?_:Q acc'.toList _)
 rw [ac]
 refine q zh zt λb o e=>?_
 have bl:=An e
 refine hm.heap b o ?_ (oth b o (AA bl) (k2 _ _ (k1 _ _ e)))
 simp only [Ah,Au,AY,not_or]
 exact ⟨AA bl,AA (show b<h1.objs.size by rw [sz1];exact A5 bl)⟩
theorem Ny {S:Addr}{ob:Obj}{d:Addr}{es:Array DictEntry}{ep:Nat}{Q:List Value->Shared->Prop}(hh:A.handled=none)(hz:es.size≤sizeLine)(g1:s.heap.get? S=some ob)(gc:ob.cls=.type "dict_values")(gf:ob.data=.fields #[.ref d])(g2:DAt s.heap d es ep)
  (q:∀ h' tk,(∀ b o,s.heap.get? b=some o->h'.get? b=some o)->Q (es.toList.map (·.val)) { s with heap:=h',toks:=tk }):wpAny (model prog w) A (collect (.ref S)) Q E s:=by
 obtain ⟨od,d1,d2⟩:=g2
 have lS:S<s.heap.objs.size:=An g1
 have ld:d<s.heap.objs.size:=An d1
 have nS:s.heap.objs.size≠S:=Nat.ne_of_gt lS
 have nd:s.heap.objs.size≠d:=Nat.ne_of_gt ld
 unfold collect
 refine Aa (wpAny_runValue (Bl F.entry_proto_collect ?_))
 rw [Bd F.plain_proto_collect _]
 refine (?_:wpAny _ A.in1 (newList [] >>= λl=>again (.builtin "list.__iadd__" ⟨[l,.ref S],[]⟩)) _ _ s)
 refine Aa (AU (Ab ⟨BG F.plain_list_iadd _,Bl F.entry_list_iadd ?_⟩))
 rw [Bd F.plain_list_iadd _]
 refine (?_:wpAny _ A.in1 (Builtin.List.listExtendWith (.ref s.heap.objs.size) (.ref S) (.ref s.heap.objs.size)) _ _ _)
 (unfold Builtin.List.listExtendWith)
 have gS:(s.heap.push { cls:=.type "list",data:=.seq ([]:List Value).toArray }).get? S=some ob:=Ad _ g1
 have gd:(s.heap.push { cls:=.type "list",data:=.seq ([]:List Value).toArray }).get? d=some od:=Ad _ d1
 have gL:(s.heap.push { cls:=.type "list",data:=.seq ([]:List Value).toArray }).get? s.heap.objs.size=some { cls:=.type "list",data:=.seq ([]:List Value).toArray }:=Ai _ rfl
 generalize hP:s.heap.push { cls:=.type "list",data:=.seq ([]:List Value).toArray }=h1 at gS gL gd ⊢
 have k1:∀ b o,s.heap.get? b=some o->h1.get? b=some o:=λb o e=>by rw [← hP];exact Ad _ e
 have sz1:h1.objs.size=s.heap.objs.size+1:=by rw [← hP];exact Bc ..
 have ty:Shared.TypeIs { s with heap:=h1 } (.ref S) "dict_values":=⟨ob,gS,gc⟩
 refine Aa (Br ty ?_)
 have e1:Builtin.List.listSameRef (.ref s.heap.objs.size) (.ref S)=false:=by simp [Builtin.List.listSameRef,nS]
 simp only [e1,show (Value.type "dict_values"==Value.type "list")=false by decide,show (Value.type "dict_values"==Value.type "tuple")=false by decide,Bool.or_false,AR,Bu]
 have lt1:d<h1.objs.size:=by rw [sz1];exact A5 ld
 refine Aa (Nq (s:={ s with heap:=h1 }) gS gc gf gd d2 λh2 e2 k2 st=>?_)
 have ty2:Shared.TypeIs { s with heap:=h2 } (.ref S) "dict_values":=⟨ob,k2 _ _ gS,gc⟩
 have nLI:s.heap.objs.size≠h1.objs.size:=by rw [sz1];exact AA (A3 _)
 have ndI:d≠h1.objs.size:=AA lt1
 refine Aa (AH ?_)
 (unfold Builtin.List.listLengthHint)
 refine Aa (wpAny_specialOf ty2 F.slot_dict_values_len.lookup ?_)
 refine (?_:wpAny _ A.in1 (isInstance (Value.ref S) (.type "dict_values") >>= _) _ _ _)
 refine Aa (BF (b:=true) ty2 (by rw [isSubtype_type];kernel_rfl) ?_)
 refine (?_:wpAny _ A.in1 (typeOf (Value.ref S) >>= _) _ _ _)
 refine Aa (Br ty2 (Ab ?_))
 have gL2:=k2 _ _ gL
 refine (?_:wpAny _ A.in1 (rule "list.extend.makes-room" >>= λ_=>Builtin.List.listTouch (.ref s.heap.objs.size) >>= λ_=>again (.builtin "list.extend.loop" ⟨[.ref s.heap.objs.size,.ref h1.objs.size,.ref s.heap.objs.size],[]⟩)) _ _ _)
 refine Aa (Bq (Aa ?_))
 refine (?_:wpAny _ A.in1 (updateSeq s.heap.objs.size (·.push .none) >>= λ_=>updateSeq s.heap.objs.size (·.pop)) _ _ _)
 refine Aa (wpAny_updateSeq gL2 rfl ?_)
 have gL3:=AS (Obj.mapSeq (·.push Value.none)) gL2 rfl
 refine wpAny_updateSeq gL3 rfl ?_
 have gL4:=AS (Obj.mapSeq (·.pop)) gL3 rfl
 have nL:s.heap.objs.size∉[h1.objs.size,d]:=by
  simp only [Ah,Au,AY,not_or]
  exact ⟨nLI,nd⟩
 have oth:∀ b o,b≠s.heap.objs.size->h2.get? b=some o->((h2.update s.heap.objs.size (Obj.mapSeq (·.push Value.none))).update s.heap.objs.size (Obj.mapSeq (·.pop))).get? b=some o:=
  λb o hb e=>(Bk _ _ hb.symm).trans ((Bk _ _ hb.symm).trans e)
 have W:=(Kx (prog:=prog) (A:=A.in1) (w:=w) (es:=es) (ep:=ep) hh ndI).toS
 refine Ab ⟨BG F.plain_extend_loop _,codeAny_extend_loopS (A:=A) W hz _ nL _ es.size 0 _ _ _ rfl (A0 _) ?_ gL4 (ItemsOf.nil _) λs' acc' c' hm hS' hacc=>?_⟩
 ·exact (Kx (prog:=prog) (A:=A.in1) (w:=w) (es:=es) (ep:=ep) hh ndI).frame 0 _ _ st λb hb o e=>oth b o (λz=>nL (z▸hb)) e
 refine (?_:wpAny _ A (load s.heap.objs.size >>= _) _ _ s')
 refine Aa (wpAny_load hS' ?_)
 obtain ⟨zh,zg,zd,zt,zo⟩:=s'
 have e4:zg=s.gens:=hm.gens
 have e5:zd=s.drawn:=hm.drawn
 have e6:zo=s.os:=hm.os
 subst e4 e5 e6
 have ac:acc'.toList=es.toList.map (·.val):=by
  refine Bj λi=>?_
  rw [Ap,AD,AD]
  by_cases hi:i<es.size
  ·have hi':i<acc'.size:=by rw [hacc.1];exact hi
   obtain ⟨e,x1,x2⟩:=hacc.2 i _ (Ax hi')
   rw [Ax hi',x1,← x2]
   rfl
  ·rw [Bb (by rw [hacc.1];ext),Bb (by ext)]
   rfl
 refine Ab ?_
 refine (?_:Q acc'.toList _)
 rw [ac]
 refine q zh zt λb o e=>?_
 have bl:=An e
 refine hm.heap b o ?_ (oth b o (AA bl) (k2 _ _ (k1 _ _ e)))
 simp only [Ah,Au,AY,not_or]
 exact ⟨AA bl,AA (show b<h1.objs.size by rw [sz1];exact A5 bl)⟩
end
section
variable {X:Cx} {K:Zc} {th:List Addr} {mu:Sto} {H:Hp} {pins:List (Addr×Obj)} {st:L2.St} {s:Shared}
theorem JH (hu:X.A.units+64<cLine)(I:L2.Inv X pins st H s)(so:StoOk X.z th mu H){es:List D}(ok:Ej es=true){u:Value}{Q:VK}(t:Tr X.z th H (some (D.lst (Fz es),mu)) (KV' X.z Q))
  (col:∀ Q':List Value->Shared->Prop,(∀ vs zs h' tk,RepL X.z th H es vs->Vals vs zs->(∀ b o,s.heap.get? b=some o->h'.get? b=some o)->Q' zs { s with heap:=h',toks:=tk })->wpAny (model X.prog X.w) X.A.in1 (collect u) Q' X.xe s) :
  wpAny (model X.prog X.w) X.A (call (.builtin "sorted") [u]) (EP X pins st Q) X.xe s:=by
 refine Kv (col _ λvs zs h1 tk h2 rv hk=>?_)
 have I1:L2.Inv X pins st H { s with heap:=h1,toks:=tk }:=I.kept (t':=tk) hk
 have l64:es.length<64:=by
  have:=ok
  unfold Ej at this
  rw [Ae,Ae,Ae,Ak] at this
  exact this.1.1.1
 have lz:zs.length=es.length:=by rw [← rv.length,h2.len]
 obtain ⟨ws,out,w1,w2,w3⟩:=sorts hu I1 h2 rv ok
 have z64:64≤sizeLine:=by rw [As];decide
 have wl:(Fz es).length≤sizeLine:=by rw [(DF es).length_eq];ext
 refine ⟨by ext,out,w3,λh' e a hk' ha he=>?_⟩
 have hp:H a=none:=I1.hok.fresh ha
 refine ⟨.ref a,_,I1.laid (t':=tk) (o:=.lst ws) hk' ha ⟨by rw [w1.len];exact wl,out,e,w2,he⟩,rfl,?_⟩
 exact t.retX (.new hp _) (so.new hp _) _ (Rep.newLst so hp w1 wl)
theorem Of (I:L2.Inv X pins st H s){a:Addr}{ks ds:List D}(h:DcAt X.z th H a ks ds):∃ o es ep,(a==sysModules)=false∧s.heap.get? a=some o∧o.ExactDict∧o.data=.dict es ep∧es.size≤sizeLine∧(∃ vs,RepL X.z th H ks vs∧Vals vs (es.toList.map (·.key)))∧∃ vs,RepL X.z th H ds vs∧Vals vs (es.toList.map (·.val)):=by
 obtain ⟨xs0,h1',h2,h3,h4,h5⟩:=id h
 obtain ⟨xs,o,es,ep,h1,g⟩:=Gr I h
 obtain ⟨⟨z',o',es',ep',g1,g2,g3,g4,ge⟩,_⟩:=(show ObjOk X.prog X.w H s.heap a (E3 a xs0) from I.hok a _ h1')
 have e1:=g.at'
 rw [g1] at e1
 cases e1
 have e2:=g.dt
 rw [g3] at e2
 cases e2
 have kv:∀ {ys:List (Int×V×V)} {zs:List DictEntry},Paired (λ(x:Int×V×V) (e:DictEntry)=>e.hash=x.1∧RelV x.2.1 e.key∧RelV x.2.2 e.val) ys zs->Vals (ys.map (·.2.1)) (zs.map (·.key))∧Vals (ys.map (·.2.2)) (zs.map (·.val)):=λ{ys zs} p=>by
  induction p with
  | nil=>exact ⟨.nil,.nil⟩
  | cons a b ih=>exact ⟨.cons a.2.1 ih.1,.cons a.2.2 ih.2⟩
 have sz:es.size≤sizeLine:=by
  have e:=Dl g.en
  have e':es.size=ks.length:=by
   rw [← Array.length_toList]
   exact e.symm
  rw [e']
  exact h5.len
 exact ⟨o,es,ep,z',g1,g2,g3,sz,⟨_,h3,(kv g4).1⟩,⟨_,h4,(kv g4).2⟩⟩
def RQ:Fn:=λds mu=>match Fh ds with
 | some d=>match DR mu d with
  | some p=>if Ej p.1=true then some (.lst (Fz p.1),mu) else none
  | none=>none
 | none=>none
theorem R7 {ds:List D}{r:D×Sto}(h:RQ ds mu=some r):∃ d p,ds=[d]∧DR mu d=some p∧Ej p.1=true∧r=(.lst (Fz p.1),mu):=by
 unfold RQ at h
 split at h
 ·rename_i d e
  split at h
  ·rename_i p e2
   split at h
   ·rename_i c;cases h;exact ⟨d,p,Ft e,e2,c,rfl⟩
   ·cases h
  ·cases h
 ·cases h
theorem P8 (hu:X.A.units+64<cLine)(hc:X.calm=true):CallV X (.builtin "sorted") RQ:=by
 intro pins s st H xs us Q I r h
 obtain ⟨th,mu,ds,so,rd,t⟩:=h
 obtain ⟨a0,mu0,e0,_⟩:=id t
 obtain ⟨d,p,rfl,eg,ok,er⟩:=R7 e0
 rw [e0] at t
 cases er
 obtain ⟨x,rfl,rx⟩:=Dh rd
 obtain ⟨u,rfl,ru⟩:=vals1 r
 obtain ⟨a,rfl,dc⟩:=Eg so eg rx
 cases ru
 obtain ⟨o,es,ep,ns,g1,g2,g3,sz,⟨vs,k1,k2⟩,_⟩:=Of I dc
 exact JH hu I so ok t λQ' q=>NL (I.ok.hd hc) sz g1 g2.1 ns ⟨o,g1,g3⟩ λh' tk hk=>q _ _ h' tk k1 k2 hk
def NM:Fn:=λds mu=>match L6 ds mu with|some r=>some r|none=>RQ ds mu
theorem KH (hu:X.A.units+64<cLine)(hc:X.calm=true):CallV X (.builtin "sorted") NM:=CallV.or (Pl hu hc) (P8 hu hc)
def X6 (a d:Addr)(h:Heap):Prop:=∃ o,h.get? a=some o∧o.cls=.type "dict_values"∧o.data=.fields #[.ref d]
noncomputable def Oq (a d:Addr):HO:=.ext (X6 a d)
def ZG (r:V->List V->Hp->VK->Prop)(to:TE):TE:=fun σ H Q=>to σ H λx H1=>(∃ a xs,x=.ref a∧H1 a=some (E3 a xs))∧r x [] H1 Q
theorem W6 {o:Expr}{to:TE}{name:Str}{apos cpos:Pos}{id:String}{r:V->List V->Hp->VK->Prop}(slot:Slot "dict" name id)(hty:typeOf (.builtin id)=pure (.type "method_descriptor"))(hm:MtR X id r)(ho:PE X o to)
  (hbase:attributeBase o name X.env (eval o X.env)=eval o X.env) (hline:(apos.endLine==cpos.line)=true):PE X (.Call (.Attribute o name apos) [] [] cpos) (ZG r to):=by
 intro pins s st H Q I h
 refine wpAny_Call_method0_late hbase hline (thn (ho pins s st H _ I h) λv s1 ⟨x,H1,I1,r1,⟨a,xs,e,hd⟩,q1⟩=>?_)
 subst e
 cases r1
 obtain ⟨⟨z,ob,es,ep,g1,g2,g3,g4,ge⟩,_⟩:=(show ObjOk X.prog X.w H1 s1.heap a (E3 a xs) from I1.hok a _ hd)
 exact ⟨"dict",id,PySem.F.plainAttrs_dict,slot,hty,⟨ob,g1,g2.1⟩,λb e=>by cases e;exact ⟨ob,g1,g2.2.1⟩,Calls.callWith_builtin rfl (PySem.evalArgs_none (hm pins s1 st H1 (.ref a) [] _ [] Q I1 rfl .nil q1))⟩
theorem PJ:MtR X "dict.values" (λx vs H Q=>vs=[]∧∃ a xs,x=.ref a∧H a=some (E3 a xs)∧∀ b,H b=none->Q (.ref b) (upd H b (Oq b a))):=by
 intro pins s st H x ys v us Q I rx rys ⟨e0,a,xs,e,hd,q⟩
 subst e e0
 cases rx
 cases rys
 obtain ⟨⟨z,ob,es,ep,g1,g2,g3,g4,ge⟩,_⟩:=(show ObjOk X.prog X.w H s.heap a (E3 a xs) from I.hok a _ hd)
 have ty:s.TypeIs (.ref a) "dict":=⟨ob,g1,g2.1⟩
 have hM:MeetsIn X.prog X.w (Builtin.«dict.values» ⟨[.ref a],[]⟩) (λ_ R s=>s.heap.get? a=some ob∧R (.ok (.ret (.ref s.heap.objs.size))) { s with heap:=s.heap.push { cls:=.type "dict_values",data:=.fields #[.ref a] } }):=.of_wp λA R s ⟨g0,h⟩=>by
  refine Aa ?_
  unfold Builtin.Dict.noArgs
  refine Aa (wpAny_notOrdered_dict ⟨ob,g0,g2.1⟩ ?_)
  refine (?_:wpAny _ _ (pure a) _ _ s)
  refine Ab (?_:wpAny _ _ (Builtin.Dict.showsAll a >>= _) _ _ s)
  unfold Builtin.Dict.showsAll
  rw [if_neg (by rw [z];exact Am)]
  exact Aa (Ab (Aa (AU (Ab ⟨_,rfl,h⟩))))
 refine call_meetsIn PySem.F.slot_dict_values ty PySem.F.entry_dict_values (PySem.F.args_dict_values_1 _) hM ⟨g1,?_⟩
 have hp:H s.heap.objs.size=none:=I.hok.fresh (Aj _)
 refine ⟨.ref s.heap.objs.size,_,I.laid (t':=s.toks) (o:=Oq s.heap.objs.size a) (λb o e=>Ad _ e) (Aj _) ⟨⟨_,Ai _ rfl,rfl,rfl⟩,⟨_,Ai _ rfl⟩,λh1 h2 ⟨o,x1,x2⟩ k=>⟨o,k o x1,x2⟩⟩,rfl,q _ hp⟩
theorem Pm (hu:X.A.units+64<cLine)(hc:X.calm=true):Fx X (.builtin "sorted") (λvs H Q=>∃ th mu a d ks ds,vs=[.ref a]∧H a=some (Oq a d)∧StoOk X.z th mu H∧DcAt X.z th H d ks ds∧Ej ds=true∧Tr X.z th H (some (D.lst (Fz ds),mu)) (KV' X.z Q)):=by
 intro pins s st H xs us Q I r ⟨th,mu,a,d,ks,ds,e,hv,so,dc,ok,t⟩
 subst e
 obtain ⟨u,rfl,ru⟩:=vals1 r
 cases ru
 obtain ⟨⟨ov,v1,v2,v3⟩,_⟩:=(show ObjOk X.prog X.w H s.heap a (Oq a d) from I.hok a _ hv)
 obtain ⟨o,es,ep,ns,g1,g2,g3,sz,_,⟨vs,k1,k2⟩⟩:=Of I dc
 exact JH hu I so ok t λQ' q=>Ny (I.ok.hd hc) sz v1 v2 v3 ⟨o,g1,g3⟩ λh' tk hk=>q _ _ h' tk k1 k2 hk
def Ko (a:Ex):Ex:=λro mu=>bM (a ro mu) λd m1=>match DR m1 d with
 | some p=>if Ej p.2=true then some (.lst (Fz p.2),m1) else none
 | none=>none
theorem DcAt.new {a p:Addr}{ks ds:List D}(h:DcAt K th H a ks ds)(so:StoOk K th mu H)(hp:H p=none)(o:HO):DcAt K th (upd H p o) a ks ds:=by
 obtain ⟨xs,h1,h2,h3,h4,h5⟩:=h
 exact ⟨xs,by rw [CK (CM h1 hp)];exact h1,h2,h3.ext (.new hp o) so.out,h4.ext (.new hp o) so.out,h5⟩
theorem Tt (hu:X.A.units+64<cLine)(hc:X.calm=true){o:Expr}{m:Ex}{apos cpos p pos:Pos}(hm:X.mg "sorted"=none)(ho:SV X o m)(hg:Gl X "sorted":=by rfl)(hbase:attributeBase o "values" X.env (eval o X.env)=eval o X.env:=by rfl)(hline:(apos.endLine==cpos.line)=true:=by rfl)
  (hs1:starEach [.Call (.Attribute o "values" apos) [] [] cpos] X.env=(false,eval (.Call (.Attribute o "values" apos) [] [] cpos) X.env)::starEach [] X.env:=by rfl) (hs2:(backTo pos (starEach [] X.env)).any (·.1)=false:=by rfl) :
  SV X (.Call (.Name "sorted" p) [.Call (.Attribute o "values" apos) [] [] cpos] [] pos) (Ko m):=
 ⟨PE.weak (Jv (Pm hu hc) hg hm PyProof.Rows.boot_sorted (Jl (W6 PySem.F.slot_dict_values PySem.F.type_dict_values PJ ho.r hbase hline) N6 hs1) (by decide) (by decide) hs1 hs2) λst H Q h=>by
  obtain ⟨th,mu,ro,so,en,t⟩:=h
  refine ⟨th,mu,ro,so,en,t.bind.mono λd th1 mu1 H1 e1 s1 t1 v rv=>?_⟩
  cases q:DR mu1 d with
  | none=>rw [q] at t1;exact t1.no.elim
  | some pr =>
   rw [q] at t1
   dsimp only at t1
   by_cases c:Ej pr.2=true
   ·rw [if_pos c] at t1
    obtain ⟨a,rfl,dc⟩:=Eg s1 q rv
    obtain ⟨xs,hx,_⟩:=id dc
    exact ⟨⟨a,xs,rfl,hx⟩,rfl,a,xs,rfl,hx,λb hb=>⟨th1,mu1,b,a,pr.1,pr.2,rfl,DG,s1.new hb _,dc.new s1 hb _,c,t1.ahead (.new hb _)⟩⟩
   ·rw [if_neg c] at t1;exact t1.no.elim⟩
def LZ (d:D)(xs:List D)(mu:Sto):Rs D:=match DR mu d,xs with
 | some p,[k]=>if DQ k=true then some ((Ey k p.1 p.2).getD .non,mu) else none
 | some p,[k,y]=>if DQ k=true then some ((Ey k p.1 p.2).getD y,mu) else none
 | _,_=>none
theorem OX (hu:X.A.units+64<cLine)(I:L2.Inv X pins st H s){a:Addr}{ks ds:List D}(dc:DcAt X.z th H a ks ds){k:D}{u:Value}(hk:Hd s.heap k u){as:List Value}{yd:Value}(has:as=[]∧yd=.none∨as=[yd]){Q:Value->Shared->Prop}
  (q1:∀ d,Ey k ks ds=some d->∀ v r,Rep X.z th H d v->RelV v r->∀ tk,Q r { s with toks:=tk }) (q2:Ey k ks ds=none->∀ tk,Q yd { s with toks:=tk }):wpAny (model X.prog X.w) X.A (call (.builtin "dict.get") (.ref a::u::as)) Q X.xe s:=by
 obtain ⟨ty,ns,_⟩:=Ma I dc
 have go:wpAny (model X.prog X.w) X.A.in1 (Builtin.«dict.get» ⟨.ref a::u::as,[]⟩) (λfin s'=>∃ v,fin=.done (.ret v)∧Q v s') X.xe s:=by
  rcases has with ⟨rfl,rfl⟩|rfl
  ·refine (?_:wpAny _ _ (dictGet a u >>= _) _ _ s)
   cases e:Ey k ks ds with
   | some d =>
    obtain ⟨v,r,x1,x2,x3⟩:=Lj I dc hk e
    exact Aa (x3 (by rw [Around.in1_units];ext) λtk=>Ab ⟨r,rfl,q1 d e v r x1 x2 tk⟩)
   | none =>
    refine Aa (Lq (A:=X.A.in1) I dc hk e (by rw [Around.in1_units];ext) λtk=>?_)
    exact Aa (wpAny_missed_other ns (Ab ⟨_,rfl,q2 e tk⟩))
  ·refine (?_:wpAny _ _ (dictGet a u >>= _) _ _ s)
   cases e:Ey k ks ds with
   | some d =>
    obtain ⟨v,r,x1,x2,x3⟩:=Lj I dc hk e
    exact Aa (x3 (by rw [Around.in1_units];ext) λtk=>Ab ⟨r,rfl,q1 d e v r x1 x2 tk⟩)
   | none =>
    refine Aa (Lq (A:=X.A.in1) I dc hk e (by rw [Around.in1_units];ext) λtk=>?_)
    exact Aa (wpAny_missed_other ns (Ab ⟨_,rfl,q2 e tk⟩))
 rcases has with ⟨rfl,rfl⟩|rfl
 ·exact AG PySem.F.slot_dict_get ty PySem.F.entry_dict_get go (PySem.F.args_dict_get_2 _ _)
 ·exact AG PySem.F.slot_dict_get ty PySem.F.entry_dict_get go (PySem.F.args_dict_get_3 _ _ _)
theorem WS (hu:X.A.units+64<cLine):MtR X "dict.get" (λx vs H Q=>∃ th mu d ds,StoOk X.z th mu H∧Rep X.z th H d x∧RepL X.z th H ds vs∧Tr X.z th H (LZ d ds mu) (KV' X.z Q)):=by
 intro pins s st H x xs v us Q I rx rxs h
 obtain ⟨th,mu,d,ds,so,r1,r2,t⟩:=h
 unfold LZ at t
 cases e:DR mu d with
 | none=>rw [e] at t;exact t.no.elim
 | some p =>
  rw [e] at t
  obtain ⟨a,rfl,dc⟩:=Eg so e r1
  cases rx
  match ds,r2,t with
  | [],_,t=>exact t.no.elim
  | [k],r2,t =>
   dsimp only at t
   by_cases c:DQ k=true
   ·rw [if_pos c] at t
    obtain ⟨kv,rfl,rk⟩:=Dh r2
    obtain ⟨u,rfl,ru⟩:=vals1 rxs
    refine OX hu I dc (Hc I c rk ru) (.inl ⟨rfl,rfl⟩) (λd' e' v' r' z1 z2 tk=>?_) λe' tk=>?_
    ·rw [e'] at t
     exact ⟨v',H,I.tok _,z2,t.ret so _ z1⟩
    ·rw [e'] at t
     exact ⟨.non,H,I.tok _,rfl,t.ret so _ rfl⟩
   ·rw [if_neg c] at t;exact t.no.elim
  | [k,y],r2,t =>
   dsimp only at t
   by_cases c:DQ k=true
   ·rw [if_pos c] at t
    obtain ⟨kv,yv,rfl,rk,ry⟩:=Ht r2
    obtain ⟨u,w',rfl,ru,rw'⟩:=vals2 rxs
    refine OX hu I dc (Hc I c rk ru) (.inr rfl) (λd' e' v' r' z1 z2 tk=>?_) λe' tk=>?_
    ·rw [e'] at t
     exact ⟨v',H,I.tok _,z2,t.ret so _ z1⟩
    ·rw [e'] at t
     exact ⟨yv,H,I.tok _,rw',t.ret so _ ry⟩
   ·rw [if_neg c] at t;exact t.no.elim
  | _::_::_::_,_,t=>exact t.no.elim
def tBD (r:V->List V->Hp->VK->Prop)(to:TE)(t:TA):TE:=fun σ H Q=>to σ H λx H1=>(∃ a xs,x=.ref a∧H1 a=some (E3 a xs))∧t σ H1 λvs H2=>r x vs H2 Q
theorem Vo {o e:Expr}{es:List Expr}{to:TE}{t:TA}{name:Str}{apos cpos:Pos}{id:String}{r:V->List V->Hp->VK->Prop}(slot:Slot "dict" name id)(hty:typeOf (.builtin id)=pure (.type "method_descriptor"))(hm:MtR X id r)(ho:PE X o to)(ha:PA X (e::es) t)
  (hbase:attributeBase o name X.env (eval o X.env)=eval o X.env)
  (hfew:((backTo cpos (starEach (e::es) X.env)).all (λx=>!x.1)&&(backToKw cpos (keywordEach [] X.env)).all (λx=>x.1.isSome)
   && decide ((e::es).length+([]:List Keyword).length+(if ([]:List Keyword).isEmpty then 0 else 1)<30))=true)
  (hline:(apos.endLine==cpos.line)=true) (hs:starEach (e::es) X.env=(false,eval e X.env)::starEach es X.env) (hplain:(backTo cpos (starEach es X.env)).any (·.1)=false) :
  PE X (.Call (.Attribute o name apos) (e::es) [] cpos) (tBD r to t):=by
 intro pins s st H Q I h
 refine wpAny_Call_method_late hbase hfew hline rfl (thn (ho pins s st H _ I h) λv s1 ⟨x,H1,I1,r1,⟨a,xs,ex,hd⟩,q1⟩=>?_)
 subst ex
 cases r1
 obtain ⟨⟨z,ob,es',ep,g1,g2,g3,g4,ge⟩,_⟩:=(show ObjOk X.prog X.w H1 s1.heap a (E3 a xs) from I1.hok a _ hd)
 refine ⟨"dict",id,PySem.F.plainAttrs_dict,slot,hty,⟨ob,g1,g2.1⟩,λb e=>by cases e;exact ⟨ob,g1,g2.2.1⟩,?_⟩
 have hA:=ha cpos pins s1 st H1 _ I1 q1
 rw [hs] at hA ⊢
 refine Calls.callWith_builtin (by show (false||(backTo cpos (starEach es X.env)).any (·.1))=false;rw [hplain]<;>rfl) (Calls.evalArgs_plain ?_)
 exact thn hA λus s2 ⟨vs,H2,I2,r2,q2⟩=>hm pins s2 st H2 (.ref a) vs (.ref a) us Q I2 rfl r2 q2
def O7 (o:Ex)(a:Exs):Ex:=λro mu=>bM (o ro mu) λd m1=>if (DR m1 d).isSome=true then bM (a ro m1) λxs m2=>LZ d xs m2 else none
theorem U3 (hu:X.A.units+64<cLine){o e:Expr}{es:List Expr}{m:Ex}{n:Exs}{apos cpos:Pos}(ho:SV X o m)(ha:SVA X (e::es) n)(hbase:attributeBase o "get" X.env (eval o X.env)=eval o X.env:=by rfl)
  (hfew:((backTo cpos (starEach (e::es) X.env)).all (λx=>!x.1)&&(backToKw cpos (keywordEach [] X.env)).all (λx=>x.1.isSome)
   && decide ((e::es).length+([]:List Keyword).length+(if ([]:List Keyword).isEmpty then 0 else 1)<30))=true:=by rfl)
  (hline:(apos.endLine==cpos.line)=true:=by rfl) (hs:starEach (e::es) X.env=(false,eval e X.env)::starEach es X.env:=by rfl) (hplain:(backTo cpos (starEach es X.env)).any (·.1)=false:=by rfl) :
  SV X (.Call (.Attribute o "get" apos) (e::es) [] cpos) (O7 m n):=
 ⟨PE.weak (Vo PySem.F.slot_dict_get PySem.F.type_dict_get (WS hu) ho.r ha.1 hbase hfew hline hs hplain) λst H Q h=>by
  obtain ⟨th,mu,ro,so,en,t⟩:=h
  refine ⟨th,mu,ro,so,en,t.bind.mono λd th1 mu1 H1 e1 s1 t1 v rv=>?_⟩
  cases q:DR mu1 d with
  | none=>rw [q] at t1;exact t1.no.elim
  | some pr =>
   rw [q] at t1
   rw [if_pos (show (some pr).isSome=true from rfl)] at t1
   obtain ⟨a,rfl,dc⟩:=Eg s1 q rv
   obtain ⟨xs,hx,_⟩:=id dc
   refine ⟨⟨a,xs,rfl,hx⟩,th1,mu1,ro,s1,en.ext e1 so.out,?_⟩
   exact Tr.mono (Tr.bind t1) λys th2 mu2 H2 e2 s2 t2 ws rws=>⟨th2,mu2,d,ys,s2,rv.ext e2 s1.out,rws,t2⟩⟩
end
end PV
namespace L2
open PySem PySem.Spec PyProof.Rows
inductive IsC:Expr->List Comprehension->Prop
 | l {elt gens sc pos}:IsC (.ListComp elt gens sc pos) gens
 | d {k v gens sc pos}:IsC (.DictComp k v gens sc pos) gens
noncomputable def FR (g:Comprehension)(it:Value)(env:Env)(step:Sem Unit)(c:Code):Sem Fin:=do
 standAt g.iter.pos
 match←pyNext it with
 | none=>pure (.done .next)
 | some v =>
  letOwnedTupleGo g.target it v
  assign g.target env v
  let mut ok:=true
  for c in g.ifs do
   if ok then ok←isTrue c env (eval c env)
  if ok then step
  again c
noncomputable def KR (elt:Expr)(acc:Value)(env:Env):Sem Unit:=do let _←call (.builtin "list.append") [acc,← eval elt env]
noncomputable def deeper (e iter:Expr)(acc:Value)(env:Env):Sem Unit:=do
 let x←eval iter env
 standAt iter.pos
 let x←foldedSetIterable iter env x
 let _←runOwn (.compStart e 1 (← holding [x] (pyIter x)) acc env) env
theorem Vb {elt t i ifs sc pos it acc env}:compTurn (.ListComp elt [⟨t,i,ifs,0⟩] sc pos) 0 it acc env=FR ⟨t,i,ifs,0⟩ it env (KR elt acc env) (.compLoop (.ListComp elt [⟨t,i,ifs,0⟩] sc pos) 0 it acc env):=rfl
theorem TB {elt t i ifs t2 i2 ifs2 sc pos it acc env}:compTurn (.ListComp elt [⟨t,i,ifs,0⟩,⟨t2,i2,ifs2,0⟩] sc pos) 0 it acc env=FR ⟨t,i,ifs,0⟩ it env (deeper (.ListComp elt [⟨t,i,ifs,0⟩,⟨t2,i2,ifs2,0⟩] sc pos) i2 acc env) (.compLoop (.ListComp elt [⟨t,i,ifs,0⟩,⟨t2,i2,ifs2,0⟩] sc pos) 0 it acc env):=by
 unfold FR deeper
 simp only [bind_assoc,pure_bind]
 rfl
theorem Ve {elt t i ifs t2 i2 ifs2 sc pos it acc env}:compTurn (.ListComp elt [⟨t,i,ifs,0⟩,⟨t2,i2,ifs2,0⟩] sc pos) 1 it acc env=FR ⟨t2,i2,ifs2,0⟩ it env (KR elt acc env) (.compLoop (.ListComp elt [⟨t,i,ifs,0⟩,⟨t2,i2,ifs2,0⟩] sc pos) 1 it acc env):=rfl
section
variable {prog:Program} {w:World} {A:Around} {R:Result->Shared->Prop} {s:Shared} {e:Expr} {gens:List Comprehension} {g:Comprehension} {depth:Nat} {it acc:Value} {env:Env} {step:Sem Unit}
theorem YE (hc:IsC e gens)(heq:compTurn e depth it acc env=FR g it env step (.compLoop e depth it acc env))(J:Nat->Shared->Prop)
  (turn:∀ (n:Nat) (z:Shared),J n z->Go prog w A (pyNext it) (λr z1=>match r with
   | .none=>R (.ok .next) z1
   | .some v=>Go prog w A (letOwnedTupleGo g.target it v) (λ_ s1=>Go prog w A (assign g.target env v) (λ_ s2=>Go prog w A (tests env g.ifs) (λok s3 =>
     if ok=true then Go prog w A step (λ_ z2=>∃ m,m<n∧J m z2) s3 else ∃ m,m<n∧J m s3) s2) s1) z1) z) (n:Nat) (h:J n s) :
  codeAny (model prog w) A (Code.compLoop e depth it acc env) R s:=by
 have st:∀ (n:Nat) (z:Shared),J n z->Go prog w A (compTurn e depth it acc env)
   (λfin z'=>match fin with
    | .done f=>R (.ok f) z'
    | .again c'=>c'=Code.compLoop e depth it acc env∧∃ m,m<n∧J m z') z:=by
  intro n z hz
  rw [heq]
  unfold FR
  refine Aa (wpAny_standAt (Aa (thn (turn n z hz) λr z1 h1=>?_)))
  cases r with
  | none=>exact Ab h1
  | some v =>
   refine Aa (thn h1 λ_ z2 h2=>Aa (thn h2 λ_ z3 h3=>Aa (thn h3 λok z4 h4=>?_)))
   cases ok with
   | false=>exact Ab (And.intro rfl h4)
   | true=>exact Aa (thn h4 λx z5 h5=>Ab (And.intro rfl h5))
 cases hc with
 | l=>exact codeAny_loop rfl J (λn z hz=>wpAny_noted (wpAny_mono (st n z hz) (λ_ _ q=>q) λ_ _ q=>q.elim)) n h
 | d=>exact codeAny_loop rfl J (λn z hz=>wpAny_noted (wpAny_mono (st n z hz) (λ_ _ q=>q) λ_ _ q=>q.elim)) n h
theorem Rp (hc:IsC e gens)(hg:gens[depth]? = some g)(ha:g.is_async=0)
  (h0:codeAny (model prog w) A (.compLoop e depth it acc env) R s)
  (h:wpAny (model prog w) A (pyIter it) (λit' s'=>codeAny (model prog w) A (.compLoop e depth it' acc env) R s') (notedBy (model prog w) A env λx s'=>R (.error x) s') s) :
  codeAny (model prog w) A (.compStart e depth it acc env) R s:=by
 have st:wpAny (model prog w) A (compStart e depth it acc env) (λfin s'=>match fin with
    | .done f=>R (.ok f) s'
    | .again c'=>c'.quiet=true∧codeAny (model prog w) A c' R s') (notedBy (model prog w) A env λx s'=>R (.error x) s') s:=by
  have cl:clausesOf e=gens:=by cases hc<;>rfl
  have qt:(Code.compLoop e depth it acc env).quiet=true:=by cases hc<;>rfl
  have qt':∀ it',(Code.compLoop e depth it' acc env).quiet=true:=λit'=>by cases hc<;>rfl
  unfold compStart
  rw [cl,hg]
  simp only [Option.elim,ha,bne_self_eq_false,AR,Bu,pure_bind]
  refine Aa (wpAny_askSetting (wpAny_ite ?_))
  split
  ·first
    | exact Aa (Ab (Ab (And.intro qt h0)))
    | exact Ab (And.intro qt h0)
  ·exact Aa (Bq (Aa (wpAny_standAt (Aa (wpAny_mono h (λit' s' h'=>Ab (And.intro (qt' _) h')) λ_ _ x=>x)))))
 cases hc with
 | l =>
  refine codeAny_of_tree ?_
  exact wpAny_notedAt (wpAny_mono st (λfin _ q=>q) λ_ _ q=>q)
 | d =>
  refine codeAny_of_tree ?_
  exact wpAny_notedAt (wpAny_mono st (λfin _ q=>q) λ_ _ q=>q)
end
abbrev TM (α:Type):=α->St->Hp->(α->St->Hp->Prop)->Prop
structure Acc (α:Type) where
 ao:α->Obj->Prop
 nc:∀ a o,ao a o->∀ v,o.data≠.cell v
structure DOk (X:Cx) (D:Addr):Prop where
 up:X.s₀.heap.objs.size≤D
 nl:D≠X.env.locals
 nf:D∉X.fs
 cl:∀ x c,X.env.cells.lookup x=some c->c≠D
 pn:∀ p∈X.pn,p.1≠D
def PM (X:Cx){α:Type}(K:Acc α)(D:Addr)(m:Sem Unit)(t:TM α):Prop:=
 ∀ (pins:List (Addr×Obj)) (s:Shared) (σ:St) (H:Hp) (Q:α->St->Hp->Prop) (a:α) (o:Obj),K.ao a o->(∀ p∈pins,p.1≠D)->Inv X (pins++[(D,o)]) σ H s->t a σ H Q ->
  wpAny (model X.prog X.w) X.A m (λ_ s'=>∃ a' o' σ' H',K.ao a' o'∧Inv X (pins++[(D,o')]) σ' H' s'∧Q a' σ' H') X.xe s
def CGo {α:Type}(J:It)(g:TG)(tt:TT)(tm:TM α)(a:α)(σ:St)(H:Hp)(Q:α->St->Hp->Prop):Prop:=
 ∃ W:Nat->Nat->α->St->Hp->Prop,(∃ m,W 0 m a σ H)∧∀ i m a σ' H',W i m a σ' H' ->
  ((J.stop i H'∧Q a σ' H') ∨
   (J.go i H'∧∀ x H2,J.yld i H' x H2->g x σ' H2 fun σ3 H3=>tt σ3 H3 λb H4 =>
    if b=true then tm a σ3 H4 λa' σ5 H5=>∃ m',m'<m∧W (i+1) m' a' σ5 H5 else ∃ m',m'<m∧W (i+1) m' a σ3 H4))
section
variable {X:Cx} {α:Type} {K:Acc α} {D:Addr} {R:Result->Shared->Prop} {e:Expr} {gens:List Comprehension} {g:Comprehension} {depth:Nat} {step:Sem Unit} {tg:TG} {tt:TT} {tm:TM α}
theorem Inv.pins_sub {pins pins':List (Addr×Obj)}{σ:St}{H:Hp}{s:Shared}(I:Inv X pins σ H s)(h:∀ p∈pins',p∈pins):Inv X pins' σ H s:=I.pins_of λp hp=>I.pin p (AB _ (h p hp))
theorem cgo (hc:IsC e gens)(hcalm:X.calm=true)(hx:X.xe=λ_ _=>False){it:Addr}(heq:compTurn e depth (.ref it) (.ref D) X.env=FR g (.ref it) X.env step (.compLoop e depth (.ref it) (.ref D) X.env))
  (hg:PG X g.target tg) (ht:PF X g.ifs tt) (hm:PM X K D step tm) {J:It} {fp:List Addr} {tn:Nat->Heap->Prop} (T:Turn X.prog X.w X.K g.target J fp it tn)
  {pins:List (Addr×Obj)} {s:Shared} {σ:St} {H:Hp} {a:α} {o:Obj} {Q:α->St->Hp->Prop} (ao:K.ao a o) (I:Inv X (pins++[(D,o)]) σ H s) (st:tn 0 s.heap) (f:∀ b∈fp,Hv X pins H b) (fD:∀ b∈fp,D≠b) (pD:∀ p∈pins,p.1≠D)
  (w:CGo J tg tt tm a σ H Q) (fin:∀ s' a' o' σ' H',K.ao a' o'->Inv X (pins++[(D,o')]) σ' H' s'->Q a' σ' H'->R (.ok .next) s') :
  codeAny (model X.prog X.w) X.A (.compLoop e depth (.ref it) (.ref D) X.env) R s:=by
 obtain ⟨W,⟨m0,w0⟩,turn⟩:=w
 have stat:∀ {H':Hp} (o':Obj),(∀ b∈fp,H' b=none)->∀ b∈fp,Hv X (pins++[(D,o')]) H' b:=λ{H'} o' hn b hb=>by
  obtain ⟨_,f1,f2,f3,f4,f5⟩:=f b hb
  refine ⟨hn b hb,f1,f2,f3,f4,λp hp=>?_⟩
  rcases AE.mp hp with z|z
  ·exact f5 p (A1 _ z)
  ·rcases AE.mp z with z|z
   ·exact f5 p (AB _ z)
   ·rw [Ao.mp z];exact fD b hb
 refine YE hc heq (λn s'=>∃ i a o σ' H',K.ao a o∧Inv X (pins++[(D,o)]) σ' H' s'∧tn i s'.heap∧(∀ b∈fp,H' b=none)∧W i n a σ' H') ?_ m0 ⟨0,a,o,σ,H,ao,I,st,λb hb=>(f b hb).1,w0⟩
 rintro n s3 ⟨i,a3,o3,σ3,H3,ao3,I3,st3,fr3,w3⟩
 rcases turn i n a3 σ3 H3 w3 with ⟨stop,qn⟩|⟨go,stp⟩
 ·refine thn (T.done X rfl rfl rfl hcalm i _ s3 σ3 H3 (λ_ _=>False) I3 (stat o3 fr3) st3 stop) λr s4 ⟨hr,I4⟩=>?_
  subst hr
  exact fin s4 a3 o3 σ3 H3 ao3 I4 qn
 ·refine thn (T.item X rfl rfl rfl hcalm i _ s3 σ3 H3 (λ_ _=>False) I3 (stat o3 fr3) st3 go) λr s4 ⟨u,hr,h4⟩=>?_
  subst hr
  refine thn h4 λ_ s5 ⟨x,H5,I5,r5,y5,st5,fr5⟩=>?_
  have I5':=I5.pinned (stat o3 fr5) (T.obj _ _ st5)
  have a1:=hg _ s5 σ3 H5 x u _ I5' r5 (stp x H5 y5)
  rw [hx] at a1
  refine thn a1 λ_ s6 ⟨σ6,H6,I6,q6⟩=>?_
  have b1:=ht _ s6 σ6 H6 _ I6 q6
  rw [hx] at b1
  refine thn b1 λok s7 ⟨H7,I7,q7⟩=>?_
  have keep:∀ {s':Shared} {pl:List (Addr×Obj)} {σ':St} {H':Hp},Inv X pl σ' H' s'->(∀ p∈Hz fp s5.heap,p∈pl)->tn (i+1) s'.heap∧∀ b∈fp,H' b=none:=λ{s' pl σ' H'} J' hs=>by
   refine ⟨T.keep _ _ _ st5 λb hb o e=>(J'.pin (b,o) (AB _ (hs _ (Gu hb e)))).1,λb hb=>?_⟩
   obtain ⟨o,e,_⟩:=T.obj _ _ st5 b hb
   exact (J'.pin (b,o) (AB _ (hs _ (Gu hb e)))).2.1
  cases ok with
  | false =>
   rw [if_neg Am] at q7 ⊢
   obtain ⟨m',hm',w7⟩:=q7
   obtain ⟨k1,k2⟩:=keep I7 λp hp=>AB _ hp
   exact ⟨m',hm',i+1,a3,o3,σ6,H7,ao3,I7.unpinned,k1,k2,w7⟩
  | true =>
   rw [if_pos rfl] at q7 ⊢
   have I8:Inv X ((pins++Hz fp s5.heap)++[(D,o3)]) σ6 H7 s7:=I7.pins_sub λp hp=>by
    simp only [AE] at hp ⊢
    rcases hp with (z|z)|z
    ·exact .inl (.inl z)
    ·exact .inr z
    ·exact .inl (.inr z)
   have c1:=hm (pins++Hz fp s5.heap) s7 σ6 H7 _ a3 o3 ao3 (λp hp=>by
    rcases AE.mp hp with z|z
    ·exact pD p z
    ·exact Ne.symm (fD p.1 (KP z).1)) I8 q7
   rw [hx] at c1
   refine thn c1 λ_ s9 ⟨a9,o9,σ9,H9,ao9,I9,m',hm',w9⟩=>?_
   obtain ⟨k1,k2⟩:=keep I9 λp hp=>A1 _ (AB _ hp)
   exact ⟨m',hm',i+1,a9,o9,σ9,H9,ao9,I9.pins_sub λp hp=>by
    simp only [AE] at hp ⊢
    rcases hp with z|z
    ·exact .inl (.inl z)
    ·exact .inr z,k1,k2,w9⟩
theorem Qv (hc:IsC e gens)(hcalm:X.calm=true)(hx:X.xe=λ_ _=>False){g2:Comprehension}{wi:TI}(hgn:gens[1]? = some g2)(ha:g2.is_async=0)(hi:PI X g2.target g2.iter wi)(hs:∀ x,foldedSetIterable g2.iter X.env x=pure x)
  (heq:∀ it,compTurn e 1 (.ref it) (.ref D) X.env=FR g2 (.ref it) X.env step (.compLoop e 1 (.ref it) (.ref D) X.env))
  (hg:PG X g2.target tg) (ht:PF X g2.ifs tt) (hm:PM X K D step tm):PM X K D (deeper e g2.iter (.ref D) X.env) (λa σ H Q=>wi σ H λJ H1=>CGo J tg tt tm a σ H1 Q):=by
 intro pins s σ H Q a o ao pD I h
 unfold deeper
 refine Aa (thn (hi _ s σ H _ I h) λv s1 h1=>Aa (wpAny_standAt (Aa (wpAny_of_eq (hs v) (Aa (AH (thn h1 λitv s2 h2=>?_)))))))
 obtain ⟨it,fp,tn,J,H2,e2,I2,T,st2,f2,w⟩:=h2
 subst e2
 have f':∀ b∈fp,Hv X pins H2 b:=λb hb=>by
  obtain ⟨f0,f1,f2,f3,f4,f5⟩:=f2 b hb
  exact ⟨f0,f1,f2,f3,f4,λp hp=>f5 p (by rcases AE.mp hp with z|z;exact A1 _ z;exact AB _ (A1 _ z))⟩
 have fD:∀ b∈fp,D≠b:=λb hb=>(f2 b hb).2.2.2.2.2 (D,o) (AB _ (AB _ (Ao.mpr rfl)))
 refine Aa (wpAny_runOwn ?_)
 have loop:codeAny (model X.prog X.w) X.A (.compLoop e 1 (.ref it) (.ref D) X.env) (λr s'=>match r with|.ok f=>wpAny (model X.prog X.w) X.A (pure PUnit.unit) (λ_ s'=>∃ a' o' σ' H',K.ao a' o'∧Inv X (pins++[(D,o')]) σ' H' s'∧Q a' σ' H') X.xe s'|.error e=>cameBackBy (model X.prog X.w) X.A X.env X.xe e s') s2:=
  cgo hc hcalm hx (heq it) hg ht hm T ao I2 st2 f' fD pD w λs' a' o' σ' H' ao' I' q'=>Ab ⟨a',o',σ',H',ao',I',q'⟩
 exact Rp hc hgn ha loop (T.self _ 0 _ _ _ st2 loop)
end
section
variable {X:Cx} {α:Type} {scope:Scope} {fv:List (Nat×Str)}
theorem Mu {pins:List (Addr×Obj)}{σ:St}{H:Hp}{s:Shared}{fp:List Addr}{cl:List (Str×Addr)}{h₁:Heap}{own:List Str}{o0:Obj}(I:Inv X pins σ H s)(L:L0 X scope fv)(hf:∀ b∈fp,Hv X pins H b)(hfo:∀ b∈fp,∃ o,s.heap.get? b=some o)
  (hsub:∀ x c,cl.lookup x=some c->X.env.cells.lookup x=some c) (hhas:∀ y∈scope.names,y.2=.free->∃ c,cl.lookup y.1=some c)
  (hns:h₁.Ns (s.heap.objs.size+1) (λx=>([]:List (Str×Value)).reverse.lookup x)) (hold:∀ b o,s.heap.get? b=some o->h₁.get? b=some o) (hD:h₁.get? s.heap.objs.size=some o0) (nc0:∀ v,o0.data≠.cell v) {tk:Nat} :
  Inv (CQ X scope (own++fv.map (·.2)) cl (s.heap.objs.size+1) s H fp) [(s.heap.objs.size,o0)] (st0 own.length fv σ) H { s with heap:=h₁,toks:=tk }:=by
 have nst:∀ b,s.heap.objs.size≤b->b∉frs X.stack:=λb hb hm=>by
  rcases Ah.mp (I.stkSub b hm) with e|e
  ·exact absurd I.lt (by rw [← e];exact Nat.not_lt.mpr hb)
  ·exact I.nofs hb e
 have fpst:∀ b∈fp,b∉frs X.stack:=λb hb hm=>by
  obtain ⟨_,f1,f2,_⟩:=hf b hb
  rcases Ah.mp (I.stkSub b hm) with e|e
  ·exact f1 e
  ·exact f2 e
 have celllt:∀ x c,cl.lookup x=some c->c<s.heap.objs.size:=λx c e=>by
  obtain ⟨v,z⟩:=I.cell x c (hsub x c e)
  exact z.lt
 refine ⟨⟨I.ok.mod,L.kind,I.ok.glob,I.ok.blt,Nat.le_succ _,λx y c h1 h2=>I.ok.inj x y c (hsub _ _ h1) (hsub _ _ h2),λx hx=>hhas (x,.free) (IK L.cell hx) rfl,λ_ _ z=>Bool.noConfusion z,I.ok.hd,I.ok.frames,.inl rfl,
   λb hb=>⟨?_,λx c e z=>?_⟩,I.bs,AN I.ok.bsz I.sz,λb o e hb=>?_,fpst,I.stack,I.stkFree⟩,
  rfl,I.bare,Un.kept hold,⟨_,hns,λi x v e1 e2 e3=>?_⟩,λx c e=>?_,I.hok.fresh (Nat.le_succ _),λx c e=>I.freeC x c (hsub x c e),λp hp=>?_,I.hok.kept hold,?_⟩
 ·obtain ⟨o,e⟩:=hfo b hb
  exact AA (A5 (An e))
 ·exact (hf b hb).2.2.2.2.1 x c (hsub x c e) z
 ·obtain ⟨_,_,_,f3,_⟩:=hf b hb
  rcases f3 with f3|f3
  ·exact I.ok.noex b o e f3
  ·exact absurd (Az (An e) (AN I.ok.bsz f3)) (A8 _)
 ·have e1':(own++fv.map (·.2))[i]? = some x:=e1
  unfold st0 at e2
  by_cases hi:i<own.length
  ·rw [Av (by simpa using hi),BK] at e2
   split at e2<;>cases e2
  ·rw [Bt (by simpa using hi),List.length_replicate,Ap] at e2
   rw [Bt (by simpa using hi),Ap] at e1'
   cases hp:fv[i-own.length]? with
   | none=>rw [hp] at e1';cases e1'
   | some p =>
    rw [hp] at e1' e2
    have ex:p.2=x:=AI e1'
    have ev:σ.getD p.1 none=some v:=AI e2
    obtain ⟨q1,q2,q3⟩:=L.fv.get hp
    rw [ex] at q1 q2 q3
    have hσ:σ[p.1]? = some (some v):=by
     rw [AL] at ev
     cases q:σ[p.1]? with
     | none=>rw [q] at ev;cases ev
     | some w=>rw [q] at ev;exact congrArg some ev
    obtain ⟨m,_,hl⟩:=I.loc
    obtain ⟨u,r,l⟩:=hl p.1 x v q1 hσ (by rcases q2 with z|z;exact .inr (.inl z);exact .inr (.inr z))
    refine ⟨u,r,.inr ⟨q3,?_⟩⟩
    rcases l with ⟨k,_⟩|⟨_,c,ec,z⟩
    ·exfalso
     have k':X.env.scope.names.lookup x=some .local:=k
     rcases q2 with z|z<;>rw [k'] at z<;>cases z
    ·obtain ⟨c',ec'⟩:=hhas (x,.free) (IK L.cell q3) rfl
     have:c'=c:=AI ((hsub x c' ec').symm.trans ec)
     subst this
     obtain ⟨o,ho,hd⟩:=z
     exact ⟨c',ec',o,hold _ _ ho,hd⟩
 ·obtain ⟨v,o,ho,hd⟩:=I.cell x c (hsub x c e)
  exact ⟨v,o,hold _ _ ho,hd⟩
 ·have e:p=(s.heap.objs.size,o0):=by simpa [CQ] using hp
  subst e
  exact ⟨hD,I.hok.fresh (Aj _),AA (A3 _),nst _ (Aj _),nc0⟩
 ·show (st0 own.length fv σ).length=(own++fv.map (·.2)).length
  unfold st0
  simp
structure Mb (α:Type) extends Acc α where
 cls:String
 d0:Data
 a0:α
 ao0:ao a0 { cls:=.type cls,dict:=none,data:=d0 }
 fin:α->Prop
 ho:Addr->α->HO
 sz:sizeOk d0
 fr:({ cls:=.type cls,dict:=none,data:=d0 }:Obj).isFreed=false
 lay:∀ (P:Program) (w:World) (H:Hp) (h:Heap) (D:Addr) (a:α) (o:Obj),ao a o->fin a->h.get? D=some o->sysModules<D->ObjOk P w (upd H D (ho D a)) h D (ho D a)
def tCo (wi:TI)(nc:Nat)(fv:List (Nat×Str))(B:Mb α)(g:TG)(tt:TT)(tm:TM α):TE:=fun σ H Q=>wi σ H λJ H1=>CGo J g tt tm B.a0 (st0 nc fv σ) H1 λa _ H'=>B.fin a∧∀ p,H' p=none->Q (.ref p) (upd H' p (B.ho p a))
theorem JR {e:Expr}{gens:List Comprehension}{g:Comprehension}{rest:List Comprehension}{own:List Str}{wi:TI}{B:Mb α}{tg:TG}{tt:TT}{tm:TM α}{step:Addr->Addr->List (Str×Addr)->Sem Unit}{pos2:Pos}{newAcc:Sem Value}
  {pins:List (Addr×Obj)} {s:Shared} {σ:St} {H:Hp} {Q:VK} {use:Option (Value->Sem Unit)} {Qc:Value->Shared->Prop} (hc:IsC e gens) (hgens:gens=g::rest) (ha:g.is_async=0) (hnew:newAcc=newObj (.type B.cls) B.d0) (L:L0 X scope fv) (hi:PI X g.target g.iter wi)
  (heq:∀ it cl C D,compTurn e 0 (.ref it) (.ref D) (compEnvC scope cl C X.env)=FR g (.ref it) (compEnvC scope cl C X.env) (step D C cl) (.compLoop e 0 (.ref it) (.ref D) (compEnvC scope cl C X.env)))
  (hg:∀ cl C s₁ H₁ fp,PG (CQ X scope (own++fv.map (·.2)) cl C s₁ H₁ fp) g.target tg)
  (ht:∀ cl C s₁ H₁ fp,PF (CQ X scope (own++fv.map (·.2)) cl C s₁ H₁ fp) g.ifs tt)
  (hm:∀ cl C s₁ H₁ fp D,DOk (CQ X scope (own++fv.map (·.2)) cl C s₁ H₁ fp) D->PM (CQ X scope (own++fv.map (·.2)) cl C s₁ H₁ fp) B.toAcc D (step D C cl) tm)
  (hs:∀ x,foldedSetIterable g.iter X.env x=pure x) (hb:∀ {s2:Shared} {H2:Hp},Inv X pins σ H2 s2->sysModules<s2.heap.objs.size) (I:Inv X pins σ H s) (h:tCo wi own.length fv B tg tt tm σ H Q)
  (fin:∀ (s6:Shared) (H':Hp) (D C:Addr) (m:Str->Option Value),Inv X pins σ H' s6->Hv X pins H' C->s6.heap.Ns C m->Q (.ref D) H'->compPost (model X.prog X.w) X.A X.xe use Qc (.ref D) C (.ok .next) s6) :
  wpAny (model X.prog X.w) X.A (comprehension e scope X.env pos2 newAcc false (eval g.iter X.env) use) Qc X.xe s:=by
 obtain ⟨cl,hclos,hsub,hhas⟩:=NF (scope:=scope) (env:=X.env) λy hy hf=>I.ok.has y.1 (L.free y hy hf)
 have hcl:clausesOf e=g::rest:=by subst hgens;cases hc<;>rfl
 refine wpAny_comprehension_free (use:=use) hcl hs hclos L.kind L.names (thn (hi pins s σ H _ I h) λv s1 h1=>thn h1 λitv s2 h2=>?_)
 obtain ⟨it,fp,tn,J,H2,e2,I2,T,st2,f2,w⟩:=h2
 subst e2
 have hfo:∀ b∈fp,∃ o,s2.heap.get? b=some o:=λb hb=>let ⟨o,e,_⟩:=T.obj _ _ st2 b hb;⟨o,e⟩
 rw [hnew]
 refine AU (hd:=B.sz) (wpAny_newFunctionEnv L.cell (by intro y hy;simp at hy) (λh₁ hns₁ hsb₁=>?_) L.kind)
 dsimp only at hns₁ hsb₁ ⊢
 have hCe:(s2.heap.push { cls:=.type B.cls,dict:=none,data:=B.d0 }).objs.size=s2.heap.objs.size+1:=Bc _ _
 rw [hCe] at hns₁ hsb₁ ⊢
 have old:∀ b o,s2.heap.get? b=some o->h₁.get? b=some o:=λb o e=>hsb₁.extBut b o (AA (A5 (An e))) (Ad _ (Ad _ e))
 have hD₁:h₁.get? s2.heap.objs.size=some { cls:=.type B.cls,dict:=none,data:=B.d0 }:=hsb₁.extBut _ _ (AA (A3 _)) (Ad _ (Ai _ B.fr))
 have I4:=Mu (own:=own) (tk:=s2.toks+([]:List (Str×Value)).length) I2 L f2 hfo hsub hhas hns₁ old hD₁ (B.nc _ _ B.ao0)
 have st4:tn 0 h₁:=T.keep _ _ _ st2 λb _ o e=>old b o e
 have celllt:∀ x c,cl.lookup x=some c->c<s2.heap.objs.size:=λx c e=>by
  obtain ⟨v,z⟩:=I2.cell x c (hsub x c e)
  exact z.lt
 have nst:s2.heap.objs.size∉frs X.stack:=λhm=>by
  rcases Ah.mp (I2.stkSub _ hm) with e|e
  ·exact absurd I2.lt (by rw [← e];exact A8 _)
  ·exact I2.nofs (Aj _) e
 have dk:DOk (CQ X scope (own++fv.map (·.2)) cl (s2.heap.objs.size+1) s2 H2 fp) s2.heap.objs.size:=⟨Aj _,AA (A3 _),nst,λx c e=>AA (celllt x c e),λp hp=>nomatch hp⟩
 have fpok:∀ b∈fp,Hv (CQ X scope (own++fv.map (·.2)) cl (s2.heap.objs.size+1) s2 H2 fp) [] H2 b:=λb hb=>by
  obtain ⟨o,eo⟩:=hfo b hb
  have blt:=An eo
  refine ⟨(f2 b hb).1,AA (A5 blt),λhm=>?_,.inl hb,λx c e=>(f2 b hb).2.2.2.2.1 x c (hsub x c e),λp hp=>?_⟩
  ·obtain ⟨_,f1,f3,_⟩:=f2 b hb
   rcases Ah.mp (I2.stkSub b hm) with e|e
   ·exact f1 e
   ·exact f3 e
  ·have hp':p∈([]:List (Addr×Obj)):=by simpa [CQ] using hp
   cases hp'
 have fD:∀ b∈fp,s2.heap.objs.size≠b:=λb hb=>by
  obtain ⟨o,eo⟩:=hfo b hb
  exact Nat.ne_of_gt (An eo)
 have big:sysModules<s2.heap.objs.size:=hb I2
 have loop:=cgo (X:=CQ X scope (own++fv.map (·.2)) cl (s2.heap.objs.size+1) s2 H2 fp) (R:=compPost (model X.prog X.w) X.A X.xe use Qc (.ref s2.heap.objs.size) (s2.heap.objs.size+1)) (pins:=[]) hc L.calm rfl (heq it cl (s2.heap.objs.size+1) s2.heap.objs.size) (hg cl (s2.heap.objs.size+1) s2 H2 fp) (ht cl (s2.heap.objs.size+1) s2 H2 fp) (hm cl (s2.heap.objs.size+1) s2 H2 fp _ dk) T B.ao0 I4 st4 fpok fD (λp hp=>nomatch hp) w
  λs6 a6 o6 σ6 H6 ao6 I6 q6=>by
   obtain ⟨qf,qn⟩:=q6
   obtain ⟨m,hn,_⟩:=I6.loc
   obtain ⟨eD,nD,_⟩:=I6.pin (s2.heap.objs.size,o6) (AB _ (Ao.mpr rfl))
   have nC:H6 (s2.heap.objs.size+1)=none:=I6.free
   have U:Un (frs X.stack) fp H2 H6 s2.heap s6.heap:=I6.base
   have ok6:HOk X.prog X.w H6 s6.heap:=I6.hok
   have J6:Inv X pins σ (upd H6 s2.heap.objs.size (B.ho s2.heap.objs.size a6)) s6:=I2.call' (s':=s6) I6.os (U.lay (Aj _) nD) (ok6.lay nD (B.lay _ _ _ _ _ _ _ ao6 qf eD big)) I6.bare λb hb=>by
    obtain ⟨_,f1,_,f3,f4,f5⟩:=f2 b hb
    exact ⟨f3,f1,f4,f5⟩
   exact fin s6 _ _ _ m J6 (I2.fpOk (Nat.le_succ _) (by rw [CK (Nat.ne_of_gt (A3 _))];exact nC)) hn (qn _ nD)
 exact Rp hc (by rw [hgens];rfl) ha loop (T.self _ 0 _ _ _ st4 loop)
end
noncomputable def Qg:Mb (List V) where
 ao:=λys o=>∃ its k,o={ cls:=.type "list",data:=.seq its k }∧Vals ys its.toList
 nc:=λa o h v z=>by obtain ⟨its,k,rfl,_⟩:=h;cases z
 cls:="list"
 d0:=.seq ([]:List Value).toArray
 a0:=[]
 ao0:=⟨#[],0,rfl,.nil⟩
 fin:=λys=>ys.length≤sizeLine
 ho:=λ_ ys=>.lst ys
 sz:=by size_fits
 fr:=rfl
 lay:=λP w H h D a o ao hf hD _=>by
  obtain ⟨its,k,rfl,r⟩:=ao
  exact ⟨hf,its.toList,k,r,by simpa using hD⟩
section
variable {X:Cx} {D:Addr}
theorem OI {elt:Expr}{te:TE}(dk:DOk X D)(he:PE X elt te):PM X Qg.toAcc D (KR elt (.ref D) X.env) (λa σ H Q=>te σ H λv H'=>a.length≤sizeLine∧Q (a++[v]) σ H'):=by
 intro pins s σ H Q a o ao pD I h
 unfold KR
 refine Aa (thn (he _ s σ H _ I h) λu s1 ⟨y,H1,I1,r1,hl,q1⟩=>?_)
 obtain ⟨its,k,rfl,r⟩:=ao
 obtain ⟨e1,n1,l1,f1,_⟩:=I1.pin (D,_) (AB _ (AB _ (Ao.mpr rfl)))
 have hz:its.size≤sizeLine:=by
  have e:=r.length
  simp only [Array.length_toList] at e
  ext
 refine Aa (wpAny_list_append_plain (hsz:=hz) ⟨k,e1⟩ λh' hl' sb=>Ab ?_)
 obtain ⟨k',hk'⟩:=hl'
 have I2:Inv X pins σ H1 { s1 with heap:=h' }:=(I1.pins_sub λp hp=>A1 _ hp).turned (t':=s1.toks) (it:=D) (λb o hb e=>(sb.2 b hb).trans e) n1 dk.nl (.inr dk.up) dk.cl λp hp=>by
  rcases AE.mp hp with z|z
  ·exact dk.pn p z
  ·exact pD p z
 refine ⟨a++[y],_,σ,H1,⟨its.push u,k',rfl,?_⟩,I2.pins_of λp hp=>?_,q1⟩
 ·rw [Array.toList_push]
  exact r.append (.cons r1 .nil)
 ·rcases AE.mp hp with z|z
  ·exact I2.pin p (AB _ z)
  ·rw [Ao.mp z]
   exact ⟨hk',n1,l1,f1,λv z=>by cases z⟩
end
end L2
namespace PV
open PySem L2 PySem.Spec PyProof.Rows
abbrev EnV (x:Int×V×V) (e:DictEntry):Prop:=e.hash=x.1∧RelV x.2.1 e.key∧RelV x.2.2 e.val
noncomputable def J5 (k:D)(h:Int)(kv vv:V):List D->List (Int×V×V)->List (Int×V×V)
 | k'::ks,x::xs=>if k'=k then (x.1,x.2.1,vv)::xs else x::J5 k h kv vv ks xs
 | _,xs=>xs++[(h,kv,vv)]
theorem Ih {k:D}{h:Int}{kv vv:V}:∀ {ks:List D} {xs:List (Int×V×V)},k∉ks->ks.length=xs.length->J5 k h kv vv ks xs=xs++[(h,kv,vv)]
 | [],_,_,_=>by unfold J5;rfl
 | _::_,[],_,e=>by simp at e
 | k'::ks,x::xs,n,e=>by
  rw [Ah,not_or] at n
  rw [J5,if_neg (λz=>n.1 z.symm),Ih n.2 (by simpa using e)]
  rfl
theorem Jp {k:D}{h:Int}{kv vv:V}:∀ {ks:List D} {xs:List (Int×V×V)} {j:Nat} (hj:j<xs.length),ks.Nodup->ks[j]? = some k->J5 k h kv vv ks xs=xs.set j (xs[j].1,xs[j].2.1,vv)
 | [],_,_,_,_,e=>by simp at e
 | _::_,[],_,hj,_,_=>by simp at hj
 | k'::ks,x::xs,0,hj,n,e=>by simp at e;subst e;simp [J5]
 | k'::ks,x::xs,j+1,hj,n,e=>by
  rw [Bx] at n
  simp at e
  have:k'≠k:=λz=>n.1 (by rw [z];exact Al e)
  rw [J5,if_neg this,Jp (by simpa using hj) n.2 e]
  rfl
abbrev Mx (β:Type):=β->Ro->Sto->Rs β
noncomputable def cGo {β:Type}(g:Option Nat)(m0:Sto)(tg:Gx)(tt:Tx)(st:Mx β)(ro:Ro):List D->β->Sto->Rs β
 | [],b,mu=>some (b,mu)
 | d::ds,b,mu=>bM (tg d ro mu) λro1 m1=>bM (tt ro1 m1) λc m2 =>
  if c=true then bM (st b ro1 m2) λb' m3=>D9 g m0 m3 (cGo g m0 tg tt st ro ds b' m3) else D9 g m0 m2 (cGo g m0 tg tt st ro ds b m2)
def stL (el:Ex):Mx (List D):=λb ro mu=>bM (el ro mu) λy m=>if b.length<sizeLine then some (b++[y],m) else none
def stI {β:Type}(i:Ix)(tg:Gx)(tt:Tx)(st:Mx β):Mx β:=λb ro mu=>bM (i ro mu) λp m=>cGo p.2 m tg tt st ro p.1 b m
def eCo {β:Type}(i:Ix)(nc:Nat)(fvs:List Nat)(tg:Gx)(tt:Tx)(st:Mx β)(b0:β)(fin:β->Sto->D×Sto):Ex:=λro mu=>bM (i ro mu) λp m1=>bM (cGo p.2 m1 tg tt st (r0 nc fvs ro) p.1 b0 m1) λb m2=>some (fin b m2)
noncomputable def P7 (b:List D)(mu:Sto):D×Sto:=(.lst b,mu)
def GOw (lo hi:Nat)(tg:Gx):Prop:=∀ d ro mu ro' mu',tg d ro mu=some (ro',mu')->ro'.length=ro.length∧∀ i,i<lo∨hi≤i->ro'[i]? = ro[i]?
theorem MB {lo hi i:Nat}(h1:lo≤i:=by decide)(h:i<hi:=by decide):GOw lo hi (gNm i):=λd ro mu ro' mu' e=>by
 cases e
 exact ⟨by simp,λj hj=>AJ (by ext)⟩
def rdM (K:Zc){α β:Type}(rp:List Addr->Hp->β->α->Prop)(ok:Ro->Prop)(st:Mx β):TM α:=λa σ H Q=>∃ th mu ro b,StoOk K th mu H∧EnvOk K th H ro σ∧ok ro∧rp th H b a ∧
 Tr K th H (st b ro mu) λb' th' _ H'=>∀ a' σ',EnvOk K th' H' ro σ'->rp th' H' b' a'->Q a' σ' H'
def RpX {α β:Type}(rp:List Addr->Hp->β->α->Prop):Prop:=∀ {th:List Addr} {H:Hp} {th':List Addr} {H':Hp} {b:β} {a:α},Ext th H th' H'->HC th H->rp th H b a->rp th' H' b a
def rpL (K:Zc)(th:List Addr)(H:Hp)(zs:List D)(ys:List V):Prop:=RepL K th H zs ys∧zs.length≤sizeLine
def rpD (K:Zc)(th:List Addr)(H:Hp)(p:List D×List D)(xs:List (Int×V×V)):Prop:=xs.map (·.1)=EO K.w p.1∧RepL K th H p.1 (xs.map (·.2.1))∧RepL K th H p.2 (xs.map (·.2.2))∧KeysOk p.1
section
variable {X:Cx} {K:Zc} {th:List Addr} {mu:Sto} {H:Hp} {α β:Type} {rp:List Addr->Hp->β->α->Prop} {ok:Ro->Prop} {st:Mx β} {tg:Gx} {tt:Tx}
theorem OR:RpX (rpL K):=λe t ⟨h1,h2⟩=>⟨h1.ext e t,h2⟩
theorem NB {lo hi:Nat}(ow:GOw lo hi tg)(rx:RpX rp){ro:Ro}(hro:∀ i d,ro[i]? = some (some d)->i<lo∨hi≤i)(hok:∀ d mu ro' mu',tg d ro mu=some (ro',mu')->ok ro'){J:It}{ds:List D}{gd:Option Nat}{a:α}{b:β}{σ:L2.St}{Q:α->L2.St->Hp->Prop}
  (io:Ob K J th mu H ds gd) (so:StoOk K th mu H) (en:EnvOk K th H ro σ) (r:rp th H b a) (t:Tr K th H (cGo gd mu tg tt st ro ds b mu) λb' th' _ H'=>∀ a' σ',EnvOk K th' H' ro σ'->rp th' H' b' a'->Q a' σ' H') :
  CGo J (rdG K tg) (rdT K tt) (rdM K rp ok st) a σ H Q:=by
 refine ⟨λk n a' σ' H'=>n=ds.length-k∧k≤ds.length∧∃ th' mu' b',StoOk K th' mu' H'∧EnvOk K th' H' ro σ'∧Ext th H th' H'∧gOk gd mu mu'∧rp th' H' b' a' ∧
  Tr K th' H' (cGo gd mu tg tt st ro (ds.drop k) b' mu') λb' th' _ H'=>∀ a' σ',EnvOk K th' H' ro σ'->rp th' H' b' a'->Q a' σ' H',⟨_,rfl,A0 _,th,mu,b,so,en,.refl _ _,?_,r,t⟩,?_⟩
 ·cases gd with
  | none=>exact True.intro
  | some k=>exact rfl
 rintro k n a2 st2 H2 ⟨rfl,hk,th2,mu2,b2,s2,en2,e2,g2,r2,t2⟩
 by_cases lt:k<ds.length
 ·refine .inr ?_
  have ek:ds[k]? = some ds[k]:=by simp
  obtain ⟨a1,a3⟩:=io.go th2 mu2 H2 e2 s2 g2 k ds[k] ek
  refine ⟨a1,λx H3 y=>?_⟩
  obtain ⟨e3,s3,r3⟩:=a3 x H3 y
  rw [List.drop_eq_getElem_cons lt] at t2
  unfold cGo at t2
  refine ⟨th2,mu2,ro,ds[k],s3,en2.ext e3 s2.out,r3,?_⟩
  refine (t2.ahead e3).bindE.mono λro1 th4 mu4 H4 e4 s4 t4 st4 en4=>?_
  obtain ⟨eq4,t4⟩:=t4
  obtain ⟨ol,ow'⟩:=ow _ _ _ _ _ eq4
  have back:∀ {th' H' σ'},EnvOk K th' H' ro1 σ'->EnvOk K th' H' ro σ':=λ{th' H' σ'} en'=>by
   refine ⟨by rw [← ol];exact en'.1,λi d e=>?_⟩
   exact en'.2 i d (by rw [ow' i (hro i d e)];exact e)
  refine ⟨th4,mu4,ro1,s4,en4,t4.bind.mono λc th5 mu5 H5 e5 s5 t5=>?_⟩
  have e14:Ext th H th5 H5:=((e2.trans e3).trans e4).trans e5
  have r5:rp th5 H5 b2 a2:=rx ((e3.trans e4).trans e5) s2.out r2
  cases c with
  | false =>
   obtain ⟨a,mu',q1,q2⟩:=t5
   obtain ⟨go5,q1⟩:=Fo q1
   exact ⟨ds.length-(k+1),by ext,rfl,lt,th5,mu5,b2,s5,back (en4.ext e5 s4.out),e14,go5,r5,a,mu',q1,q2⟩
  | true =>
   refine ⟨th5,mu5,ro1,b2,s5,en4.ext e5 s4.out,hok _ _ _ _ eq4,r5,Tr.mono (Tr.bind t5) λb6 th6 mu6 H6 e6 s6 t6 a6 σ6 en6 r6=>?_⟩
   obtain ⟨a,mu',q1,q2⟩:=t6
   obtain ⟨go6,q1⟩:=Fo q1
   exact ⟨ds.length-(k+1),by ext,rfl,lt,th6,mu6,b6,s6,back en6,e14.trans e6,go6,r6,a,mu',q1,q2⟩
 ·have e:k=ds.length:=by ext
  subst e
  rw [List.drop_length] at t2
  unfold cGo at t2
  exact .inl ⟨io.stop th2 mu2 H2 e2 s2 g2,t2.ret s2 a2 st2 en2 r2⟩
theorem SY {el:Ex}{a:List V}{σ:L2.St}{Q:List V->L2.St->Hp->Prop}(h:rdM K (rpL K) ok (stL el) a σ H Q):rdE K el σ H λv H'=>a.length≤sizeLine∧Q (a++[v]) σ H':=by
 obtain ⟨th,mu,ro,b,so,en,_,⟨r,hz⟩,t⟩:=h
 refine ⟨th,mu,ro,so,en,t.bind.mono λy th1 mu1 H1 e1 s1 t1 v rv=>?_⟩
 by_cases c:b.length<sizeLine
 ·rw [if_pos c] at t1
  exact ⟨by rw [r.len];exact hz,t1.ret s1 _ _ (en.ext e1 so.out) ⟨(r.ext e1 so.out).app (.cons rv .nil),by rw [Ag];exact c⟩⟩
 ·rw [if_neg c] at t1
  exact t1.no.elim
theorem W7 {i:Ix}{lo hi:Nat}(ow:GOw lo hi tg)(rx:RpX rp)(hl:∀ ro,ok ro->∀ i d,ro[i]? = some (some d)->i<lo∨hi≤i){a:α}{σ:L2.St}{Q:α->L2.St->Hp->Prop}(h:rdM K rp ok (stI i tg tt st) a σ H Q):rdI K i σ H λJ H1=>CGo J (rdG K tg) (rdT K tt) (rdM K rp (λ_=>True) st) a σ H1 Q:=by
 obtain ⟨th,mu,ro,b,so,en,o,r,t⟩:=h
 refine ⟨th,mu,ro,so,en,t.bind.mono λp th1 mu1 H1 e1 s1 t1 J io=>?_⟩
 exact NB (rp:=rp) ow rx (hl ro o) (λ_ _ _ _ _=>True.intro) io s1 (en.ext e1 so.out) (rx e1 so.out r) t1
def OW (K:Zc)(B:Mb α)(rp:List Addr->Hp->β->α->Prop)(fin:β->Sto->D×Sto):Prop:=∀ {th:List Addr} {mu:Sto} {H:Hp} {b:β} {a:α},StoOk K th mu H->rp th H b a->B.fin a∧∀ p,H p=none ->
 ∃ th',Ext th H th' (upd H p (B.ho p a))∧StoOk K th' (fin b mu).2 (upd H p (B.ho p a))∧Rep K th' (upd H p (B.ho p a)) (fin b mu).1 (.ref p)
theorem O5:OW K Qg (rpL K) P7:=λ{th mu H b a} so ⟨r,hz⟩=>⟨by show a.length≤sizeLine;rw [r.len];exact hz,λp hp=>⟨th,.new hp _,so.new hp _,Rep.newLst so hp r hz⟩⟩
theorem Zg {i:Ix}{nc hi:Nat}{fv:List (Nat×Str)}{B:Mb α}{b0:β}{fin:β->Sto->D×Sto}{σ:L2.St}{Q:VK}(hn:hi≤nc)(ow:GOw 0 hi tg)(rx:RpX rp)(f:OW K B rp fin)(r00:∀ th H,rp th H b0 B.a0)
  (hok:∀ ro d mu ro' mu',(∀ i,i<nc->∀ d,ro[i]?≠some (some d))->tg d ro mu=some (ro',mu')->ok ro')
  (h:rdE K (eCo i nc (fv.map (·.1)) tg tt st b0 fin) σ H Q):tCo (rdI K i) nc fv B (rdG K tg) (rdT K tt) (rdM K rp ok st) σ H Q:=by
 obtain ⟨th,mu,ro,so,en,t⟩:=h
 refine ⟨th,mu,ro,so,en,t.bind.mono λp th1 mu1 H1 e1 s1 t1 J io=>?_⟩
 have hno:∀ i,i<nc->∀ d,(r0 nc (fv.map (·.1)) ro)[i]?≠some (some d):=λi hi d e=>absurd (JM e) (Nat.not_le.mpr hi)
 refine NB (rp:=rp) ow rx (λi d e=>.inr (AN hn (JM e))) (λd mu ro' mu' e=>hok _ d mu ro' mu' hno e) io s1 (MF (en.ext e1 so.out)) (r00 _ _) (t1.bind.mono λb th2 mu2 H2 e2 s2 t2 a2 σ2 en2 r2=>?_)
 obtain ⟨f1,f2⟩:=f s2 r2
 refine ⟨f1,λq hq=>?_⟩
 obtain ⟨th3,x3,s3,r3⟩:=f2 q hq
 exact t2.retX x3 s3 _ r3
end
section
variable {X:Cx} {α β:Type} {scope:Scope} {e:Expr} {gens rest:List Comprehension} {g:Comprehension} {newAcc:Sem Value} {pos2:Pos} {B:Mb α} {rp:List Addr->Hp->β->α->Prop} {ok:Ro->Prop} {st:Mx β} {tg:Gx} {tt:Tx} {b0:β} {fin:β->Sto->D×Sto} {i:Ix} {step:Addr->Addr->List (Str×Addr)->Sem Unit}
theorem PM.weak {K:Acc α}{D:Addr}{m:Sem Unit}{t t':TM α}(h:PM X K D m t)(f:∀ a σ H Q,t' a σ H Q->t a σ H Q):PM X K D m t':=λpins s σ H Q a o ao pD I q=>h pins s σ H Q a o ao pD I (f a σ H Q q)
structure Td (X:Cx) (scope:Scope) (own:List Str) (fv:List (Nat×Str)) (e:Expr) (gens:List Comprehension) (g:Comprehension) (rest:List Comprehension) (newAcc:Sem Value) (B:Mb α) (rp:List Addr->Hp->β->α->Prop) (ok:Ro->Prop) (st:Mx β) (tg:Gx) (tt:Tx) (b0:β) (fin:β->Sto->D×Sto) (i:Ix)
  (step:Addr->Addr->List (Str×Addr)->Sem Unit):Prop where
 hc:IsC e gens
 hgens:gens=g::rest
 ha:g.is_async=0
 hnew:newAcc=newObj (.type B.cls) B.d0
 L:L0 X scope fv
 hi:SVI X g.target g.iter i
 ow:GOw 0 own.length tg
 rx:RpX rp
 f:OW X.z B rp fin
 r00:∀ th H,rp th H b0 B.a0
 hok:∀ ro d mu ro' mu',(∀ i,i<own.length->∀ d,ro[i]?≠some (some d))->tg d ro mu=some (ro',mu')->ok ro'
 heq:∀ it cl C D,compTurn e 0 (.ref it) (.ref D) (compEnvC scope cl C X.env)=FR g (.ref it) (compEnvC scope cl C X.env) (step D C cl) (.compLoop e 0 (.ref it) (.ref D) (compEnvC scope cl C X.env))
 hg:∀ cl C s₁ H₁ fp,SVG (CQ X scope (own++fv.map (·.2)) cl C s₁ H₁ fp) g.target tg
 ht:∀ cl C s₁ H₁ fp,SVF (CQ X scope (own++fv.map (·.2)) cl C s₁ H₁ fp) g.ifs tt
 hm:∀ cl C s₁ H₁ fp D,DOk (CQ X scope (own++fv.map (·.2)) cl C s₁ H₁ fp) D->PM (CQ X scope (own++fv.map (·.2)) cl C s₁ H₁ fp) B.toAcc D (step D C cl) (rdM X.z rp ok st)
 hs:∀ x,foldedSetIterable g.iter X.env x=pure x
theorem Z0 (own:List Str)(fv:List (Nat×Str))(c:Td X scope own fv e gens g rest newAcc B rp ok st tg tt b0 fin i step)(hev:eval e X.env=comprehension e scope X.env pos2 newAcc false (eval g.iter X.env)):SV X e (eCo i own.length (fv.map (·.1)) tg tt st b0 fin):=⟨λpins s σ H Q I h=>by
 rw [hev]
 refine JR (own:=own) (fv:=fv) (B:=B) (tg:=rdG X.z tg) (tt:=rdT X.z tt) (tm:=rdM X.z rp ok st) (step:=step) (wi:=rdI X.z i) (Q:=Q) c.hc c.hgens c.ha c.hnew c.L c.hi.r c.heq (λcl C s₁ H₁ fp=>(c.hg cl C s₁ H₁ fp).r) (λcl C s₁ H₁ fp=>(c.ht cl C s₁ H₁ fp).r) c.hm c.hs (λI=>HF I) I
  (Zg (rp:=rp) (Aj _) c.ow c.rx c.f c.r00 c.hok h) λs6 H' D C m J6 fC nsC q=>?_
 exact ⟨m,nsC,λh' sb=>⟨.ref D,H',J6.turnedL (ch:=[C]) (t':=s6.toks) (Iu sb) (λb hb=>by rw [Ao.mp hb];exact fC),rfl,q⟩⟩⟩
end
section
variable {X:Cx} {scope:Scope} {t1 i1 t2 i2 kx vx elt:Expr} {f1 f2:List Expr} {pos:Pos} {i j:Ix} {g g2:Gx} {tt tt2:Tx} {el kk vv:Ex} {fin:List D×List D->Sto->D×Sto}
def roN (lo hi:Nat)(ro:Ro):Prop:=∀ i d,ro[i]? = some (some d)->i<lo∨hi≤i
theorem Xv {n1 n:Nat}(ow:GOw 0 n1 g):∀ ro d mu ro' mu',(∀ i,i<n->∀ d,ro[i]?≠some (some d))->g d ro mu=some (ro',mu')->roN n1 n ro':=λro d mu ro' mu' hn e i d' e'=>by
 rcases Nat.lt_or_ge i n1 with h|h
 ·exact .inl h
 ·refine .inr (Nat.not_lt.mp λhlt=>?_)
  rw [(ow _ _ _ _ _ e).2 i (.inr h)] at e'
  exact hn i hlt d' e'
theorem Ru {n1 n:Nat}(ow:GOw 0 n1 g)(h:n1≤n):GOw 0 n g:=λd ro mu ro' mu' e=>⟨(ow _ _ _ _ _ e).1,λi hi=>(ow _ _ _ _ _ e).2 i (by ext)⟩
theorem XX (own:List Str)(n1:Nat)(hn1:n1≤own.length)(fv:List (Nat×Str))(L:L0 X scope fv)(hi:SVI X t1 i1 i)(ow:GOw 0 n1 g)(ow2:GOw n1 own.length g2)
  (hg:∀ cl C s₁ H₁ fp,SVG (CQ X scope (own++fv.map (·.2)) cl C s₁ H₁ fp) t1 g)
  (ht:∀ cl C s₁ H₁ fp,SVF (CQ X scope (own++fv.map (·.2)) cl C s₁ H₁ fp) f1 tt)
  (hj:∀ cl C s₁ H₁ fp,SVI (CQ X scope (own++fv.map (·.2)) cl C s₁ H₁ fp) t2 i2 j)
  (hg2:∀ cl C s₁ H₁ fp,SVG (CQ X scope (own++fv.map (·.2)) cl C s₁ H₁ fp) t2 g2)
  (ht2:∀ cl C s₁ H₁ fp,SVF (CQ X scope (own++fv.map (·.2)) cl C s₁ H₁ fp) f2 tt2)
  (he:∀ cl C s₁ H₁ fp,SV (CQ X scope (own++fv.map (·.2)) cl C s₁ H₁ fp) elt el)
  (hs:∀ x,foldedSetIterable i1 X.env x=pure x:=by intro _;rfl) (hs2:∀ (env:Env) x,foldedSetIterable i2 env x=pure x:=by intro _ _;rfl) :
  Td X scope own fv (.ListComp elt [⟨t1,i1,f1,0⟩,⟨t2,i2,f2,0⟩] scope pos) [⟨t1,i1,f1,0⟩,⟨t2,i2,f2,0⟩] ⟨t1,i1,f1,0⟩ [⟨t2,i2,f2,0⟩] (newList []) Qg (rpL X.z) (roN n1 own.length) (stI j g2 tt2 (stL el)) g tt [] P7 i
   (λD C cl=>deeper (.ListComp elt [⟨t1,i1,f1,0⟩,⟨t2,i2,f2,0⟩] scope pos) i2 (.ref D) (compEnvC scope cl C X.env)) where
 hc:=.l
 hgens:=rfl
 ha:=rfl
 hnew:=rfl
 L:=L
 hi:=hi
 ow:=Ru ow hn1
 rx:=OR
 f:=O5
 r00:=λ_ _=>⟨.nil,A0 _⟩
 hok:=Xv ow
 heq:=λ_ _ _ _=>TB
 hg:=hg
 ht:=ht
 hm:=λcl C s₁ H₁ fp D dk=>PM.weak (Qv (X:=CQ X scope (own++fv.map (·.2)) cl C s₁ H₁ fp) (g2:=⟨t2,i2,f2,0⟩) (step:=KR elt (.ref D) (compEnvC scope cl C X.env)) .l L.calm rfl rfl rfl (hj cl C s₁ H₁ fp).r (hs2 _) (λ_=>Ve) (hg2 cl C s₁ H₁ fp).r (ht2 cl C s₁ H₁ fp).r
  (PM.weak (OI dk (he cl C s₁ H₁ fp).r) λa σ H Q h=>SY h)) λa σ H Q h=>W7 (rp:=rpL X.z) ow2 OR (λro o=>o) h
 hs:=hs
end
theorem Hr:entryFor table "dict.update.loop"=some Builtin.«dict.update.loop»:=entryFor_of_tree (by kernel_rfl)
theorem EC:plainId "dict.update.loop"=true:=by symm
theorem Io {α β:Type}{F G:α->β->Prop}:∀ {xs:List α} {ys:List β},Paired F xs ys->(∀ x y,F x y->G x y)->Paired G xs ys
 | _,_,.nil,_=>.nil
 | _,_,.cons r t,f=>.cons (f _ _ r) (Io t f)
theorem Hd.keep {h h':Heap}{d:D}{u:Value}(x:Hd h d u)(k:∀ b o,h.get? b=some o->h'.get? b=some o):Hd h' d u:=by
 obtain ⟨a,b,as,c⟩:=x
 exact ⟨a,b,as,Reads.keeps k c⟩
def Wn (w:World)(k:D)(u r:Value)(ks:List D)(es es':List DictEntry):Prop:=(k∉ks∧es'=es++[⟨DJ w k,u,r⟩])∨∃ (j:Nat) (e:DictEntry),ks[j]? = some k∧es[j]? = some e∧es'=es.set j { e with val:=r }
theorem Og {w:World}{h:Heap}{k:D}{u r:Value}{ks:List D}{es es':List DictEntry}(x:Hd h k u)(en:Paired (EnK w h) ks es)(p:Wn w k u r ks es es')(v:D)(ds:List D):Paired (EnK w h) (D2 k v ks ds).1 es':=by
 unfold D2
 rcases p with ⟨n,rfl⟩|⟨j,e,ej,ee,rfl⟩
 ·rw [if_neg n];exact Ig en (.cons ⟨rfl,x⟩ .nil)
 ·rw [if_pos (Al ej)]
  obtain ⟨e2,e3,e4⟩:=(Dn en j).1 k ej
  rw [ee] at e3
  cases e3
  have:=H8 j en (x:=k) (y:={ e with val:=r }) ⟨e4.1,e4.2⟩
  have hs:ks.set j k=ks:=by
   refine Bj λi=>?_
   by_cases c:j=i
   ·subst c;rw [BQ (Af.mp ej).1,ej]
   ·rw [AJ c]
  rw [hs] at this
  exact this
theorem Ov {w:World}{k:D}{u r:Value}{kv vv:V}{ks:List D}{xs:List (Int×V×V)}{es es':List DictEntry}(nd:ks.Nodup)(l:ks.length=xs.length)(pr:Paired EnV xs es)(ru:RelV kv u)(rr:RelV vv r)(p:Wn w k u r ks es es'):Paired EnV (J5 k (DJ w k) kv vv ks xs) es':=by
 rcases p with ⟨n,rfl⟩|⟨j,e,ej,ee,rfl⟩
 ·rw [Ih n l];exact Ig pr (.cons ⟨rfl,ru,rr⟩ .nil)
 ·have hj:j<xs.length:=by rw [← l];exact (Af.mp ej).1
  rw [Jp hj nd ej]
  obtain ⟨y,y1,y2,y3,y4⟩:=(Dn pr j).1 xs[j] (Ay hj)
  rw [ee] at y1
  cases y1
  exact H8 j pr ⟨y2,y3,rr⟩
noncomputable abbrev dOb (es:Array DictEntry) (ep:Nat):Obj:={ cls:=.type "dict",data:=.dict es ep }
section
variable {prog:Program} {w:World} {A:Around} {E:Value->Shared->Prop} {s:Shared}
theorem YI {D':Addr}{es:Array DictEntry}{ep:Nat}{ks:List D}{k:D}{u r:Value}{Q:Unit->Shared->Prop}(hu:A.units+8<cLine)(hd:Hd s.heap k u)(g1:s.heap.get? D'=some (dOb es ep))(en:Paired (EnK w s.heap) ks es.toList)(nd:ks.Nodup)(lt:ks.length<sizeLine)
  (q:∀ h' tk es' ep',Heap.SameBut D' s.heap h'->h'.get? D'=some (dOb es' ep')->Wn w k u r ks es.toList es'.toList∧(ep=es.size->ep'=es'.size)->Q () { s with heap:=h',toks:=tk }):wpAny (model prog w) A (dictSet D' u r) Q E s:=by
 have g3:(dOb es ep).data=.dict es ep:=rfl
 unfold dictSet
 refine AH (Aa (hd.hash hu λtk=>?_))
 unfold dictSetHashed
 refine AH (Aa (JG (s:={ s with toks:=tk }) hu hd g1 g3 en nd (λz=>?_) λj ej=>?_))
 ·have hz0:es.size≤sizeLine:=by rw [← Array.length_toList,← Dl en];ext
  refine Aa (Bq (wpAny_updateDictKeys (s:={ s with toks:=tk }) g1 g3 (hz:=hz0) ?_))
  have so1:=AS (Obj.mapDictKeys (·.push ⟨DJ w k,u,r⟩)) g1 (Obj.isFreed_of_dict (Obj.data_mapDictKeys g3 _))
  refine q _ _ (es.push ⟨DJ w k,u,r⟩) (ep+1) (AF ..) so1 ⟨.inl ⟨z,by rw [Array.toList_push]⟩,λge=>by rw [Array.size_push,ge]⟩
 ·have hje:j<es.size:=by rw [← Array.length_toList,← Dl en];exact (Af.mp ej).1
  refine Aa (Bq (Aa (wpAny_updateDict (s:={ s with toks:=tk }) g1 g3 (wpAny_point ?_))))
  have so1:=AS (Obj.mapDict (·.modify j λe=>{ e with val:=r })) g1 (Obj.isFreed_of_dict (Obj.data_mapDict g3 _))
  refine q _ _ (es.modify j λe=>{ e with val:=r }) ep (AF ..) so1 ⟨.inr ⟨j,es[j],ej,by rw [AD,Ax hje],?_⟩,λge=>by rw [Array.size_modify,ge]⟩
  rw [Array.toList_modify]
  refine Bj λi=>?_
  rw [List.getElem?_modify]
  by_cases c:j=i
  ·subst c
   rw [BQ (by simpa using hje)]
   simp [hje]
  ·rw [AJ c]
   simp [c]
def PrV (h:Heap)(x:D×V×V)(u:Value):Prop:=∃ p ku vu,u=.ref p∧h.IsTuple p #[ku,vu]∧Hd h x.1 ku∧RelV x.2.1 ku∧RelV x.2.2 vu
def F7 (w:World)(a:List D×List (Int×V×V))(x:D×V×V):List D×List (Int×V×V):=((D2 x.1 .non a.1 []).1,J5 x.1 (DJ w x.1) x.2.1 x.2.2 a.1 a.2)
theorem Ie {k v:D}{ks ds:List D}(n:ks.Nodup):(D2 k v ks ds).1.Nodup∧(D2 k v ks ds).1.length≤ks.length+1:=by
 unfold D2
 split
 ·exact ⟨n,Nat.le_succ _⟩
 ·rename_i z
  refine ⟨BL.mpr ⟨n,by simp,λx hx y hy=>?_⟩,by rw [Ag];exact Aj _⟩
  rw [Ao.mp hy]
  exact λe=>z (e▸hx)
theorem M6 {a:List D×List (Int×V×V)}{x:D×V×V}(l:a.1.length=a.2.length)(n:a.1.Nodup):(F7 w a x).1.length=(F7 w a x).2.length:=by
 unfold F7 D2
 dsimp only
 by_cases z:x.1∈a.1
 ·obtain ⟨j,ej⟩:=A7.mp z
  have hj:j<a.2.length:=by rw [← l];exact (Af.mp ej).1
  rw [if_pos z,Jp hj n ej,List.length_set]
  exact l
 ·rw [if_neg z,Ih z l,Ag,Ag,l]
  rfl
def Qe (w:World)(h0 h:Heap)(d:Addr)(a:List D×List (Int×V×V)):Prop:=∃ es ep,h.get? d=some (dOb es ep)∧Paired (EnK w h0) a.1 es.toList∧Paired EnV a.2 es.toList∧a.1.Nodup∧a.1.length=a.2.length∧ep=es.size
theorem ZA {R:Result->Shared->Prop}(hu:A.in1.units+8<cLine){I d:Addr}{fp:List Addr}{P:Nat->Value->Prop}{St:Nat->Heap->Prop}{xs:List (D×V×V)}(W:Walks prog w A.in1 I fp [I] xs.length P St)(hdf:d∉fp){h0:Heap}(hI:h0.get? I=none)(hd:h0.get? d=none)(hval:∀ i v,P i v->∃ x,xs[i]? = some x∧PrV h0 x v){res:Value}(k:Nat) :
  ∀ (i:Nat) (s:Shared) (a:List D×List (Int×V×V)),i+k=xs.length->a.1.length≤i->xs.length≤sizeLine->St i s.heap->(∀ b o,h0.get? b=some o->s.heap.get? b=some o)->Qe w h0 s.heap d a ->
   (∀ h' tk,(∀ b o,b≠d->b≠I->s.heap.get? b=some o->h'.get? b=some o)->Qe w h0 h' d ((xs.drop i).foldl (F7 w) a)->R (.ok (.ret res)) { s with heap:=h',toks:=tk }) ->
   codeAny (model prog w) A (Code.builtin "dict.update.loop" ⟨[.ref d,.ref I,rawInt i,res],[]⟩) R s:=by
 have nI:I∈fp:=W.sub _ (by simp)
 have ndI:d≠I:=λz=>hdf (z▸nI)
 induction k with
 | zero =>
  intro i s a e la hz st hk hD hR
  obtain rfl:i=xs.length:=by ext
  refine Bl Hr ?_
  rw [Bd EC _]
  refine (?_:wpAny _ A.in1 (pyNext (.ref I) >>= _) _ _ s)
  refine Aa (W.done s _ _ st λh1 tk1 k1=>?_)
  refine (?_:wpAny _ A.in1 (Builtin.Dict.addKeywords d [] >>= _) _ _ _)
  refine Aa (Ab (Ab (hR h1 tk1 (λb o _ n e=>k1 b o (by simpa using n) e) ?_)))
  rw [List.drop_eq_nil_of_le (Aj _)]
  obtain ⟨es,ep,g,r⟩:=hD
  exact ⟨es,ep,k1 _ _ (by simpa using ndI) g,r⟩
 | succ k ih =>
  intro i s a e la hz st hk hD hR
  have lt:i<xs.length:=by ext
  refine Bl Hr ?_
  rw [Bd EC _]
  refine (?_:wpAny _ A.in1 (pyNext (.ref I) >>= _) _ _ s)
  refine Aa (W.item i s _ _ lt st λv h1 tk1 hP st1 k1=>?_)
  obtain ⟨x,ex,p,ku,vu,ev,⟨op,p1,p2,np,p3⟩,hk1,rk,rv⟩:=hval i v hP
  subst ev
  have hk':∀ b o,h0.get? b=some o->h1.get? b=some o:=λb o g=>k1 b o (by simpa using λz=>by rw [z,hI] at g;cases g) (hk b o g)
  refine (?_:wpAny _ A.in1 (holding [Value.ref p] _ >>= _) _ _ _)
  have ty:(Shared.TypeIs { s with heap:=h1,toks:=tk1 } (.ref p) "tuple"):=⟨op,hk' _ _ p1,p2⟩
  refine Aa (AH (Aa (wpAny_tryCatch ?_)))
  unfold Builtin.Dict.pairItems
  refine Aa (Br ty ?_)
  rw [if_pos (by decide)]
  refine Aa (Bm (hk' _ _ p1) p3 (Ab ?_))
  refine (?_:wpAny _ A.in1 (holding [ku,vu] (dictSet d ku vu)) _ _ _)
  obtain ⟨es,ep,g,en,pr,nd,l,ge⟩:=hD
  have g':=k1 _ _ (by simpa using ndI) g
  refine AH (YI (s:={ s with heap:=h1,toks:=tk1 }) (ks:=a.1) hu (hk1.keep hk') g' (Io en λk e q=>⟨q.1,q.2.keep hk'⟩) nd (by ext) λh2 tk2 es2 ep2 sb hD2 ⟨pe,ge2⟩=>?_)
  have dr:xs.drop i=x::xs.drop (i+1):=by
   rw [List.drop_eq_getElem_cons lt]
   rw [Ay lt] at ex
   rw [AI ex]
  have hk2:∀ b o,h0.get? b=some o->h2.get? b=some o:=λb o z=>(sb.2 b λq:b=d=>by rw [q,hd] at z;cases z).trans (hk' b o z)
  have cast:rawInt ((i:Int)+1)=rawInt ((i+1:Nat):Int):=rfl
  rw [cast]
  refine Ab (And.intro (BG EC _) (ih (i+1) _ (F7 w a x) (by ext) ?_ hz (W.frame _ h1 _ st1 λb hb o z=>(sb.2 b λq:b=d=>hdf (q▸hb)).trans z) hk2 ⟨es2,ep2,hD2,Og hk1 en pe .non [],Ov nd l pr rk rv pe,(Ie nd).1,M6 l nd,ge2 ge⟩ λh3 tk3 k3 hS3=>hR h3 tk3 (λb o b1 b2 z=>?_) ?_))
  ·have:=(Ie (k:=x.1) (v:=.non) (ds:=[]) nd).2
   unfold F7
   dsimp only
   ext
  ·exact k3 b o b1 b2 ((sb.2 b b1).trans (k1 b o (by simpa using b2) z))
  ·rw [dr];exact hS3
end
theorem T1:typeLookup (.type "tuple") "keys"=pure none:=by rw [typeLookup_type,builtinLookup_eq_fast];kernel_rfl
theorem Uu:typeLookup (.type "list") "keys"=pure none:=by rw [typeLookup_type,builtinLookup_eq_fast];kernel_rfl
theorem gAL {prog:Program}{w:World}{A:Around}{E:Value->Shared->Prop}{s:Shared}{a:Addr}{o:Obj}{xs:Array Value}{k:Nat}{Q:Option Value->Shared->Prop}
  (g:s.heap.get? a=some o) (hc:o.cls=.type "list") (ht:o.data=.seq xs k) (hd:o.dict=none) (hA:A.handled=none)
  (q:∀ h' tk,(∀ b ob,s.heap.get? b=some ob->h'.get? b=some ob)->Q none { s with heap:=h',toks:=tk }):wpAny (model prog w) A (getAttr? (.ref a) "keys") Q E s:=by
 obtain ⟨c,dct,dat,sl⟩:=o
 simp only at hc ht hd
 subst hc ht hd
 obtain ⟨hp,gn,dr,tk,os⟩:=s
 have hT:∀ tk',(⟨hp,gn,dr,tk',os⟩:Shared).TypeIs (.ref a) "list":=λ_=>⟨_,g,rfl⟩
 have f1:=sub_AttributeError
 have f3:=F.slot_list_getattribute.lookup
 have f4:=F.slot_list_getattribute.bind (.ref a)
 have f5:=am_list_getattr_none
 (unfold getAttr? getAttrBy? getAttrBy)
 repeat (any_goals (first|assumption|exact hT _|((with_reducible show wpAny _ _ (call (Value.builtin "list.__getattribute__") _ _) _ _ _);refine call_meets F.slot_list_getattribute (hT _) am_entry_list_getattribute (F.args_list_getattribute_2 _ _) (meets_getattribute_miss_list a xs k sl "keys" _ Uu (by symm)) ⟨g,hA,λh' tk' e hx'=>?_⟩)|wp_step))
 obtain ⟨t',u',he⟩:=hx'.there
 (show wpAny _ _ (getattributeRaised _ _ _ _ _ _ _) _ _ _)
 unfold getattributeRaised
 repeat (any_goals (first|assumption|wp_step))
 exact q _ _ hx'.keeps
theorem gAT {prog:Program}{w:World}{A:Around}{E:Value->Shared->Prop}{s:Shared}{a:Addr}{o:Obj}{xs:Array Value}{k:Nat}{Q:Option Value->Shared->Prop}
  (g:s.heap.get? a=some o) (hc:o.cls=.type "tuple") (ht:o.data=.seq xs k) (hd:o.dict=none) (hA:A.handled=none)
  (q:∀ h' tk,(∀ b ob,s.heap.get? b=some ob->h'.get? b=some ob)->Q none { s with heap:=h',toks:=tk }):wpAny (model prog w) A (getAttr? (.ref a) "keys") Q E s:=by
 obtain ⟨c,dct,dat,sl⟩:=o
 simp only at hc ht hd
 subst hc ht hd
 obtain ⟨hp,gn,dr,tk,os⟩:=s
 have hT:∀ tk',(⟨hp,gn,dr,tk',os⟩:Shared).TypeIs (.ref a) "tuple":=λ_=>⟨_,g,rfl⟩
 have f1:=sub_AttributeError
 have f3:=F.slot_tuple_getattribute.lookup
 have f4:=F.slot_tuple_getattribute.bind (.ref a)
 have f5:=am_tuple_getattr_none
 (unfold getAttr? getAttrBy? getAttrBy)
 repeat (any_goals (first|assumption|exact hT _|((with_reducible show wpAny _ _ (call (Value.builtin "tuple.__getattribute__") _ _) _ _ _);refine call_meets F.slot_tuple_getattribute (hT _) am_entry_tuple_getattribute (F.args_tuple_getattribute_2 _ _) (meets_getattribute_miss_tuple a xs k sl "keys" _ T1 (by symm)) ⟨g,hA,λh' tk' e hx'=>?_⟩)|wp_step))
 obtain ⟨t',u',he⟩:=hx'.there
 (show wpAny _ _ (getattributeRaised _ _ _ _ _ _ _) _ _ _)
 unfold getattributeRaised
 repeat (any_goals (first|assumption|wp_step))
 exact q _ _ hx'.keeps
theorem set_same {α:Type}{xs:List α}{j:Nat}(hj:j<xs.length):xs.set j xs[j]=xs:=by
 refine Bj λi=>?_
 by_cases c:j=i
 ·subst c;simp [hj]
 ·rw [AJ c]
theorem TX {K:Zc}{th:List Addr}{H:Hp}{ks vs:List D}{xs:List (Int×V×V)}{k v:D}{kv vv:V}(h:rpD K th H (ks,vs) xs)(hk:DQ k=true)(rk:Rep K th H k kv)(rv:Rep K th H v vv)(lt:ks.length<sizeLine):rpD K th H (D2 k v ks vs) (J5 k (DJ K.w k) kv vv ks xs):=by
 obtain ⟨r1,r2,r3,r4⟩:=h
 dsimp only at r1 r2 r3 r4
 have xl:ks.length=xs.length:=by have:=r2.len;simpa using this.symm
 by_cases z:k∈ks
 ·obtain ⟨j,ej⟩:=A7.mp z
  have hj:j<xs.length:=by rw [← xl];exact (Af.mp ej).1
  rw [Jp hj r4.nd ej]
  unfold D2
  rw [if_pos z,Ly r4.nd ej]
  have m1:(xs.set j (xs[j].1,xs[j].2.1,vv)).map (·.1)=xs.map (·.1):=by
   rw [List.map_set]
   have:=set_same (xs:=xs.map (·.1)) (j:=j) (by simpa using hj)
   simpa using this
  have m2:(xs.set j (xs[j].1,xs[j].2.1,vv)).map (·.2.1)=xs.map (·.2.1):=by
   rw [List.map_set]
   have:=set_same (xs:=xs.map (·.2.1)) (j:=j) (by simpa using hj)
   simpa using this
  refine ⟨m1.trans r1,by rw [m2];exact r2,by rw [List.map_set];exact r3.setAt j rv,r4⟩
 ·rw [Ih z xl]
  unfold D2
  rw [if_neg z]
  refine ⟨?_,?_,?_,?_⟩
  ·rw [AM,r1,Ez,Ez,AM];rfl
  ·rw [AM];exact r2.app (.cons rk .nil)
  ·rw [AM];exact r3.app (.cons rv .nil)
  ·refine ⟨by rw [Ag];exact lt,?_,λk' hk'=>?_⟩
   ·refine BL.mpr ⟨r4.nd,by simp,λx hx y hy=>?_⟩
    rw [Ao.mp hy]
    exact λe=>z (e▸hx)
   ·rcases AE.mp hk' with w'|w'
    ·exact r4.ok k' w'
    ·rw [Ao.mp w'];exact hk
noncomputable def pairsOf:List D->Option (List (D×D))
 | []=>some []
 | .tup [k,v]::ds=>if DQ k=true then (pairsOf ds).map ((k,v)::·) else none
 | _=>none
theorem Ij {d:D}{ds:List D}{ps:List (D×D)}(h:pairsOf (d::ds)=some ps):∃ k v r,d=.tup [k,v]∧DQ k=true∧pairsOf ds=some r∧ps=(k,v)::r:=by
 unfold pairsOf at h
 split at h
 ·cases ‹_::_=[]›
 ·rename_i k v ds' e
  cases e
  by_cases c:DQ k=true
  ·rw [if_pos c] at h
   cases e2:pairsOf ds with
   | none=>rw [e2] at h;cases h
   | some r=>rw [e2] at h;cases h;exact ⟨k,v,r,rfl,c,rfl,rfl⟩
  ·rw [if_neg c] at h;cases h
 ·cases h
theorem IX:∀ {ds:List D} {ps:List (D×D)},pairsOf ds=some ps->ps.length=ds.length
 | [],_,h=>by cases h;rfl
 | d::ds,ps,h=>by
  obtain ⟨k,v,r,rfl,_,h',rfl⟩:=Ij h
  rw [List.length_cons,List.length_cons,IX h']
def putAll (p:List D×List D)(ps:List (D×D)):List D×List D:=ps.foldl (λp x=>D2 x.1 x.2 p.1 p.2) p
def dctP:Fn:=λds mu=>match sq1 ds mu with
 | some es=>match pairsOf es with
  | some ps=>some (.dct (putAll ([],[]) ps).1 (putAll ([],[]) ps).2,mu)
  | none=>none
 | none=>none
section
variable {X:Cx} {K:Zc} {th:List Addr} {mu:Sto} {H:Hp} {pins:List (Addr×Obj)} {st:L2.St} {s:Shared}
theorem Q1 {ds:List D}{r:D×Sto}(h:dctP ds mu=some r):∃ d es ps,ds=[d]∧Hy mu d=some es∧pairsOf es=some ps∧r=(.dct (putAll ([],[]) ps).1 (putAll ([],[]) ps).2,mu):=by
 unfold dctP at h
 split at h
 ·rename_i es e
  split at h
  ·rename_i ps e2
   cases h
   obtain ⟨d,rfl,e3⟩:=LN e
   exact ⟨d,es,ps,rfl,e3,e2,rfl⟩
  ·cases h
 ·cases h
def PrR (K:Zc)(th:List Addr)(H:Hp)(p:D×D)(x:D×V×V):Prop:=p.1=x.1∧DQ p.1=true∧Rep K th H p.1 x.2.1∧Rep K th H p.2 x.2.2
theorem Hl (I:L2.Inv X pins st H s):∀ {es:List D} {ps:List (D×D)} {vs:List V} {us:List Value},pairsOf es=some ps->RepL X.z th H es vs->Vals vs us->∃ xs:List (D×V×V),Paired (PrR X.z th H) ps xs∧Paired (PrV s.heap) xs us
 | [],ps,vs,us,h,r,q=>by
  cases h
  rw [r.inv0] at q
  cases q
  exact ⟨[],.nil,.nil⟩
 | d::ds,ps,vs,us,h,r,q=>by
  obtain ⟨k,v,ps',rfl,hk,h',rfl⟩:=Ij h
  obtain ⟨x,rs,rfl,rx,rr⟩:=r.inv
  cases q with
  | cons q1 q2 =>
   obtain ⟨xs,a,b⟩:=Hl I h' rr q2
   unfold Rep at rx
   obtain ⟨p,pv,rfl,hsq,hl,hz⟩:=rx
   obtain ⟨kv,vv,rfl,rk,rv⟩:=Ht hl
   cases q1
   obtain ⟨its,rvs,pl,hz'⟩:=I.tuple hsq
   obtain ⟨ku,vu,rfl,rku,rvu⟩:=vals2 rvs
   exact ⟨(k,kv,vv)::xs,.cons ⟨rfl,hk,rk,rv⟩ a,.cons ⟨p,ku,vu,rfl,let ⟨o,ho,hcl,n,hdt⟩:=pl;⟨o,ho,hcl,n,hdt⟩,Hc I hk rk rku,rku,rvu⟩ b⟩
theorem Jz {ps:List (D×D)}{xs:List (D×V×V)}(hx:Paired (PrR K th H) ps xs):∀ {p:List D×List D} {a:List D×List (Int×V×V)},p.1=a.1->rpD K th H p a.2->p.1.length+ps.length≤sizeLine ->
  (putAll p ps).1=(xs.foldl (F7 K.w) a).1∧rpD K th H (putAll p ps) (xs.foldl (F7 K.w) a).2:=by
 induction hx with
 | nil=>exact λe r _=>⟨e,r⟩
 | cons hx t ih =>
  rename_i q x ps xs
  intro p a e r l
  obtain ⟨e1,e2,e3,e4⟩:=hx
  obtain ⟨ks,vs⟩:=p
  obtain ⟨as,ax⟩:=a
  dsimp only at e r
  subst e
  have l':ks.length+(ps.length+1)≤sizeLine:=l
  have r':=TX r e2 e3 e4 (by ext)
  unfold putAll
  rw [List.foldl_cons,List.foldl_cons]
  refine ih (p:=D2 q.1 q.2 ks vs) (a:=F7 K.w (ks,ax) x) ?_ ?_ ?_
  ·unfold F7 D2;dsimp only;rw [e1];split<;>rfl
  ·unfold F7;dsimp only;rw [← e1];exact r'
  ·have:=(Ie (k:=q.1) (v:=q.2) (ds:=vs) r.2.2.2.nd).2
   have this':(D2 q.1 q.2 ks vs).1.length≤ks.length+1:=this
   ext
end
section
variable {prog:Program} {w:World} {A:Around} {E:Value->Shared->Prop} {s:Shared}
theorem Vm {l:Addr}{ol:Obj}{T:String}{us:List Value}{xs:List (D×V×V)}{Q:Value->Shared->Prop}(hu:A.units+16<cLine)(hbig:sysModules<s.heap.objs.size)(hz:xs.length≤sizeLine)(hol:s.heap.get? l=some ol)(hcl:ol.cls=.type T)(hT:(Value.type T != Value.type "dict")=true)
  (hga:∀ (A':Around) (s1:Shared) (Q:Option Value->Shared->Prop) (E:Value->Shared->Prop),A'.handled=A.handled->s1.heap.get? l=some ol->(∀ h' tk,(∀ b ob,s1.heap.get? b=some ob->h'.get? b=some ob)->Q none { s1 with heap:=h',toks:=tk })->wpAny (model prog w) A' (getAttr? (.ref l) "keys") Q E s1)
  (hit:∀ E,YieldsV prog w A E s.heap l us) (pr:Paired (PrV s.heap) xs us)
  (q:∀ h' tk d',(∀ b o,s.heap.get? b=some o->h'.get? b=some o)->Qe w s.heap h' s.heap.objs.size (xs.foldl (F7 w) ([],[]))->Q (.ref s.heap.objs.size) { s with heap:=h',toks:=tk,drawn:=d' }) :
  wpAny (model prog w) A (call (.type "dict") [.ref l]) Q E s:=by
 refine callType_codes (Q₁:=λobj s₁=>obj=.ref s.heap.objs.size∧s₁={ s with heap:=s.heap.push { cls:=.type "dict",data:=.dict #[] } }) F.kt_called_dict (F.kt_typeCall_dict_1 _) F.entry_dict_init (kt_code_dict_new _ ⟨rfl,rfl⟩) ?_
 rintro obj s₁ ⟨rfl,rfl⟩
 have gl:(s.heap.push { cls:=.type "dict",data:=.dict #[] }).get? l=some ol:=Ad _ hol
 have gd:(s.heap.push { cls:=.type "dict",data:=.dict #[] }).get? s.heap.objs.size=some (dOb #[] 0):=Ai _ rfl
 have tyd:Shared.TypeIs { s with heap:=s.heap.push { cls:=.type "dict",data:=.dict #[] } } (.ref s.heap.objs.size) "dict":=⟨_,gd,rfl⟩
 have ty:Shared.TypeIs { s with heap:=s.heap.push { cls:=.type "dict",data:=.dict #[] } } (.ref l) T:=⟨ol,gl,hcl⟩
 refine ⟨tyd,F.args_dict_init_2 _ _,?_⟩
 (unfold Builtin.«dict.__init__»)
 refine Aa ?_
 (unfold Builtin.Dict.selfAndRest)
 refine Aa (wpAny_notOrdered_dict tyd (?_:wpAny _ _ (pure (s.heap.objs.size,[Value.ref l])) _ _ _))
 refine Ab (?_:wpAny _ _ (Builtin.Dict.updateFrom "dict.__init__" s.heap.objs.size (.ref l) [] .none) _ _ _)
 (unfold Builtin.Dict.updateFrom)
 refine Aa (Br ty ?_)
 rw [if_pos hT]
 refine Aa (hga _ { s with heap:=s.heap.push { cls:=.type "dict",data:=.dict #[] } } _ _ rfl gl λh1 tk1 k1=>?_)
 rw [if_pos (by rfl)]
 refine Aa (Bq ?_)
 have k0:∀ b ob,s.heap.get? b=some ob->h1.get? b=some ob:=λb ob e=>k1 _ _ (Ad _ e)
 have hnd:h1.get? s.heap.objs.size=some (dOb #[] 0):=k1 _ _ gd
 have lt1:s.heap.objs.size<h1.objs.size:=An hnd
 refine Aa (hit _ { s with heap:=h1,toks:=tk1 } _ _ rfl k0 λI fp h2 d2 P St hI fpl fpn W st0 k2 hval=>?_)
 have hI':h1.objs.size≤I:=hI
 have nf:s.heap.objs.size∉fp:=λz=>by
  rcases fpn _ z with q|⟨o,q⟩
  ·exact absurd (Az lt1 q) (A8 _)
  ·exact absurd (An q) (A8 _)
 have xl:xs.length=us.length:=Dl pr
 have W':Walks prog w A.in1.in1 I fp [I] xs.length P St:=by rw [xl];exact W _ rfl
 refine Ab ⟨BG EC _,?_⟩
 refine ZA (A:=A.in1) (by show A.units+1+1+8<cLine;ext) W' nf (h0:=s.heap) (Heap.get?_none_of_le (AN (Nat.le_of_lt lt1) hI')) (Heap.get?_none_of_le (Aj _)) (λi v hP=>?_) xs.length 0 { s with heap:=h2,toks:=tk1,drawn:=d2 } ([],[]) (Bs _) (A0 _) hz st0 (λb o e=>k2 _ _ (k0 b o e)) ⟨#[],0,k2 _ _ hnd,.nil,.nil,List.nodup_nil,rfl,rfl⟩ λh' tk k3 hD=>⟨rfl,q h' tk d2 (λb o e=>?_) hD⟩
 ·obtain ⟨x,x1,x2⟩:=(Dn pr i).2 v (hval i v hP)
  exact ⟨x,x1,x2⟩
 ·have bl:=An e
  exact k3 b o (AA bl) (AA (Az (Nat.lt_trans bl lt1) hI')) (k2 _ _ (k0 b o e))
end
theorem YieldsV.any {prog:Program}{w:World}{A:Around}{h:Heap}{l:Addr}{us:List Value}(y:YieldsV prog w A (λ_ _=>False) h l us)(E:Value->Shared->Prop):YieldsV prog w A E h l us:=λs1 A' R hA hk hR=>wpAny_mono (y s1 A' R hA hk hR) (λ_ _ z=>z) λ_ _ z=>z.elim
section
variable {X:Cx} {K:Zc} {th:List Addr} {mu:Sto} {H:Hp} {pins:List (Addr×Obj)} {st:L2.St} {s:Shared}
theorem PQ (hu:X.A.units+64<cLine)(hc:X.calm=true):CallV X (.type "dict") dctP:=by
 intro pins s st H xs us Q I r h
 obtain ⟨th,mu,ds,so,rd,t⟩:=h
 obtain ⟨a0,mu0,e0,_⟩:=id t
 obtain ⟨d,es,ps,rfl,e2,e3,er⟩:=Q1 e0
 rw [e0] at t
 cases er
 obtain ⟨x,rfl,rx⟩:=Dh rd
 obtain ⟨a,vs,rfl,h1,h2,h3⟩:=Hn so e2 rx
 obtain ⟨u,rfl,ru⟩:=vals1 r
 cases ru
 have pl:ps.length=es.length:=IX e3
 have fin:∀ (xs:List (D×V×V)),Paired (PrR X.z th H) ps xs->∀ h' tk d',(∀ b o,s.heap.get? b=some o->h'.get? b=some o)->Qe X.w s.heap h' s.heap.objs.size (xs.foldl (F7 X.w) ([],[]))->EP X pins st Q (.ref s.heap.objs.size) { s with heap:=h',toks:=tk,drawn:=d' }:=λxs pr h' tk d' hk hD=>by
  have hp:H s.heap.objs.size=none:=I.hok.fresh (Aj _)
  obtain ⟨es',ep,g,en,pv,nd,l,ge⟩:=hD
  obtain ⟨_,r1,r2,r3,r4⟩:=Jz (K:=X.z) (p:=([],[])) (a:=([],[])) pr rfl ⟨rfl,.nil,.nil,.nil⟩ (by rw [pl];simpa using h3)
  have I0:L2.Inv X pins st H { s with drawn:=d' }:=⟨I.ok,I.os,I.bare,I.base,I.loc,I.cell,I.free,I.freeC,I.pin,I.hok,I.len⟩
  refine ⟨.ref s.heap.objs.size,_,I0.laid (h':=h') (t':=tk) (o:=E3 s.heap.objs.size (xs.foldl (F7 X.w) ([],[])).2) hk (Aj _) (JV ⟨by simpa using Nat.ne_of_gt (HF I),_,es',ep,g,⟨rfl,rfl,rfl⟩,rfl,pv,ge⟩),rfl,?_⟩
  refine t.retX (.new hp _) (so.new hp _) _ ?_
  unfold Rep
  have ex:Ext th H th (upd H s.heap.objs.size (E3 s.heap.objs.size (xs.foldl (F7 X.w) ([],[])).2)):=.new hp _
  exact ⟨_,_,rfl,so.notin hp,DG,r1,r2.ext ex so.out,r3.ext ex so.out,r4⟩
 have zl:∀ {xs:List (D×V×V)},Paired (PrR X.z th H) ps xs->xs.length≤sizeLine:=λq=>by rw [← Dl q,pl];exact h3
 have hh:=I.ok.hd hc
 rcases h1 with h1|⟨h1,_⟩
 ·obtain ⟨its,rv,pl',hz⟩:=I.list h1
  obtain ⟨o,n,ho,hcl,hdd,hdt⟩:=id pl'
  obtain ⟨us,q,y,_⟩:=Mr (E:=λ_ _=>False) I hc h1
  obtain ⟨xs,p1,p2⟩:=Hl I e3 h2 q
  refine Vm (us:=us) (xs:=xs) (by ext) (HF I) (zl p1) ho hcl (by decide) (λA' s1 Q' E' hA hg hq=>gAL hg hcl hdt hdd (hA.trans hh) hq) y.any p2 (fin xs p1)
 ·obtain ⟨its,rv,pl',hz⟩:=I.tuple h1
  obtain ⟨o,ho,hcl,n,hdt⟩:=id pl'
  obtain ⟨o2,ho2,hdd,_⟩:=I.tupleD h1
  rw [ho] at ho2
  cases ho2
  obtain ⟨us,q,y,_⟩:=LQ (E:=λ_ _=>False) I hc h1
  obtain ⟨xs,p1,p2⟩:=Hl I e3 h2 q
  refine Vm (us:=us) (xs:=xs) (by ext) (HF I) (zl p1) ho hcl (by decide) (λA' s1 Q' E' hA hg hq=>gAT hg hcl hdt hdd (hA.trans hh) hq) y.any p2 (fin xs p1)
end
section
variable {X:Cx} {K:Zc} {th:List Addr} {mu:Sto} {H:Hp} {pins:List (Addr×Obj)} {st:L2.St} {s:Shared} {A:Around} {E:Value->Shared->Prop}
theorem Mg {ks:List D}(h:(strsOf ks).isSome=true){k:D}(hk:k∈ks):∃ x,k=.str x:=by
 obtain ⟨ss,e⟩:=Option.isSome_iff_exists.mp h
 rw [HJ e] at hk
 obtain ⟨x,_,rfl⟩:=Aw.mp hk
 exact ⟨x,rfl⟩
end
def WM (K:PySem.W.Frag)(mg:Str->Option Value)(x:Str)(ss:List Str):Prop:=∃ a o its n,mg x=some (.ref a)∧K.lookup a=some o∧o.cls=.type "tuple"∧o.dict=none∧o.data=.seq its n∧its.size≤sizeLine∧Vals (ss.map V.str) its.toList
theorem LO {X:Cx}{x:Str}{ss:List Str}{pos:Pos}(hm:WM X.K X.mg x ss)(h:(ss.all λs=>decide (s.length≤sizeLine)&&PyData.strOk s)=true:=by symm)(hl:ss.length≤sizeLine:=by symm)(hg:Gl X x:=by rfl)(hd:(x==("__debug__":Str))=false:=by decide):SV X (.Name x pos) (eC (.tup (ss.map D.str))):=by
 obtain ⟨a,o,its,n,m1,m2,m3,m4,m5,m6,m7⟩:=hm
 refine ⟨PE.weak (HY (v:=.ref a) hg m1 rfl hd) λst H Q q=>?_⟩
 obtain ⟨th,mu,ro,so,en,t⟩:=q
 refine t.ret so _ ?_
 unfold Rep
 refine ⟨a,ss.map V.str,rfl,.inr ⟨o,its,n,m2,m3,m4,m5,m6,m7⟩,IJ λs hs=>?_,by rw [Ac];exact hl⟩
 have:=Ar.mp h s hs
 rw [Ae,Ak] at this
 exact this
noncomputable def fD:Bool->List D×List D->List D
 | true,p=>p.2
 | false,p=>p.1
section
variable {X:Cx} {K:Zc} {th:List Addr} {mu:Sto} {H:Hp} {pins:List (Addr×Obj)} {st:L2.St} {s:Shared}
def Jc (d:D)(xs:List D)(mu:Sto):Rs D:=match d,Fh xs with
 | .str x,some y=>match Dg mu y with
  | some es=>match strsOf es with
   | some ss=>if x.length≤16∧(ss.map (·.length)).sum+ss.length≤1048576∧(Txt.join x ss).length≤sizeLine∧PyData.strOk (Txt.join x ss)=true then some (.str (Txt.join x ss),mu) else none
   | none=>none
  | none=>none
 | _,_=>none
def L8 (o:Ex)(a:Exs):Ex:=λro mu=>bM (o ro mu) λd m1=>match d with
 | .str x=>bM (a ro m1) λxs m2=>Jc (.str x) xs m2
 | _=>none
theorem Uv:MtR X "str.join" (λx vs H Q=>∃ th mu d ds,StoOk X.z th mu H∧Rep X.z th H d x∧RepL X.z th H ds vs∧Tr X.z th H (Jc d ds mu) (KV' X.z Q)):=by
 intro pins s st H x xs v us Q I rx rxs h
 obtain ⟨th,mu,d,ds,so,r1,r2,t⟩:=h
 cases d with
 | str z =>
  unfold Jc at t
  cases e:Fh ds with
  | none=>rw [e] at t;exact t.no.elim
  | some y =>
   rw [e] at t
   dsimp only at t
   cases e1:Dg mu y with
   | none=>rw [e1] at t;exact t.no.elim
   | some es =>
    rw [e1] at t
    dsimp only at t
    cases e2:strsOf es with
    | none=>rw [e2] at t;exact t.no.elim
    | some ss =>
     rw [e2] at t
     dsimp only at t
     by_cases c:z.length≤16∧(ss.map (·.length)).sum+ss.length≤1048576∧(Txt.join z ss).length≤sizeLine∧PyData.strOk (Txt.join z ss)=true
     ·rw [if_pos c] at t
      rw [Ft e] at r2
      obtain ⟨yv,rfl,ry⟩:=Dh r2
      obtain ⟨u,rfl,ru⟩:=vals1 rxs
      obtain ⟨a,vs,rfl,h1,h2,h3⟩:=DW so e1 ry
      rw [HJ e2] at h2 h3
      obtain ⟨rfl,hs⟩:=Kz h2
      cases r1.1
      obtain ⟨tk,rfl⟩:=rx
      cases ru
      obtain ⟨its,rv,pl,hz⟩:=I.list h1
      have hS:=UH rv
      exact join_listW pl.isList (by simpa using hS) c.1 c.2.1 λt' k=>⟨.str _,H,I.tok _,⟨_,rfl⟩,t.ret so _ ⟨rfl,c.2.2⟩⟩
     ·rw [if_neg c] at t;exact t.no.elim
 | _=>exact t.no.elim
theorem Lw {o e:Expr}{m:Ex}{n:Exs}{apos cpos:Pos}(ho:SV X o m)(ha:SVA X [e] n)(hbase:attributeBase o "join" X.env (eval o X.env)=eval o X.env:=by rfl)
  (hfew:((backTo cpos (starEach [e] X.env)).all (λx=>!x.1)&&(backToKw cpos (keywordEach [] X.env)).all (λx=>x.1.isSome)
   && decide ([e].length+([]:List Keyword).length+(if ([]:List Keyword).isEmpty then 0 else 1)<30))=true:=by rfl)
  (hline:(apos.endLine==cpos.line)=true:=by rfl) (hs:starEach [e] X.env=(false,eval e X.env)::starEach [] X.env:=by rfl) (hplain:(backTo cpos (starEach [] X.env)).any (·.1)=false:=by rfl) :
  SV X (.Call (.Attribute o "join" apos) [e] [] cpos) (L8 m n):=
 ⟨PE.weak (Rv PySem.F.plainAttrs_str PySem.F.slot_str_join PySem.F.type_str_join Uv ho.r ha.1 hbase hfew hline hs hplain) λst H Q h=>by
  obtain ⟨th,mu,ro,so,en,t⟩:=h
  refine ⟨th,mu,ro,so,en,t.bind.mono λd th1 mu1 H1 e1 s1 t1 v rv=>?_⟩
  cases d with
  | str z =>
   cases rv.1
   refine ⟨rfl,th1,mu1,ro,s1,en.ext e1 so.out,?_⟩
   exact Tr.mono (Tr.bind t1) λxs th2 mu2 H2 e2 s2 t2 ws rws=>⟨th2,mu2,.str z,xs,s2,rv.ext e2 s1.out,rws,t2⟩
  | _=>exact t1.no.elim⟩
def Q2 (d:D)(xs:List D)(mu:Sto):Rs D:=match d,Fh xs with
 | .str x,some (.str y)=>if (y.length==0)=false∧(Txt.split x y).all (λz=>decide (z.length≤sizeLine)&&PyData.strOk z)=true∧(Builtin.Str.partsBetween x (Builtin.Str.occurrences x y 0 x.length (x.length+1)) y.length).length≤sizeLine∧(Txt.split x y).length≤sizeLine then some (.lst ((Txt.split x y).map D.str),mu) else none
 | _,_=>none
def Sj (o:Ex)(a:Exs):Ex:=λro mu=>bM (o ro mu) λd m1=>match d with
 | .str x=>bM (a ro m1) λxs m2=>Q2 (.str x) xs m2
 | _=>none
section
open Builtin Builtin.Str
theorem Qm {prog:Program}{w:World}{A:Around}{E:Value->Shared->Prop}{x y:Str}{t u:Tok}{Q:Value->Shared->Prop}(hy:(y.length==0)=false)(hsz:x.length≤sizeLine)(hsz2:(partsBetween x (occurrences x y 0 x.length (x.length+1)) y.length).length≤sizeLine)
  (hq:∀ (l:List (Str×Tok)) k,l.map (·.1)=Txt.split x y->Q (.ref s.heap.objs.size) { s with heap:=s.heap.push { cls:=.type "list",data:=.seq (strValues l).toArray },toks:=k }) :
  wpAny (model prog w) A (call (.builtin "str.split") [.str x t,.str y u]) Q E s:=by
 by_cases h1:(decide (x.length<y.length)||decide (strKind x<strKind y))=true
 ·have e:Txt.split x y=[x]:=if_pos h1
  exact call_meets F.slot_str_split (typeIs_str _ _ _) F.entry_str_split (F.args_str_split_2 _ _) (meets_str_split_cannot_occur x y t u h1) (hq [(x,t)] s.toks e.symm)
 ·have h1':=Bool.eq_false_iff.mpr h1
  by_cases hf:(occurrences x y 0 x.length (x.length+1)).isEmpty=true
  ·have e:Txt.split x y=[x]:=(if_neg h1).trans (if_pos hf)
   exact call_meets F.slot_str_split (typeIs_str _ _ _) F.entry_str_split (F.args_str_split_2 _ _) (meets_str_split_not_found x y t u h1' hy hf) (hq [(x,t)] s.toks e.symm)
  ·have hf':=Bool.eq_false_iff.mpr hf
   have e:Txt.split x y=partsBetween x (occurrences x y 0 x.length (x.length+1)) y.length:=(if_neg h1).trans (if_neg hf)
   refine call_meets F.slot_str_split (typeIs_str _ _ _) F.entry_str_split (F.args_str_split_2 _ _) (meets_str_split_sep x y t u h1' hy hf' hsz hsz2) ?_
   have g:=hq (numbered s.toks (partsBetween x (occurrences x y 0 x.length (x.length+1)) y.length)) (s.toks+(partsBetween x (occurrences x y 0 x.length (x.length+1)) y.length).length) ((numbered_texts _ _).trans e.symm)
   rw [← strsFrom_eq] at g
   exact g
end
theorem Rj:MtR X "str.split" (λx vs H Q=>∃ th mu d ds,StoOk X.z th mu H∧Rep X.z th H d x∧RepL X.z th H ds vs∧Tr X.z th H (Q2 d ds mu) (KV' X.z Q)):=by
 intro pins s st H x xs v us Q I rx rxs h
 obtain ⟨th,mu,d,ds,so,r1,r2,t⟩:=h
 cases d with
 | str z =>
  unfold Q2 at t
  cases e:Fh ds with
  | none=>rw [e] at t;exact t.no.elim
  | some y =>
   rw [e] at t
   cases y with
   | str y =>
    dsimp only at t
    split at t
    ·rename_i c
     rw [Ft e] at r2
     obtain ⟨yv,rfl,ry⟩:=Dh r2
     obtain ⟨u,rfl,ru⟩:=vals1 rxs
     have zl:=r1.2.1
     cases r1.1
     cases ry.1
     obtain ⟨tk,rfl⟩:=rx
     obtain ⟨tk',rfl⟩:=ru
     refine Qm c.1 zl c.2.2.1 λl k hl=>?_
     have hp:H s.heap.objs.size=none:=I.hok.fresh (Aj _)
     have hS:StrsAre (strValues l) (Txt.split z y):=by rw [← hl];exact strsAre_of_values l
     have ok:∀ x∈Txt.split z y,x.length≤sizeLine∧PyData.strOk x=true:=λx hx=>by
      have:=Ar.mp c.2.1 x hx
      rw [Ae,Ak] at this
      exact this
     have J:=I.laid (a:=s.heap.objs.size) (o:=.lst ((Txt.split z y).map V.str)) (t':=k) (h':=s.heap.push { cls:=.type "list",data:=.seq (strValues l).toArray }) (λ_ _ q=>Ad _ q) (Aj _) ⟨by rw [Ac];exact c.2.2.2,strValues l,0,O8 hS,Ai _ rfl⟩
     exact ⟨.ref s.heap.objs.size,_,J,rfl,t.retX (.new hp _) (so.new hp _) _ (Rep.newLst so hp (IJ ok) (by rw [Ac];exact c.2.2.2))⟩
    ·exact t.no.elim
   | _=>exact t.no.elim
 | _=>exact t.no.elim
theorem Rf {o e:Expr}{m:Ex}{n:Exs}{apos cpos:Pos}(ho:SV X o m)(ha:SVA X [e] n)(hbase:attributeBase o "split" X.env (eval o X.env)=eval o X.env:=by rfl)
  (hfew:((backTo cpos (starEach [e] X.env)).all (λx=>!x.1)&&(backToKw cpos (keywordEach [] X.env)).all (λx=>x.1.isSome)
   && decide ([e].length+([]:List Keyword).length+(if ([]:List Keyword).isEmpty then 0 else 1)<30))=true:=by rfl)
  (hline:(apos.endLine==cpos.line)=true:=by rfl) (hs:starEach [e] X.env=(false,eval e X.env)::starEach [] X.env:=by rfl) (hplain:(backTo cpos (starEach [] X.env)).any (·.1)=false:=by rfl) :
  SV X (.Call (.Attribute o "split" apos) [e] [] cpos) (Sj m n):=
 ⟨PE.weak (Rv PySem.F.plainAttrs_str PySem.F.slot_str_split PySem.F.type_str_split Rj ho.r ha.1 hbase hfew hline hs hplain) λst H Q h=>by
  obtain ⟨th,mu,ro,so,en,t⟩:=h
  refine ⟨th,mu,ro,so,en,t.bind.mono λd th1 mu1 H1 e1 s1 t1 v rv=>?_⟩
  cases d with
  | str z =>
   cases rv.1
   refine ⟨rfl,th1,mu1,ro,s1,en.ext e1 so.out,?_⟩
   exact Tr.mono (Tr.bind t1) λxs th2 mu2 H2 e2 s2 t2 ws rws=>⟨th2,mu2,.str z,xs,s2,rv.ext e2 s1.out,rws,t2⟩
  | _=>exact t1.no.elim⟩
end
end PV
namespace L2
open PySem PySem.Spec PyProof.Rows
noncomputable def Sd (lo c:Int)(n:Nat):It:=⟨λi _=>i<n,λi H x H'=>H'=H∧x=.int (lo+i*c),λi _=>n≤i⟩
theorem Mv {P:Program}{w:World}{K:PySem.W.Frag}{tg:Expr}(it:Addr)(lo c:Int)(n:Nat):Turn P w K tg (Sd lo c n) [it] it (λi h=>IsRangeIter h it (lo+(i:Nat)*c) ((n:Int)-(i:Nat)) c) where
 mem:=by simp
 obj:=λi h st b hb=>by
  have e:b=it:=by simpa using hb
  subst e
  exact ⟨_,st,λv z=>by
   have z':Data.fields _=Data.cell v:=z
   cases z'⟩
 keep:=λi h h' st k=>k it (by simp) _ st
 item:=by
  intro X hP hw hK hc i pins s σ H E I hf st hg
  subst hP hw hK
  obtain ⟨f0,f1,f2,f3,f4,f5⟩:=hf it (by simp)
  have W:=Walks.range (prog:=X.prog) (w:=X.w) (I.ok.hd hc) it lo c n
  refine W.item i s _ _ hg st λv h' tk hv st' kk=>?_
  obtain ⟨t,rfl⟩:=hv
  have I1:Inv X pins σ H { s with heap:=h',toks:=tk }:=I.turned (λb o hb e=>kk b o (by simpa using hb) e) f0 f1 f3 f4 f5
  exact ⟨_,rfl,L1 (s:={ s with heap:=h',toks:=tk }) (n:="range_iterator") st' rfl rfl (by decide) ⟨.int (lo+i*c),H,I1,⟨t,rfl⟩,⟨rfl,rfl⟩,st',λb hb=>(hf b hb).1⟩⟩
 done:=by
  intro X hP hw hK hc i pins s σ H E I hf st hg
  subst hP hw hK
  obtain ⟨f0,f1,f2,f3,f4,f5⟩:=hf it (by simp)
  exact wpAny_pyNext_range_end (I.ok.hd hc) st (by have:n≤i:=hg;ext) λh' eb=>⟨rfl,I.turned (t':=s.toks) (λb o hb e=>eb b o hb e) f0 f1 f3 f4 f5⟩
 self:=λ_ _ _ _ _ st h=>wpAny_pyIter_rangeiter st h
section
variable {X:Cx} {tg:Expr}
theorem Qw {pins:List (Addr×Obj)}{σ:St}{H:Hp}{s:Shared}{R:It->Hp->Prop}{E:Value->Shared->Prop}{lo hi c:Int}{t u v:Tok}{tk:Nat}(I:Inv X pins σ H s)(hs:Builtin.Range.small lo hi c=true)(h0:0≤Builtin.Range.rangeSize lo hi c)
  (q:R (Sd lo c (Builtin.Range.rangeSize lo hi c).toNat) H):wpAny (model X.prog X.w) X.A (pyIter (.ref s.heap.objs.size)) (PIE X pins σ tg R) E { s with heap:=s.heap.push { cls:=.type "range",data:=.fields #[.int lo t,.int hi u,.int c v] },toks:=tk }:=by
 refine wpAny_pyIter_range (IsRange.new ..) hs ?_
 have I1:Inv X pins σ H { s with heap:=s.heap.push { cls:=.type "range",data:=.fields #[.int lo t,.int hi u,.int c v] },toks:=tk }:=I.kept λb o e=>Ad _ e
 refine ⟨(s.heap.push { cls:=.type "range",data:=.fields #[.int lo t,.int hi u,.int c v] }).objs.size,[(s.heap.push { cls:=.type "range",data:=.fields #[.int lo t,.int hi u,.int c v] }).objs.size],_,_,H,rfl,
  I1.kept (t':=tk) λb o e=>Ad _ e,Mv _ lo c (Builtin.Range.rangeSize lo hi c).toNat,?_,λb hb=>?_,q⟩
 ·have e1:lo+((0:Nat):Int)*c=lo:=by simp
  have e2:(((Builtin.Range.rangeSize lo hi c).toNat:Nat):Int)-((0:Nat):Int)=Builtin.Range.rangeSize lo hi c:=by ext
  show IsRangeIter _ _ (lo+((0:Nat):Int)*c) ((((Builtin.Range.rangeSize lo hi c).toNat:Nat):Int)-((0:Nat):Int)) c
  rw [e1,e2]
  exact Ai _ rfl
 ·have e:b=(s.heap.push { cls:=.type "range",data:=.fields #[.int lo t,.int hi u,.int c v] }).objs.size:=by simpa using hb
  subst e
  exact I1.fpOk (Aj _) (I1.hok.fresh (Aj _))
def XW (ta:TA):TI:=fun σ H R=>ta σ H λvs H1=>∃ i j c:Int,vs=[.int i,.int j,.int c]∧c≠0∧Builtin.divisionGoesByPylong (j-i) c=false∧Builtin.Range.small i j c=true∧0≤Builtin.Range.rangeSize i j c∧R (Sd i c (Builtin.Range.rangeSize i j c).toNat) H1
theorem PD {a b d:Expr}{ta:TA}{p pos:Pos}(hg:Gl X "range")(hm:X.mg "range"=none)(ha:PA X [a,b,d] ta)(hs:starEach [a,b,d] X.env=[(false,eval a X.env),(false,eval b X.env),(false,eval d X.env)]:=by rfl)(hs2:starEach [b,d] X.env=[(false,eval b X.env),(false,eval d X.env)]:=by rfl) :
  PI X tg (.Call (.Name "range" p) [a,b,d] [] pos) (XW ta):=by
 intro pins s σ H R I h
 refine Call_ (HI I hg hm boot_range (BB (thn (ha pos pins s σ H _ I h) λus s1 ⟨vs,H1,I1,r1,q1⟩=>?_) (by rw [hs,hs2]) (by rw [hs2];rfl)))
 obtain ⟨i,j,c,e,q0,qp,q1,q2,q⟩:=q1
 subst e
 cases r1 with
 | cons r rr =>
  cases rr with
  | cons r' rr =>
   cases rr with
   | cons r'' rr =>
    cases rr
    obtain ⟨t,rfl⟩:=r
    obtain ⟨t',rfl⟩:=r'
    obtain ⟨t'',rfl⟩:=r''
    exact call_range_3 q0 (Qw I1 q1 q2 q) (.inl qp)
end
end L2
namespace PV
open PySem L2 PySem.Spec PyProof.Rows
section
variable {X:Cx} {K:Zc} {th:List Addr} {mu:Sto} {H:Hp} {pins:List (Addr×Obj)} {st:L2.St} {s:Shared}
def Q7:Fn:=λds mu=>match Fh ds with
 | some (.str x)=>match PySem.intText? x with
  | some n=>if x.length≤640 then some (.int n,mu) else none
  | none=>none
 | _=>none
theorem PZ:CallV X (.type "int") Q7:=by
 intro pins s st H xs us Q I r h
 obtain ⟨th,mu,ds,so,rd,t⟩:=h
 unfold Q7 at t
 cases e:Fh ds with
 | none=>rw [e] at t;exact t.no.elim
 | some d =>
  rw [e] at t
  cases d with
  | str x =>
   dsimp only at t
   cases e1:PySem.intText? x with
   | none=>rw [e1] at t;exact t.no.elim
   | some n =>
    rw [e1] at t
    dsimp only at t
    by_cases c:x.length≤640
    ·rw [if_pos c] at t
     rw [Ft e] at rd
     obtain ⟨v,rfl,rv⟩:=Dh rd
     cases rv.1
     obtain ⟨u,rfl,ru⟩:=vals1 r
     obtain ⟨tk,rfl⟩:=ru
     exact PySem.W.KIN.call_text e1 c ⟨.int n,H,I.tok _,⟨_,rfl⟩,t.ret so _ rfl⟩
    ·rw [if_neg c] at t;exact t.no.elim
  | _=>exact t.no.elim
noncomputable def Jf (lo c:Int)(n:Nat):List D:=(List.range n).map λ(i:Nat)=>D.int (lo+i*c)
noncomputable def ints3 (ds:List D):Option (Int×Int×Int):=match ds with
 | [.int i,.int j,.int c]=>some (i,j,c)
 | _=>none
theorem Ql {ds:List D}{i j c:Int}(h:ints3 ds=some (i,j,c)):ds=[.int i,.int j,.int c]:=by
 unfold ints3 at h
 split at h
 ·cases h;rfl
 ·cases h
def NS (a:Exs):Ix:=λro mu=>bM (a ro mu) λds m1=>match ints3 ds with
 | some (i,j,c)=>if c≠0∧Builtin.divisionGoesByPylong (j-i) c=false∧Builtin.Range.small i j c=true∧0≤Builtin.Range.rangeSize i j c∧Builtin.Range.rangeSize i j c≤(sizeLine:Int) then some ((Jf i c (Builtin.Range.rangeSize i j c).toNat,none),m1) else none
 | none=>none
theorem PX {lo c:Int}{n:Nat}(hn:n≤sizeLine):Ob K (Sd lo c n) th mu H (Jf lo c n) none where
 sz:=by unfold Jf;simpa using hn
 go:=λth' mu' H' e s go i d ed=>by
  unfold Jf at ed
  rw [Ap] at ed
  cases q:(List.range n)[i]? with
  | none=>rw [q] at ed;cases ed
  | some k =>
   rw [q] at ed
   have hd:D.int (lo+k*c)=d:=by simpa using ed
   obtain ⟨hi,hk⟩:=Af.mp q
   rw [BM] at hi
   rw [List.getElem_range] at hk
   subst hk hd
   refine ⟨hi,λv H2 y=>?_⟩
   obtain ⟨rfl,rfl⟩:=y
   exact ⟨.refl _ _,s,by unfold Rep;rfl⟩
 stop:=λth' mu' H' e s go=>by unfold Jf;simp [Sd]
theorem Ng {tg a b d:Expr}{m:Exs}{p pos:Pos}(hm:X.mg "range"=none)(ha:SVA X [a,b,d] m)(hg:Gl X "range":=by rfl)(hs:starEach [a,b,d] X.env=[(false,eval a X.env),(false,eval b X.env),(false,eval d X.env)]:=by rfl)(hs2:starEach [b,d] X.env=[(false,eval b X.env),(false,eval d X.env)]:=by rfl):SVI X tg (.Call (.Name "range" p) [a,b,d] [] pos) (NS m):=
 ⟨PI.weak (PD hg hm ha.1 hs hs2) λst H R h=>by
  obtain ⟨th,mu,ro,so,en,t⟩:=h
  refine ⟨th,mu,ro,so,en,t.bind.mono λds th1 mu1 H1 e1 s1 t1 vs rvs=>?_⟩
  cases q:ints3 ds with
  | none=>rw [q] at t1;exact t1.no.elim
  | some p =>
   obtain ⟨i,j,c⟩:=p
   rw [q] at t1
   dsimp only at t1
   by_cases cc:c≠0∧Builtin.divisionGoesByPylong (j-i) c=false∧Builtin.Range.small i j c=true∧0≤Builtin.Range.rangeSize i j c∧Builtin.Range.rangeSize i j c≤(sizeLine:Int)
   ·rw [if_pos cc] at t1
    rw [Ql q] at rvs
    obtain ⟨x,r1,rfl,rx,rr⟩:=rvs.inv
    obtain ⟨y,r2,rfl,ry,rr⟩:=rr.inv
    obtain ⟨z,r3,rfl,rz,rr⟩:=rr.inv
    cases rr.inv0
    refine ⟨i,j,c,?_,cc.1,cc.2.1,cc.2.2.1,cc.2.2.2.1,t1.ret s1 _ (PX (by have:=cc.2.2.2.2;ext))⟩
    rw [show x=_ from rx,show y=_ from ry,show z=_ from rz]
   ·rw [if_neg cc] at t1;exact t1.no.elim⟩
noncomputable def Ri:Sx:=λ_ _=>none
theorem Rg {c:Stmt}:SVS X c Ri:=⟨λpins s st H E I h=>by
 obtain ⟨th,mu,ro,so,en,t⟩:=h
 exact t.no.elim⟩
end
def Xk (K:PySem.W.Frag)(w:World)(mg:Str->Option Value)(x:Str)(ks:List Str)(vs:List Int):Prop:=∃ a o es ep,mg x=some (.ref a)∧(a==sysModules)=false∧K.lookup a=some o∧o.ExactDict∧o.data=.dict es ep ∧
 Paired (λ(k:Str) (e:DictEntry)=>e.hash=hashStr w k∧∃ t,e.key=.str k t) ks es.toList∧Paired (λ(v:Int) (e:DictEntry)=>∃ t,e.val=.int v t) vs es.toList
section
variable {X:Cx} {K:Zc} {th:List Addr} {mu:Sto} {H:Hp} {pins:List (Addr×Obj)} {st:L2.St} {s:Shared} {A:Around} {E:Value->Shared->Prop}
theorem SJ (I:L2.Inv X pins st H s){ks:List Str}{a:Addr}{o:Obj}{es:Array DictEntry}{ep:Nat}(h3:X.K.lookup a=some o)(h5:o.data=.dict es ep)
  (h6:Paired (λ(k:Str) (e:DictEntry)=>e.hash=hashStr X.w k∧∃ t,e.key=.str k t) ks es.toList) (nd:(ks.map D.str).Nodup) (ok:∀ k∈ks,k.length≤sizeLine∧PyData.strOk k=true)
  {d:D} {u:Value} (hk:Hd s.heap d u) (hu:A.units+8<cLine) {Q:Option Value->Shared->Prop}
  (q0:d∉ks.map D.str->∀ tk,Q none { s with toks:=tk }) (q1:∀ (j:Nat) (e:DictEntry),(ks.map D.str)[j]? = some d->es.toList[j]? = some e->∀ tk,Q (some e.val) { s with toks:=tk }):wpAny (model X.prog X.w) A (dictGet a u) Q E s:=by
 have g1:s.heap.get? a=some o:=I.kIn a o h3
 have en:Paired (EnK X.w s.heap) (ks.map D.str) es.toList:=by
  refine HW (by rw [Ac];exact Dl h6) λj k e e1 e2=>?_
  obtain ⟨k',k1,k2,t,k3⟩:=(Dn h6 j).2 e e2
  rw [Ap,k1] at e1
  cases e1
  have r:Rep X.z ([]:List Addr) H (.str k') (.str k'):=⟨rfl,ok k' (Al k1)⟩
  exact ⟨k2,Hc I (by simp [DQ,hsh,dpt]) r (by rw [k3];exact ⟨t,rfl⟩)⟩
 unfold dictGet
 refine AH (Aa (hk.hash hu λtk=>Aa (JG (s:={ s with toks:=tk }) hu hk g1 h5 en nd (λz=>Ab (q0 z tk)) λj ej=>?_)))
 refine Aa (Bi (s:={ s with toks:=tk }) g1 h5 ?_)
 obtain ⟨e,e1,e2⟩:=(Dn en j).1 d ej
 have e1':=e1
 rw [AD] at e1
 rw [e1]
 exact Ab (q1 j e ej e1' tk)
def Ke (ks:List Str)(m:Ex):Ex:=λro mu=>bM (m ro mu) λd m1=>if DQ d=true then some (.bl (!decide (d∈ks.map D.str)),m1) else none
def rNg (X:Cx)(a:Addr)(ks:List Str):R2:=λx y H Q=>y=.ref a∧∃ th mu d,StoOk X.z th mu H∧Rep X.z th H d x∧DQ d=true∧Q (.bl (!decide (d∈ks.map D.str))) H
theorem SU (hu:X.A.units+64<cLine){ks:List Str}{vs:List Int}{a:Addr}{o:Obj}{es:Array DictEntry}{ep:Nat}(h2:(a==sysModules)=false)(h3:X.K.lookup a=some o)(h4:o.ExactDict)(h5:o.data=.dict es ep)
  (h6:Paired (λ(k:Str) (e:DictEntry)=>e.hash=hashStr X.w k∧∃ t,e.key=.str k t) ks es.toList) (h7:Paired (λ(v:Int) (e:DictEntry)=>∃ t,e.val=.int v t) vs es.toList) (nd:(ks.map D.str).Nodup) (ok:∀ k∈ks,k.length≤sizeLine∧PyData.strOk k=true):OpR X (compareOp .NotIn) (rNg X a ks):=by
 intro pins s st H x y v u Q I rx ry h
 obtain ⟨rfl,th,mu,d,so,r1,hk,q⟩:=h
 cases ry
 have g1:s.heap.get? a=some o:=I.kIn a o h3
 have ty:s.TypeIs (.ref a) "dict":=⟨o,g1,h4.1⟩
 have hd:=Hc I hk r1 rx
 have hu':X.A.in1.units+8<cLine:=by rw [Around.in1_units];ext
 refine (?_:wpAny _ _ (do return Value.bool (!(← contains (.ref a) v))) _ _ s)
 refine Aa ?_
 unfold contains
 refine AH (Aa (wpAny_specialOf ty slot_dict_contains.lookup ?_))
 refine (?_:wpAny _ _ (if (some (Value.builtin "dict.__contains__")==some Value.none)=true then _ else _) _ _ s)
 rw [if_neg (by rw [beq_builtin_none];exact Am)]
 refine Aa (wpAny_callSpecialUnlessNone?_slot (name:=Str.ofString "__contains__") ty slot_dict_contains (AG slot_dict_contains ty entry_dict_contains ?_ (args_dict_contains _ _)))
 refine (?_:wpAny _ _ (dictGet a v >>= _) _ _ s)
 refine Aa (SJ I h3 h5 h6 nd ok hd hu' (λz tk=>?_) λj e ej ee tk=>?_)
 ·refine (?_:wpAny _ _ (Builtin.Dict.pendingKey? a v >>= _) _ _ _)
  refine Aa (wpAny_pendingKey_other h2 (Ab ⟨_,rfl,Bh (Ab ⟨.bl _,H,I.tok _,rfl,?_⟩)⟩))
  rw [AX z] at q
  exact q
 ·refine (?_:wpAny _ _ (ret (.bool true)) _ _ _)
  refine Ab ⟨_,rfl,Bh (Ab ⟨.bl _,H,I.tok _,rfl,?_⟩)⟩
  rw [A9 (Al ej)] at q
  exact q
def Kb (ks:List Str)(vs:List Int)(m:Ex):Ex:=λro mu=>bM (m ro mu) λd m1=>if DQ d=true then (Ey d (ks.map D.str) (vs.map D.int)).map λv=>(v,m1) else none
def rIg (X:Cx)(a:Addr)(ks:List Str)(vs:List Int):R2:=λx y H Q=>x=.ref a∧∃ (th:List Addr) (mu:Sto) (d:D) (j:Nat) (v:Int),StoOk X.z th mu H∧Rep X.z th H d y∧DQ d=true∧(ks.map D.str)[j]? = some d∧vs[j]? = some v∧Q (.int v) H
theorem Yw (hu:X.A.units+64<cLine){ks:List Str}{vs:List Int}{a:Addr}{o:Obj}{es:Array DictEntry}{ep:Nat}(h3:X.K.lookup a=some o)(h4:o.ExactDict)(h5:o.data=.dict es ep)
  (h6:Paired (λ(k:Str) (e:DictEntry)=>e.hash=hashStr X.w k∧∃ t,e.key=.str k t) ks es.toList) (h7:Paired (λ(v:Int) (e:DictEntry)=>∃ t,e.val=.int v t) vs es.toList) (nd:(ks.map D.str).Nodup) (ok:∀ k∈ks,k.length≤sizeLine∧PyData.strOk k=true):IxR X (rIg X a ks vs):=by
 intro value slice pins s st H x y v u Q I rx ry h hs
 obtain ⟨rfl,th,mu,d,j,w',so,r1,hk,ej,wj,q⟩:=h
 cases rx
 have g1:s.heap.get? a=some o:=I.kIn a o h3
 have ty:s.TypeIs (.ref a) "dict":=⟨o,g1,h4.1⟩
 have hd:=Hc I hk r1 ry
 obtain ⟨e,e1,e2⟩:=(Dn h7 j).1 w' wj
 obtain ⟨t,e2⟩:=e2
 refine subscriptTail_builtinR (x:=.int w' t) ty slot_dict_getitem.lookup ?_ hs
 unfold getItem
 refine AH (Aa (wpAny_sequenceKey ty (by decide) (Aa (AK (name:=Str.ofString "__getitem__") ty slot_dict_getitem (AG slot_dict_getitem ty entry_dict_getitem ?_ (args_dict_getitem _ _))))))
 refine (?_:wpAny _ _ (dictGet a u >>= _) _ _ s)
 refine Aa (SJ I h3 h5 h6 nd ok hd (by rw [Around.in1_units];ext) (λz tk=>absurd (Al ej) z) λj' e' ej' ee' tk=>?_)
 cases Rl nd ej ej'
 cases e1.symm.trans ee'
 refine Ab ⟨.int w' t,?_,Ab ⟨rfl,.int w',H,I.tok _,⟨t,rfl⟩,q⟩⟩
 rw [e2]
noncomputable def VI (ks:List Str):Bool:=ks.all λs=>decide (s.length≤sizeLine)&&PyData.strOk s
theorem Vv {ks:List Str}(h:VI ks=true):∀ k∈ks,k.length≤sizeLine∧PyData.strOk k=true:=λk hk=>by
 have:=Ar.mp h k hk
 rw [Ae,Ak] at this
 exact this
theorem Sa {ks:List Str}(h:ks.Nodup):(ks.map D.str).Nodup:=by
 rw [AV,List.pairwise_map]
 exact (AV.mp h).imp λn e=>n (by injection e)
theorem Qo {a:Expr}{ma:Ex}{g:Str}{ks:List Str}{vs:List Int}{p pos:Pos}(hu:X.A.units+64<cLine)(hm:Xk X.K X.w X.mg g ks vs)(ha:SV X a ma)(nd:ks.Nodup:=by symm)(ok:VI ks=true:=by symm)(hg:Gl X g:=by rfl)(hd:(g==("__debug__":Str))=false:=by decide)
  (hb:behindInMarks .NotIn (.Name g p)=false:=by first|exact Nb _|with_unfolding_all rfl):SVT X (.Compare a [.NotIn] [.Name g p] pos) (tV (Ke ks ma)):=by
 obtain ⟨ad,o,es,ep,m1,m2,m3,m4,m5,m6,m7⟩:=hm
 refine ⟨PT.weak (OZ (SU hu m2 m3 m4 m5 m6 m7 (Sa nd) (Vv ok)) ha.r (HY (v:=.ref ad) hg m1 rfl hd) hb) λst H Q h=>?_⟩
 obtain ⟨th,mu,ro,so,en,t⟩:=OM h
 refine ⟨th,mu,ro,so,en,t.bind.mono λd th1 mu1 H1 e1 s1 t1 v rv=>?_⟩
 by_cases c:DQ d=true
 ·rw [if_pos c] at t1
  exact ⟨rfl,th1,mu1,d,s1,rv,c,t1.ret s1 _ rfl⟩
 ·rw [if_neg c] at t1;exact t1.no.elim
theorem Vc {b:Expr}{mb:Ex}{g:Str}{ks:List Str}{vs:List Int}{p pos:Pos}(hu:X.A.units+64<cLine)(hm:Xk X.K X.w X.mg g ks vs)(hb:SV X b mb)(nd:ks.Nodup:=by symm)(ok:VI ks=true:=by symm)(hg:Gl X g:=by rfl)(hd:(g==("__debug__":Str))=false:=by decide)
  (hs:Lv b:=by intro _ _;rfl):SV X (.Subscript (.Name g p) b pos) (Kb ks vs mb):=by
 obtain ⟨ad,o,es,ep,m1,m2,m3,m4,m5,m6,m7⟩:=hm
 refine ⟨PE.weak (Vj (Yw hu m3 m4 m5 m6 m7 (Sa nd) (Vv ok)) (HY (v:=.ref ad) hg m1 rfl hd) hb.r hs) λst H Q h=>?_⟩
 obtain ⟨th,mu,ro,so,en,t⟩:=h
 refine ⟨th,mu,ro,so,en,t.bind.mono λd th1 mu1 H1 e1 s1 t1 v rv=>?_⟩
 by_cases c:DQ d=true
 ·rw [if_pos c] at t1
  by_cases z:d∈ks.map D.str
  ·obtain ⟨j,ej⟩:=A7.mp z
   rw [HR (Sa nd) ej,Ap] at t1
   cases q:vs[j]? with
   | none=>rw [q] at t1;exact t1.no.elim
   | some w' =>
    rw [q] at t1
    exact ⟨rfl,th1,mu1,d,j,w',s1,rv,c,ej,q,t1.ret s1 _ rfl⟩
  ·rw [F8 z] at t1;exact t1.no.elim
 ·rw [if_neg c] at t1;exact t1.no.elim
end
section
variable {prog:Program} {w:World} {A:Around} {E:Value->Shared->Prop} {s:Shared}
theorem Z1 {R:Result->Shared->Prop}(hu:A.in1.units+8<cLine){I d:Addr}{fp:List Addr}{P:Nat->Value->Prop}{St:Nat->Heap->Prop}{xs:List (D×V×V)}(W:Walks prog w A.in1 I fp [I] xs.length P St)(hdf:d∉fp){h0:Heap}(hI:h0.get? I=none)(hd:h0.get? d=none)(hval:∀ i v,P i v->∃ x,xs[i]? = some x∧PrV h0 x v){res:Value}{c0:Nat}(k:Nat) :
  ∀ (i:Nat) (s:Shared) (a:List D×List (Int×V×V)),i+k=xs.length->a.1.length≤c0+i->c0+xs.length≤sizeLine->St i s.heap->(∀ b o,h0.get? b=some o->s.heap.get? b=some o)->Qe w h0 s.heap d a ->
   (∀ h' tk,(∀ b o,b≠d->b≠I->s.heap.get? b=some o->h'.get? b=some o)->Qe w h0 h' d ((xs.drop i).foldl (F7 w) a)->R (.ok (.ret res)) { s with heap:=h',toks:=tk }) ->
   codeAny (model prog w) A (Code.builtin "dict.update.loop" ⟨[.ref d,.ref I,rawInt i,res],[]⟩) R s:=by
 have nI:I∈fp:=W.sub _ (by simp)
 have ndI:d≠I:=λz=>hdf (z▸nI)
 induction k with
 | zero =>
  intro i s a e la hz st hk hD hR
  obtain rfl:i=xs.length:=by ext
  refine Bl Hr ?_
  rw [Bd EC _]
  refine (?_:wpAny _ A.in1 (pyNext (.ref I) >>= _) _ _ s)
  refine Aa (W.done s _ _ st λh1 tk1 k1=>?_)
  refine (?_:wpAny _ A.in1 (Builtin.Dict.addKeywords d [] >>= _) _ _ _)
  refine Aa (Ab (Ab (hR h1 tk1 (λb o _ n e=>k1 b o (by simpa using n) e) ?_)))
  rw [List.drop_eq_nil_of_le (Aj _)]
  obtain ⟨es,ep,g,r⟩:=hD
  exact ⟨es,ep,k1 _ _ (by simpa using ndI) g,r⟩
 | succ k ih =>
  intro i s a e la hz st hk hD hR
  have lt:i<xs.length:=by ext
  refine Bl Hr ?_
  rw [Bd EC _]
  refine (?_:wpAny _ A.in1 (pyNext (.ref I) >>= _) _ _ s)
  refine Aa (W.item i s _ _ lt st λv h1 tk1 hP st1 k1=>?_)
  obtain ⟨x,ex,p,ku,vu,ev,⟨op,p1,p2,np,p3⟩,hk1,rk,rv⟩:=hval i v hP
  subst ev
  have hk':∀ b o,h0.get? b=some o->h1.get? b=some o:=λb o g=>k1 b o (by simpa using λz=>by rw [z,hI] at g;cases g) (hk b o g)
  refine (?_:wpAny _ A.in1 (holding [Value.ref p] _ >>= _) _ _ _)
  have ty:(Shared.TypeIs { s with heap:=h1,toks:=tk1 } (.ref p) "tuple"):=⟨op,hk' _ _ p1,p2⟩
  refine Aa (AH (Aa (wpAny_tryCatch ?_)))
  unfold Builtin.Dict.pairItems
  refine Aa (Br ty ?_)
  rw [if_pos (by decide)]
  refine Aa (Bm (hk' _ _ p1) p3 (Ab ?_))
  refine (?_:wpAny _ A.in1 (holding [ku,vu] (dictSet d ku vu)) _ _ _)
  obtain ⟨es,ep,g,en,pr,nd,l,ge⟩:=hD
  have g':=k1 _ _ (by simpa using ndI) g
  refine AH (YI (s:={ s with heap:=h1,toks:=tk1 }) (ks:=a.1) hu (hk1.keep hk') g' (Io en λk e q=>⟨q.1,q.2.keep hk'⟩) nd (by ext) λh2 tk2 es2 ep2 sb hD2 ⟨pe,ge2⟩=>?_)
  have dr:xs.drop i=x::xs.drop (i+1):=by
   rw [List.drop_eq_getElem_cons lt]
   rw [Ay lt] at ex
   rw [AI ex]
  have hk2:∀ b o,h0.get? b=some o->h2.get? b=some o:=λb o z=>(sb.2 b λq:b=d=>by rw [q,hd] at z;cases z).trans (hk' b o z)
  have cast:rawInt ((i:Int)+1)=rawInt ((i+1:Nat):Int):=rfl
  rw [cast]
  refine Ab (And.intro (BG EC _) (ih (i+1) _ (F7 w a x) (by ext) ?_ hz (W.frame _ h1 _ st1 λb hb o z=>(sb.2 b λq:b=d=>hdf (q▸hb)).trans z) hk2 ⟨es2,ep2,hD2,Og hk1 en pe .non [],Ov nd l pr rk rv pe,(Ie nd).1,M6 l nd,ge2 ge⟩ λh3 tk3 k3 hS3=>hR h3 tk3 (λb o b1 b2 z=>?_) ?_))
  ·have:=(Ie (k:=x.1) (v:=.non) (ds:=[]) nd).2
   unfold F7
   dsimp only
   ext
  ·exact k3 b o b1 b2 ((sb.2 b b1).trans (k1 b o (by simpa using b2) z))
  ·rw [dr];exact hS3
theorem OU {h h':Heap}{x:Str}{u:Value}(q:Hd h (.str x) u):Hd h' (.str x) u:=by
 obtain ⟨k,ok,as,r⟩:=q
 refine ⟨k,ok,[],?_⟩
 unfold toPy at r ⊢
 cases r
 exact .str _ _
end
section
variable {X:Cx} {K:Zc} {th:List Addr} {mu:Sto} {H:Hp} {pins:List (Addr×Obj)} {st:L2.St} {s:Shared}
theorem K5 (hh:X.A.handled=none){a:Addr}{its:List Value}{h0:Heap}{o:Obj}{E:Value->Shared->Prop}(ho:h0.get? a=some o)(pl:h0.IsList a its.toArray):YieldsV X.prog X.w X.A E h0 a its:=λs1 A' R hA hk hR=>by
 have pl':s1.heap.IsList a its.toArray:=pl.at λo e=>hk a o e
 have lt:a<s1.heap.objs.size:=An (hk a o ho)
 refine wpAny_pyIter_list pl' (hR s1.heap.objs.size [s1.heap.objs.size,a] _ s1.drawn (λi v=>its.toArray[i]? = some v) (λi h=>h.IsListIter s1.heap.objs.size a i∧h.IsList a its.toArray) (Aj _) (λb hb=>?_) (λb hb=>?_) (λA2 hA2=>?_) ?_ (λb o e=>Ad _ e) λi v hP=>?_)
 ·rw [Bc]
  rcases Ah.mp hb with rfl|hb
  ·exact A3 _
  ·rw [Ao.mp hb];exact A5 lt
 ·rcases Ah.mp hb with rfl|hb
  ·exact .inl (Aj _)
  ·rw [Ao.mp hb];exact .inr ⟨o,ho⟩
 ·have:=Walks.list (prog:=X.prog) (w:=X.w) (hA2.trans hh) s1.heap.objs.size a (AA lt) its.toArray
  rw [Aq] at this
  exact this
 ·exact ⟨⟨_,Ai _ rfl,rfl,rfl⟩,pl'.push _⟩
 ·have hP':its.toArray[i]? = some v:=hP
  simpa using hP'
def QD (d:D)(xs:List D)(mu:Sto):Rs D:=match d,xs with
 | .ref kk,[e]=>match mu[kk]?,Dg mu e with
  | some (.dct ks ds),some es=>match pairsOf es with
   | some ps=>if (strsOf ks).isSome=true∧(strsOf (ps.map (·.1))).isSome=true∧ks.length+ps.length≤sizeLine then some (.non,mu.set kk (.dct (putAll (ks,ds) ps).1 (putAll (ks,ds) ps).2)) else none
   | none=>none
  | _,_=>none
 | _,_=>none
theorem Vf (hu:X.A.units+64<cLine)(hc:X.calm=true):MtR X "dict.update" (λx vs H Q=>∃ th mu d ds,StoOk X.z th mu H∧Rep X.z th H d x∧RepL X.z th H ds vs∧Tr X.z th H (QD d ds mu) (KV' X.z Q)):=by
 intro pins s st H x xs v us Q I rx rxs h
 obtain ⟨th,mu,d,ds0,so,r1,r2,t⟩:=h
 unfold QD at t
 split at t
 ·rename_i kk e
  split at t
  ·rename_i ks ds es em eq
   split at t
   ·rename_i ps ep'
    by_cases c:(strsOf ks).isSome=true∧(strsOf (ps.map (·.1))).isSome=true∧ks.length+ps.length≤sizeLine
    ·rw [if_pos c] at t
     unfold Rep at r1
     obtain ⟨a,rfl,ha⟩:=r1
     have dc:DcAt X.z th H a ks ds:=so.at' kk a _ ha em
     obtain ⟨ty,ns,_⟩:=Ma I dc
     cases rx
     obtain ⟨ev,rfl,re⟩:=Dh r2
     obtain ⟨u,rfl,ru⟩:=vals1 rxs
     obtain ⟨l,vs,rfl,h1,h2,h3⟩:=DW so eq re
     cases ru
     have hm:a∈th:=Al ha
     have hh:=I.ok.hd hc
     obtain ⟨its,rv,pl,hz⟩:=I.list h1
     obtain ⟨o,n,ho,hcl,hdd,hdt⟩:=id pl
     obtain ⟨ys,p1,p2⟩:=Hl I ep' h2 rv
     obtain ⟨xs0,od,esd,epd,b1,g⟩:=Gr I dc
     obtain ⟨xs1,x1,x2,x3,x4,x5⟩:=id dc
     obtain ⟨⟨_,o',es',ep2,w1,w2,w3,w4,we⟩,_⟩:=(show ObjOk X.prog X.w H s.heap a (E3 a xs1) from I.hok a _ x1)
     have g1':=g.at'
     rw [w1] at g1'
     cases g1'
     have g3':=g.dt
     rw [w3] at g3'
     cases g3'
     have hal:a≠l:=λz=>by
      subst z
      have:=g.at'
      rw [ho] at this
      cases this
      rw [g.ex.1] at hcl
      injection hcl with hcl
      exact absurd hcl (by decide)
     have h0n:(PySem.W.hideAll s.heap [a]).get? a=none:=PySem.W.hideAll_none _ (by simp)
     have h0k:∀ b o,b≠a->s.heap.get? b=some o->(PySem.W.hideAll s.heap [a]).get? b=some o:=λb o n e=>PySem.W.hideAll_get _ e (by simpa using n)
     have h0o:∀ b o,(PySem.W.hideAll s.heap [a]).get? b=some o->s.heap.get? b=some o:=λb o e=>PySem.W.of_hideAll _ e
     generalize PySem.W.hideAll s.heap [a]=h0 at h0n h0k h0o
     have ol:h0.get? l=some o:=h0k l o (Ne.symm hal) ho
     have pl0:h0.IsList l its.toArray:=pl.isList.at λo' e'=>h0k l o' (Ne.symm hal) e'
     have pr0:Paired (PrV h0) ys its:=by
      refine HW (Dl p2) λj x v e1 e2=>?_
      obtain ⟨v',v1,v2⟩:=(Dn p2 j).1 x e1
      cases v1.symm.trans e2
      obtain ⟨p,ku,vu,rfl,⟨op,o1,o2⟩,q1,q2,q3⟩:=v2
      obtain ⟨pp,pp1,pp2⟩:=(Dn p1 j).2 x e1
      obtain ⟨z,hz'⟩:∃ z,x.1=.str z:=by
       have:=Mg c.2.1 (k:=pp.1) (Al (i:=j) (by rw [Ap,pp1];rfl))
       rw [pp2.1] at this
       exact this
      refine ⟨p,ku,vu,rfl,⟨op,h0k p op (λz=>?_) o1,o2⟩,?_,q2,q3⟩
      ·subst z
       have:=g.at'
       rw [o1] at this
       cases this
       have:=o2.1
       rw [g.ex.1] at this
       injection this with this
       exact absurd this (by decide)
      ·rw [hz'] at q1 ⊢
       exact OU q1
     have en0:Paired (EnK X.w h0) ks esd.toList:=by
      refine HW (Dl g.en) λj k e e1 e2=>?_
      obtain ⟨e',f1,f2⟩:=(Dn g.en j).1 k e1
      cases f1.symm.trans e2
      obtain ⟨z,rfl⟩:=Mg c.1 (Al e1)
      exact ⟨f2.1,OU f2.2⟩
     have xl1:xs1.length=ks.length:=by have:=x3.len;simpa using this
     obtain ⟨q1,r1',r2',r3',r4'⟩:=Jz (K:=X.z) (p:=(ks,ds)) (a:=(ks,xs1)) p1 rfl ⟨x2,x3,x4,x5⟩ c.2.2
     have hz2:ks.length+ys.length≤sizeLine:=by rw [← Dl p1];exact c.2.2
     refine wpAny_call (codeAny_call_builtin PySem.F.slot_dict_update.plain PySem.F.entry_dict_update (PySem.F.slot_dict_update.check _ _ _ _ _ _ _ _ ty (PySem.F.args_dict_update_2 _ _) ?_))
     unfold Builtin.«dict.update»
     refine Aa ?_
     (unfold Builtin.Dict.selfAndRest)
     refine Aa (wpAny_notOrdered_dict ty (?_:wpAny _ _ (pure (a,[Value.ref l])) _ _ s))
     refine Ab (?_:wpAny _ _ (Builtin.Dict.updateFrom "dict.update" a (.ref l) [] .none) _ _ s)
     (unfold Builtin.Dict.updateFrom)
     refine Aa (Br (show s.TypeIs (.ref l) "list" from ⟨o,ho,hcl⟩) ?_)
     rw [if_pos (by decide)]
     refine Aa (gAL ho hcl hdt hdd hh λh1 tk1 k1=>?_)
     rw [if_pos (by rfl)]
     refine Aa (Bq ?_)
     have al:a<s.heap.objs.size:=An g.at'
     have al1:a<h1.objs.size:=An (k1 _ _ g.at')
     refine Aa (K5 (X:=X) hh ol pl0 { s with heap:=h1,toks:=tk1 } _ _ rfl (λb ob e=>k1 _ _ (h0o b ob e)) λI' fp h2 d2 P St hI fpl fpn W st0 k2 hval=>?_)
     have hI':h1.objs.size≤I':=hI
     have nf:a∉fp:=λz=>by
      rcases fpn _ z with q|⟨o,q⟩
      ·exact absurd (Az al1 q) (A8 _)
      ·rw [h0n] at q;cases q
     have xl:ys.length=its.length:=Dl pr0
     have W':Walks X.prog X.w X.A.in1 I' fp [I'] ys.length P St:=by rw [xl];exact W _ rfl
     have h0I:h0.get? I'=none:=by
      cases q:h0.get? I' with
      | none=>rfl
      | some o=>exact absurd (Az (An (k1 _ _ (h0o _ _ q))) hI') (A8 _)
     refine Ab ⟨BG EC _,?_⟩
     refine Z1 (A:=X.A) (c0:=ks.length) (by show X.A.units+1+8<cLine;ext) W' nf (h0:=h0) h0I h0n (λi v hP=>?_) ys.length 0 { s with heap:=h2,toks:=tk1,drawn:=d2 } (ks,xs1) (Bs _) (Aj _) hz2 st0 (λb o e=>k2 _ _ (k1 _ _ (h0o b o e))) ⟨esd,epd,k2 _ _ (k1 _ _ ?_),en0,w4,x5.nd,xl1.symm,we⟩ λh' tk k3 hD=>?_
     ·obtain ⟨x,x1,x2⟩:=(Dn pr0 i).2 v (hval i v hP)
      exact ⟨x,x1,x2⟩
     ·have e:∀ (q:Obj),q.ExactDict->q.data=.dict esd epd->q=dOb esd epd:=λq f f4=>by
       obtain ⟨c1,c2,c3,c4⟩:=q
       obtain ⟨f1,f2,f3⟩:=f
       dsimp only at f1 f2 f3 f4
       subst f1 f2 f3 f4
       rfl
      rw [w1,e _ g.ex g.dt]
     ·rw [List.drop_zero] at hD
      obtain ⟨es',ep,g',en,pv,nd,l',ge⟩:=hD
      have I0:L2.Inv X pins st H { s with drawn:=d2 }:=⟨I.ok,I.os,I.bare,I.base,I.loc,I.cell,I.free,I.freeC,I.pin,I.hok,I.len⟩
      have mu1:Mut (H a):=by rw [x1];exact True.intro
      have J:=I0.write (x:=a) (e:=a) (t':=tk) (h':=h') (o:=E3 a (ys.foldl (F7 X.w) (ks,xs1)).2) mu1 (.inl rfl) (λb u' hb e=>k3 b u' hb (λz=>by
       subst z
       exact absurd (Az (An (k1 _ _ e)) hI') (A8 _)) (k2 _ _ (k1 _ _ e))) ⟨_,g'⟩ (JV ⟨ns,_,es',ep,g',⟨rfl,rfl,rfl⟩,rfl,pv,ge⟩)
      have ex:Ext th H th (upd H a (E3 a (ys.foldl (F7 X.w) (ks,xs1)).2)):=.mut hm _
      exact ⟨.non,_,J,rfl,t.retX (.mut hm _) (so.putG ha _ _ ⟨_,DG,r1',r2'.ext ex so.out,r3'.ext ex so.out,r4'⟩) _ (by unfold Rep;rfl)⟩
    ·rw [if_neg c] at t;exact t.no.elim
   ·exact t.no.elim
  ·exact t.no.elim
 ·exact t.no.elim
def Uk (o:Ex)(a:Exs):Ex:=λro mu=>bM (o ro mu) λd m1=>if (DR m1 d).isSome=true then bM (a ro m1) λxs m2=>QD d xs m2 else none
theorem Ur (hu:X.A.units+64<cLine)(hc:X.calm=true){o e:Expr}{es:List Expr}{m:Ex}{n:Exs}{apos cpos:Pos}(ho:SV X o m)(ha:SVA X (e::es) n)(hbase:attributeBase o "update" X.env (eval o X.env)=eval o X.env:=by rfl)
  (hfew:((backTo cpos (starEach (e::es) X.env)).all (λx=>!x.1)&&(backToKw cpos (keywordEach [] X.env)).all (λx=>x.1.isSome)
   && decide ((e::es).length+([]:List Keyword).length+(if ([]:List Keyword).isEmpty then 0 else 1)<30))=true:=by rfl)
  (hline:(apos.endLine==cpos.line)=true:=by rfl) (hs:starEach (e::es) X.env=(false,eval e X.env)::starEach es X.env:=by rfl) (hplain:(backTo cpos (starEach es X.env)).any (·.1)=false:=by rfl) :
  SV X (.Call (.Attribute o "update" apos) (e::es) [] cpos) (Uk m n):=
 ⟨PE.weak (Vo PySem.F.slot_dict_update PySem.F.type_dict_update (Vf hu hc) ho.r ha.1 hbase hfew hline hs hplain) λst H Q h=>by
  obtain ⟨th,mu,ro,so,en,t⟩:=h
  refine ⟨th,mu,ro,so,en,t.bind.mono λd th1 mu1 H1 e1 s1 t1 v rv=>?_⟩
  cases q:DR mu1 d with
  | none=>rw [q] at t1;exact t1.no.elim
  | some pr =>
   rw [q] at t1
   rw [if_pos (show (some pr).isSome=true from rfl)] at t1
   obtain ⟨a,rfl,dc⟩:=Eg s1 q rv
   obtain ⟨xs,hx,_⟩:=id dc
   refine ⟨⟨a,xs,rfl,hx⟩,th1,mu1,ro,s1,en.ext e1 so.out,?_⟩
   exact Tr.mono (Tr.bind t1) λys th2 mu2 H2 e2 s2 t2 ws rws=>⟨th2,mu2,d,ys,s2,rv.ext e2 s1.out,rws,t2⟩⟩
end
section
variable {X:Cx} {scope:Scope} {t1 i1 elt:Expr} {f1:List Expr} {pos:Pos} {i:Ix} {g:Gx} {tt:Tx} {el:Ex} {fin:List D->Sto->D×Sto}
theorem VA (hf:OW X.z Qg (rpL X.z) fin)(own:List Str)(fv:List (Nat×Str))(L:L0 X scope fv)(hi:SVI X t1 i1 i)(ow:GOw 0 own.length g)
  (hg:∀ cl C s₁ H₁ fp,SVG (CQ X scope (own++fv.map (·.2)) cl C s₁ H₁ fp) t1 g)
  (ht:∀ cl C s₁ H₁ fp,SVF (CQ X scope (own++fv.map (·.2)) cl C s₁ H₁ fp) f1 tt)
  (he:∀ cl C s₁ H₁ fp,SV (CQ X scope (own++fv.map (·.2)) cl C s₁ H₁ fp) elt el)
  (hs:∀ x,foldedSetIterable i1 X.env x=pure x:=by intro _;rfl) :
  Td X scope own fv (.ListComp elt [⟨t1,i1,f1,0⟩] scope pos) [⟨t1,i1,f1,0⟩] ⟨t1,i1,f1,0⟩ [] (newList []) Qg (rpL X.z) (λ_=>True) (stL el) g tt [] fin i (λD C cl=>KR elt (.ref D) (compEnvC scope cl C X.env)) where
 hc:=.l
 hgens:=rfl
 ha:=rfl
 hnew:=rfl
 L:=L
 hi:=hi
 ow:=ow
 rx:=OR
 f:=hf
 r00:=λ_ _=>⟨.nil,A0 _⟩
 hok:=λ_ _ _ _ _ _ _=>True.intro
 heq:=λ_ _ _ _=>Vb
 hg:=hg
 ht:=ht
 hm:=λcl C s₁ H₁ fp D dk=>PM.weak (OI dk (he cl C s₁ H₁ fp).r) λa σ H Q h=>SY h
 hs:=hs
end
section
variable {X:Cx} {α β:Type} {scope:Scope} {e:Expr} {gens rest:List Comprehension} {g:Comprehension} {newAcc:Sem Value} {pos2:Pos} {B:Mb α} {rp:List Addr->Hp->β->α->Prop} {ok:Ro->Prop} {st:Mx β} {tg:Gx} {tt:Tx} {b0:β} {fin:β->Sto->D×Sto} {i:Ix} {step:Addr->Addr->List (Str×Addr)->Sem Unit}
theorem Yy (own:List Str)(fv:List (Nat×Str))(c:Td X scope own fv e gens g rest newAcc B rp ok st tg tt b0 fin i step)(hev:eval e X.env=comprehension e scope X.env pos2 newAcc false (eval g.iter X.env)){mm:Ex}(hrd:∀ {σ:L2.St} {H:Hp} {Q:VK},rdE X.z mm σ H Q->tCo (rdI X.z i) own.length fv B (rdG X.z tg) (rdT X.z tt) (rdM X.z rp ok st) σ H Q):SV X e mm:=⟨λpins s σ H Q I h=>by
 rw [hev]
 refine JR (own:=own) (fv:=fv) (B:=B) (tg:=rdG X.z tg) (tt:=rdT X.z tt) (tm:=rdM X.z rp ok st) (step:=step) (wi:=rdI X.z i) (Q:=Q) c.hc c.hgens c.ha c.hnew c.L c.hi.r c.heq (λcl C s₁ H₁ fp=>(c.hg cl C s₁ H₁ fp).r) (λcl C s₁ H₁ fp=>(c.ht cl C s₁ H₁ fp).r) c.hm c.hs (λI=>HF I) I
  (hrd h) λs6 H' D C m J6 fC nsC q=>?_
 exact ⟨m,nsC,λh' sb=>⟨.ref D,H',J6.turnedL (ch:=[C]) (t':=s6.toks) (Iu sb) (λb hb=>by rw [Ao.mp hb];exact fC),rfl,q⟩⟩⟩
theorem Zk (own:List Str)(fv:List (Nat×Str))(j:Nat)(c:Td X scope own fv e gens g rest newAcc B rp ok st tg tt b0 fin i step){x:Str}{px spos:Pos}
  (hN:X.N.Nodup) (hix:X.N[j]? = some x) (hx:Loc X.env.scope x) (hf:X.fn x=true∨X.env.scope.names.lookup x=some .local)
  (hsw:swapsWith e (some (.Name x px)) spos.line X.env=pure true)
  (hev:evalThenUse e X.env (assign (.Name x px) X.env)=(do let _←comprehension e scope X.env pos2 newAcc false (eval g.iter X.env) (some (assign (.Name x px) X.env))))
  {mm:Ex} (hrd:∀ {σ:L2.St} {H:Hp} {Q:VK},rdE X.z mm σ H Q->tCo (rdI X.z i) own.length fv B (rdG X.z tg) (rdT X.z tt) (rdM X.z rp ok st) σ H Q) :
  SVS X (.Assign [.Name x px] e spos) (Ci mm (gNm j)):=⟨λpins s σ H E I h=>by
 (rw [exec_Assign_Name_used _ _ _ _ hsw])
 refine Aa (wpAny_standAt (Aa ?_))
 rw [hev]
 have h':rdE X.z mm σ H λv H'=>E.nx (σ.set j (some v)) H':=by
  obtain ⟨th,mu,ro,so,en,t⟩:=h
  refine ⟨th,mu,ro,so,en,t.bind.mono λd th1 mu1 H1 e1 s1 t1 v rv=>?_⟩
  exact t1.ret s1 _ ((en.ext e1 so.out).set j rv)
 refine Aa (wpAny_mono (JR (use:=some (assign (.Name x px) X.env)) (Qc:=λ_ s'=>SP X pins E .next s') (own:=own) (fv:=fv) (B:=B) (tg:=rdG X.z tg) (tt:=rdT X.z tt) (tm:=rdM X.z rp ok st) (step:=step) (wi:=rdI X.z i) c.hc c.hgens c.ha c.hnew c.L c.hi.r c.heq (λcl C s₁ H₁ fp=>(c.hg cl C s₁ H₁ fp).r) (λcl C s₁ H₁ fp=>(c.ht cl C s₁ H₁ fp).r) c.hm c.hs (λI=>HF I) I
  (hrd h') λs6 H' D C m J6 fC nsC q=>?_) (λ_ s' hq=>Ab (Ab hq)) λ_ _ e=>e)
 obtain ⟨oC,es,ep,hoC,hdC,rC⟩:=id nsC
 have J7:L2.Inv X (pins++[(C,oC)]) σ H' s6:=J6.pins_of λp hp=>(AE.mp hp).elim (λz=>J6.pin p (AB _ z)) λz=>by
  have e:p=(C,oC):=by simpa using z
  subst e
  obtain ⟨f0,f1,f2,_⟩:=fC
  exact ⟨hoC,f0,f1,f2,λv z=>by rw [hdC] at z;cases z⟩
 show wpAny _ X.A (assign (.Name x px) X.env (.ref D)) _ _ _
 refine wpAny_assign_Name (JW J7 hN hix hx (show RelV (.ref D) (.ref D) from rfl) (λs8 I8=>?_) hf)
 have eC:=(I8.pin (C,oC) (AB _ (AB _ (Ao.mpr rfl)))).1
 refine ⟨m,⟨oC,es,ep,eC,hdC,rC⟩,λh' sb=>?_⟩
 exact ⟨_,H',(I8.unpinned).turnedL (ch:=[C]) (t':=s8.toks) (Iu sb) (λb hb=>by rw [Ao.mp hb];exact fC),q⟩⟩
end
theorem Sv {g:Option Nat}{m0:Sto}{tg:Gx}{tt:Tx}{el:Ex}{ro:Ro}:∀ (ds b:List D) (mu:Sto) (ys:List D) (m:Sto),b.length+ds.length≤sizeLine->EM g m0 tg tt el ro ds mu=some (ys,m)->cGo g m0 tg tt (stL el) ro ds b mu=some (b++ys,m)
 | [],b,mu,ys,m,_,h=>by
  unfold EM at h
  cases h
  rw [List.append_nil]
  rfl
 | d::ds,b,mu,ys,m,hl,h=>by
  rw [List.length_cons] at hl
  unfold EM at h
  obtain ⟨ro1,m1,e1,h⟩:=EW h
  obtain ⟨c,m2,e2,h⟩:=EW h
  unfold cGo
  rw [e1,CA,e2,CA]
  cases c with
  | true =>
   rw [if_pos rfl] at h ⊢
   obtain ⟨y,m3,e3,h⟩:=EW h
   obtain ⟨g3,h⟩:=Fo h
   obtain ⟨zs,m4,e4,h⟩:=EW h
   cases h
   have e5:stL el b ro1 m2=some (b++[y],m3):=by
    unfold stL
    rw [e3,CA,if_pos (by ext)]
   rw [e5,CA,D9,if_pos g3,Sv ds (b++[y]) m3 zs m (by rw [Ag,List.length_singleton];ext) e4,List.append_assoc]
   rfl
  | false =>
   rw [if_neg Am] at h ⊢
   obtain ⟨g3,h⟩:=Fo h
   rw [D9,if_pos g3]
   exact Sv ds b m2 ys m (by ext) h
section
variable {K:Zc} {H:Hp} {tg:Gx} {tt:Tx} {el:Ex}
theorem Vr {i:Ix}{nc:Nat}{fv:List (Nat×Str)}{σ:L2.St}{Q:VK}(ow:GOw 0 nc tg)(h:rdE K (eLC i nc (fv.map (·.1)) tg tt el) σ H Q):tCo (rdI K i) nc fv Qg (rdG K tg) (rdT K tt) (rdM K (rpL K) (λ_=>True) (stL el)) σ H Q:=by
 obtain ⟨th,mu,ro,so,en,t⟩:=h
 refine ⟨th,mu,ro,so,en,t.bind.mono λp th1 mu1 H1 e1 s1 t1 J io=>?_⟩
 have t1':Tr K th1 H1 (bM (cGo p.2 mu1 tg tt (stL el) (r0 nc (fv.map (·.1)) ro) p.1 [] mu1) λb m2=>some (P7 b m2)) (KV' K Q):=by
  obtain ⟨a,m',e,q⟩:=id t1
  obtain ⟨ys,m2,e2,e3⟩:=EW e
  have:=Sv p.1 [] mu1 ys m2 (by simpa using io.sz) e2
  rw [List.nil_append] at this
  rw [e2,CA] at t1
  rw [this,CA]
  exact t1
 refine NB (rp:=rpL K) ow OR (λi d e=>.inr (JM e)) (λ_ _ _ _ _=>True.intro) io s1 (MF (en.ext e1 so.out)) ⟨.nil,A0 _⟩ (t1'.bind.mono λb th2 mu2 H2 e2 s2 t2 a2 σ2 en2 r2=>?_)
 obtain ⟨f1,f2⟩:=O5 s2 r2
 refine ⟨f1,λq hq=>?_⟩
 obtain ⟨th3,x3,s3,r3⟩:=f2 q hq
 exact t2.retX x3 s3 _ r3
end
section
variable {X:Cx} {tg iter elt:Expr} {ifs:List Expr} {scope:Scope} {pos:Pos} {i:Ix} {g:Gx} {tt:Tx} {el:Ex}
theorem GOwn.w {nc:Nat}(ow:GOwn nc g):GOw 0 nc g:=λd ro mu ro' mu' e=>⟨(ow d ro mu ro' mu' e).1,λi hi=>(ow d ro mu ro' mu' e).2 i (hi.elim (λz=>absurd z (Nat.not_lt_zero _)) id)⟩
theorem DO (own:List Str)(fv:List (Nat×Str))(L:L0 X scope fv)(hi:SVI X tg iter i)(ow:GOwn own.length g)
  (hg:∀ cl C s₁ H₁ fp,SVG (CQ X scope (own++fv.map (·.2)) cl C s₁ H₁ fp) tg g)
  (ht:∀ cl C s₁ H₁ fp,SVF (CQ X scope (own++fv.map (·.2)) cl C s₁ H₁ fp) ifs tt)
  (he:∀ cl C s₁ H₁ fp,SV (CQ X scope (own++fv.map (·.2)) cl C s₁ H₁ fp) elt el)
  (hs:∀ x,foldedSetIterable iter X.env x=pure x:=by intro _;rfl):SV X (.ListComp elt [⟨tg,iter,ifs,0⟩] scope pos) (eLC i own.length (fv.map (·.1)) g tt el):=
 Yy own fv (VA O5 own fv L hi ow.w hg ht he hs) rfl (Vr ow.w)
theorem NK (j:Nat){x:Str}{px spos:Pos}(own:List Str)(fv:List (Nat×Str))(L:L0 X scope fv)(hi:SVI X tg iter i)(ow:GOwn own.length g)
  (hg:∀ cl C s₁ H₁ fp,SVG (CQ X scope (own++fv.map (·.2)) cl C s₁ H₁ fp) tg g)
  (ht:∀ cl C s₁ H₁ fp,SVF (CQ X scope (own++fv.map (·.2)) cl C s₁ H₁ fp) ifs tt)
  (he:∀ cl C s₁ H₁ fp,SV (CQ X scope (own++fv.map (·.2)) cl C s₁ H₁ fp) elt el)
  (hN:X.N.Nodup) (hix:X.N[j]? = some x:=by rfl) (hx:Loc X.env.scope x:=by first|exact Or.inl rfl|exact Or.inr rfl) (hf:X.fn x=true∨X.env.scope.names.lookup x=some .local:=by first|exact .inl rfl|exact .inr rfl)
  (hsw:swapsWith (.ListComp elt [⟨tg,iter,ifs,0⟩] scope pos) (some (.Name x px)) spos.line X.env=pure true:=by rfl) (hs:∀ x,foldedSetIterable iter X.env x=pure x:=by intro _;rfl) :
  SVS X (.Assign [.Name x px] (.ListComp elt [⟨tg,iter,ifs,0⟩] scope pos) spos) (Ci (eLC i own.length (fv.map (·.1)) g tt el) (gNm j)):=
 Zk own fv j (VA O5 own fv L hi ow.w hg ht he hs) hN hix hx hf hsw rfl (Vr ow.w)
end
end PV
namespace PG
open PySem L2 PV PyProof.Rows
def Hk:Sx:=
  Ce (sIf (tO (tNt (tV (Jy "str" (BX 0)))) (tNt (tV (LX leD leD (eC (.int 1)) (B1 D0 (BW (BX 0) B0)) (eC (.int 8)))))) (sRt (eC (.bl false))) (sNx)) (sRt (B1 IZ (BW (eLC (Ei (BX 0)) 1 [] (gNm 0) (tY) (B2 inG (BX 0) (eC (.str "abcdefghijklmnopqrstuvwxyz0123456789")))) B0)))
def EV:Fn:=fnB 1 Hk
def Dc (f:Fn):Sx:=
  Ce (Ci (B2 ixG (BX 0) (eC (.int 0))) (gNm 1)) (Ce (sIf (tV (B2 eqD (BX 1) (eC (.str "of")))) (sRt (B1 Jb (BW (BX 0) B0))) (sNx)) (Ce (sIf (tV (B2 inG (BX 1) (eC (.tup ((["join","union","gap"]:List Str).map D.str))))) (sRt (B2 Ck (B2 Ck (EL (BW (BX 1) B0)) (B1 f (BW (B2 ixG (BX 0) (eC (.int 1))) B0))) (B1 f (BW (B2 ixG (BX 0) (eC (.int 2))) B0)))) (sNx)) (Ce (Ci (B2 ixG (BX 0) (eC (.int 2))) (gNm 2)) (Ce (Ci (eIf (tV (B2 eqD (BX 1) (eC (.str "columns")))) (B1 Jb (BW (BX 2) B0)) (eCo (Ei (BX 2)) 2 [] (gNm 0) (tY) (stI (Ei (BX 0)) (gNm 1) (tY) (stL (BX 1))) [] P7)) (gNm 3)) (sRt (B2 Ck (B2 Ck (EL (BW (BX 1) (BW (B1 GU (BW (B1 D0 (BW (BX 2) B0)) B0)) B0))) (BX 3)) (B1 f (BW (B2 ixG (BX 0) (eC (.int 1))) B0))))))))
noncomputable def Cv:Nat->Fn
 | 0=>λ_ _=>none
 | n+1=>fnB 4 (Dc (Cv n))
def Hi:Sx:=
  sRt (L8 (eC (.str " ")) (BW (B1 (Cv 18) (BW (BX 0) B0)) B0))
def DN:Fn:=fnB 1 Hi
def ET:Sx:=
  Ce (sIf (tO (tV (B2 gtD (B1 D0 (BW (BX 0) B0)) (eC (.int 2)))) (tO (tV (B2 eqD (B2 ixG (BX 0) (eC (.int 0))) (eC (.str "0")))) (tNt (tV (B1 IZ (BW (eLC (Ei (BX 0)) 1 [] (gNm 0) (tY) (B2 inG (BX 0) (eC (.str "0123456789")))) B0)))))) (sRt (eC (.int 0))) (sNx)) (sRt (B1 Q7 (BW (BX 0) B0)))
def Dr:Fn:=fnB 1 ET
def Ip:Sx:=
  Ce (Ci (B2 ixG (BX 0) (BX 1)) (gNm 2)) (Ce (Ci (B1 Dr (BW (B2 ixG (BX 0) (B2 Ck (BX 1) (eC (.int 1)))) B0)) (gNm 3)) (Ce (sIf (tO (tV (Ke ["rows","columns","called"] (BX 2))) (tV (B2 eqD (BX 3) (eC (.int 0))))) (sRt (Cq (BW (eC .non) (BW (eC .non) B0)))) (sNx)) (Ce (Ci (Kb ["rows","columns","called"] [3,1,2] (BX 2)) (gNm 4)) (Ce (Ci (B2 Ck (B2 Ck (BX 1) (eC (.int 2))) (B2 Fu (BX 3) (BX 4))) (gNm 5)) (Ce (Ci (B1 D8 (BW (eSl (BX 0) (De (B2 Ck (BX 1) (eC (.int 2)))) (De (BX 5))) B0)) (gNm 6)) (Ce (sIf (tV (B2 eqD (BX 2) (eC (.str "columns")))) (sRt (Cq (BW (BX 6) (BW (BX 5) B0)))) (sNx)) (Ce (Ci (B1 D8 (BW (eLC (NS (BW (eC (.int 0)) (BW (B1 D0 (BW (BX 6) B0)) (BW (BX 4) B0)))) 1 [6,4] (gNm 0) (tY) (eSl (BX 1) (De (BX 0)) (De (B2 Ck (BX 0) (BX 2))))) B0)) (gNm 7)) (Ce (sIf (tAn (tV (B2 eqD (BX 2) (eC (.str "rows")))) (tO (tV (B2 gtD (BX 3) (eC (.int 4)))) (tNt (tV (B1 IZ (BW (eLC (Ei (BX 7)) 1 [] (gNm 0) (tY) (B2 inG (B2 ixG (BX 0) (eC (.int 0))) (eC (.tup ((["is","not","like","unlike"]:List Str).map D.str))))) B0)))))) (sRt (Cq (BW (eC .non) (BW (eC .non) B0)))) (sNx)) (sRt (Cq (BW (BX 7) (BW (BX 5) B0))))))))))))
def DH:Fn:=fnB 8 Ip
def Gm (f:Fn):Sx:=
  Ce (sIf (tO (tV (B2 eqD (BX 2) (eC (.int 0)))) (tV (B2 geD (B2 Ck (BX 1) (eC (.int 1))) (B1 D0 (BW (BX 0) B0))))) (sRt (Cq (BW (eC .non) (BW (eC .non) B0)))) (sNx)) (Ce (Ci (B2 ixG (BX 0) (BX 1)) (gNm 3)) (Ce (sIf (tV (B2 eqD (BX 3) (eC (.str "of")))) (sRt (Cq (BW (Cq (BW (eC (.str "of")) (BW (B2 ixG (BX 0) (B2 Ck (BX 1) (eC (.int 1)))) B0))) (BW (B2 Ck (BX 1) (eC (.int 2))) B0)))) (sNx)) (Ce (sIf (tV (B2 inG (BX 3) (eC (.tup ((["join","union","gap"]:List Str).map D.str))))) (Ce (Ci (B1 f (BW (BX 0) (BW (B2 Ck (BX 1) (eC (.int 1))) (BW (B2 F9 (BX 2) (eC (.int 1))) B0)))) (gTp 2 (Cf (gNm 4) (Cf (gNm 5) Dd)))) (Ce (Ci (eIf (tV (B2 isD (BX 4) (eC .non))) (Cq (BW (eC .non) (BW (eC .non) B0))) (B1 f (BW (BX 0) (BW (BX 5) (BW (B2 F9 (BX 2) (eC (.int 1))) B0))))) (gTp 2 (Cf (gNm 6) (Cf (gNm 7) Dd)))) (sRt (eIf (tV (B2 isD (BX 6) (eC .non))) (Cq (BW (eC .non) (BW (eC .non) B0))) (Cq (BW (Cq (BW (BX 3) (BW (BX 4) (BW (BX 6) B0)))) (BW (BX 7) B0))))))) (sNx)) (Ce (Ci (B1 DH (BW (BX 0) (BW (BX 1) B0))) (gTp 2 (Cf (gNm 8) (Cf (gNm 9) Dd)))) (Ce (Ci (eIf (tV (B2 isD (BX 8) (eC .non))) (Cq (BW (eC .non) (BW (eC .non) B0))) (B1 f (BW (BX 0) (BW (BX 9) (BW (B2 F9 (BX 2) (eC (.int 1))) B0))))) (gTp 2 (Cf (gNm 4) (Cf (gNm 7) Dd)))) (sRt (eIf (tV (B2 isD (BX 4) (eC .non))) (Cq (BW (eC .non) (BW (eC .non) B0))) (Cq (BW (Cq (BW (BX 3) (BW (BX 4) (BW (BX 8) B0)))) (BW (BX 7) B0))))))))))
noncomputable def CD:Nat->Fn
 | 0=>λ_ _=>none
 | n+1=>fnB 10 (Gm (CD n))
def Fg:Sx:=
  Ce (sIf (tNt (tV (B1 IZ (BW (eLC (Ei (BX 0)) 1 [] (gNm 0) (tY) (B1 EV (BW (BX 0) B0))) B0)))) (sRt (eC .non)) (sNx)) (Ce (Ci (B1 (CD 18) (BW (BX 0) (BW (eC (.int 0)) (BW (eC (.int 16)) B0)))) (gTp 2 (Cf (gNm 1) (Cf (gNm 2) Dd)))) (sRt (eIf (tV (B2 eqD (BX 2) (B1 D0 (BW (BX 0) B0)))) (BX 1) (eC .non))))
def Dx:Fn:=fnB 3 Fg
def Hg:Sx:=
  Ce (Ci (eIf (tV (Jy "str" (BX 0))) (B1 Dx (BW (Sj (BX 0) (BW (eC (.str " ")) B0)) B0)) (eC .non)) (gNm 1)) (Ce (sIf (tV (B2 isD (BX 1) (eC .non))) Ri (sNx)) (sRt (BX 1)))
def DM:Fn:=fnB 2 Hg
def GC:Sx:=
  Ce (Ci (eC (.int 0)) (gNm 2)) (Ce (sIf (tV (B2 ltG (BX 1) (B1 D0 (BW (BX 0) B0)))) (Ci (B2 ixG (BX 0) (BX 1)) (gNm 2)) (sNx)) (sRt (G2 (BW (B2 Fu (BX 2) (B1 RU (BW (B2 geD (BX 2) (B2 QE (eC (.int 10)) (eC (.int 18)))) B0))) (BW (B2 Ck (B2 Ck (B2 Ew (BX 2) (eC (.int 2305843009213693951))) (B2 Fu (eC (.int 7919)) (BX 1))) (eC (.int 3))) (BW (eC (.int 0)) B0))))))
def Eu:Fn:=fnB 3 GC
def GJ:Sx:=
  Ce (sIf (tV (B2 gtD (B2 ixG (BX 0) (eC (.int 0))) (eC (.int 0)))) (Ce (Ci (B2 Ew (B2 ixG (BX 0) (eC (.int 0))) (BX 1)) (gNm 2)) (Ce (Ci (B2 JS (B2 ixG (BX 0) (eC (.int 0))) (BX 1)) (gIx (BX 0) (eC (.int 0)))) (sRt (BX 2)))) (sNx)) (Ce (Ci (B2 Ck (B2 ixG (BX 0) (eC (.int 2))) (eC (.int 1))) (gIx (BX 0) (eC (.int 2)))) (Ce (Ci (B2 ixG (BX 0) (eC (.int 2))) (gNm 3)) (Ce (Ci (B2 Ew (B2 Fu (B2 ixG (BX 0) (eC (.int 1))) (B2 Ck (B2 Ck (eC (.int 48271)) (B2 Fu (B2 Fu (eC (.int 2)) (BX 3)) (BX 3))) (B2 Fu (eC (.int 65537)) (BX 3)))) (eC (.int 2305843009213693921))) (gNm 4)) (Ce (Ci (B2 Ck (B2 Ck (B2 Ew (BX 4) (eC (.int 1000003))) (B2 Fu (BX 3) (eC (.int 99991)))) (eC (.int 11))) (gNm 5)) (Ce (Ci (B2 Ew (B2 Fu (BX 4) (BX 5)) (eC (.int 2305843009213693907))) (gNm 4)) (sRt (B2 Ew (B2 Ck (B2 JS (BX 4) (eC (.int 97))) (B2 JS (BX 4) (eC (.int 1000033)))) (BX 1))))))))
def B6:Fn:=fnB 6 GJ
def GD:Sx:=
  sRt (B2 ixG (BX 1) (B1 B6 (BW (BX 0) (BW (B1 D0 (BW (BX 1) B0)) B0))))
def Cg:Fn:=fnB 2 GD
def G8:Sx:=
  Ce (Ci (eC (.str "abcdefghijklmnopqrstuvwxyz0123456789")) (gNm 3)) (Ce (Ci (Cq (BW (B1 B6 (BW (BX 0) (BW (eC (.int 36)) B0))) (BW (B1 Cg (BW (BX 0) (BW (EL (BW (eC (.int 1)) (BW (eC (.int 5)) (BW (eC (.int 7)) (BW (eC (.int 11)) (BW (eC (.int 13)) (BW (eC (.int 17)) B0))))))) B0))) B0))) (gTp 2 (Cf (gNm 4) (Cf (gNm 5) Dd)))) (Ce (Ci (B2 Fu (B2 ixG (BX 3) (B1 B6 (BW (BX 0) (BW (eC (.int 36)) B0)))) (B1 M0 (BW (B2 F9 (BX 2) (eC (.int 1))) (BW (B1 Cg (BW (BX 0) (BW (EL (BW (eC (.int 0)) (BW (eC (.int 1)) (BW (eC (.int 0)) (BW (eC (.int 2)) (BW (eC (.int 7)) B0)))))) B0))) B0)))) (gNm 6)) (Ce (Ci (B1 B6 (BW (BX 0) (BW (B2 Ck (B1 D0 (BW (BX 6) B0)) (eC (.int 1))) B0))) (gNm 7)) (sRt (eLC (iRg (BW (BX 1) B0)) 1 [6,7,3,4,5] (gNm 0) (tY) (B2 Ck (B2 Ck (eSl (BX 1) (pNo) (De (BX 2))) (B2 ixG (BX 3) (B2 Ew (B2 Ck (BX 4) (B2 Fu (BX 5) (BX 0))) (eC (.int 36))))) (eSl (BX 1) (De (BX 2)) (pNo))))))))
def D7:Fn:=fnB 8 G8
def Gq:Sx:=
  Ce (Ci (B1 NM (BW (B1 D7 (BW (BX 0) (BW (B2 Ck (eC (.int 1)) (B1 B6 (BW (BX 0) (BW (BX 1) B0)))) (BW (eC (.int 8)) B0)))) B0)) (gNm 4)) (Ce (Ci (B1 D7 (BW (BX 0) (BW (B2 Ck (BX 2) (eC (.int 2))) (BW (eC (.int 8)) B0)))) (gNm 5)) (Ce (Ci (B1 D7 (BW (BX 0) (BW (B2 Ck (BX 3) (eC (.int 1))) (BW (eC (.int 8)) B0)))) (gNm 6)) (Ce (Ci (G2 B0) (gNm 7)) (Ce (Hu (Ei (BX 4)) (gNm 8) (Ce (Ci (B2 Ck (eC (.int 1)) (B1 B6 (BW (BX 0) (BW (BX 2) B0)))) (gNm 9)) (Ce (Ci (B1 B6 (BW (BX 0) (BW (eC (.int 3)) B0))) (gNm 10)) (Ce (Ci (G2 B0) (gNm 11)) (Ce (Hu (iRg (BW (BX 9) B0)) (gNm 12) (Ce (Ci (B2 Ck (eC (.int 1)) (B1 B6 (BW (BX 0) (BW (BX 3) B0)))) (gNm 13)) (Ce (Ci (B1 B6 (BW (BX 0) (BW (eC (.int 2)) B0))) (gNm 14)) (Ce (Ci (B1 D8 (BW (eLC (iRg (BW (BX 13) B0)) 1 [6,14] (gNm 0) (tY) (B2 ixG (BX 1) (B2 Ew (B2 Ck (BX 0) (BX 2)) (B1 D0 (BW (BX 1) B0))))) B0)) (gNm 15)) (sEx (Lb (BX 11) (BW (Cq (BW (B2 ixG (BX 5) (B2 Ew (B2 Ck (BX 12) (BX 10)) (B1 D0 (BW (BX 5) B0)))) (BW (BX 15) B0))) B0))))))) (sEx (Lb (BX 7) (BW (Cq (BW (BX 8) (BW (B1 D8 (BW (BX 11) B0)) (BW (B2 Ck (eC (.int 1)) (B1 B6 (BW (BX 0) (BW (BX 9) B0)))) B0)))) B0)))))))) (sRt (B1 D8 (BW (BX 7) B0)))))))
def Ee:Fn:=fnG 16 Gq
def FT:Sx:=
  Ce (Ci (G2 B0) (gNm 3)) (Ce (Hu (Ei (BX 1)) (gTp 3 (Cf (gNm 4) (Cf (gNm 5) (Cf (gNm 6) Dd)))) (Ce (Ci MJ (gNm 7)) (Ce (Hu (iRg (BW (B1 B6 (BW (BX 0) (BW (B2 Ck (BX 2) (eC (.int 1))) B0))) B0)) (gNm 8) (Ce (Ci (B1 D8 (BW (eLC (Ei (BX 5)) 2 [0] (gTp 2 (Cf (gNm 0) (Cf (gNm 1) Dd))) (tY) (B1 Cg (BW (BX 2) (BW (BX 1) B0)))) B0)) (gNm 9)) (Ci (BX 9) (gIx (BX 7) (eSl (BX 9) (pNo) (De (BX 6))))))) (sEx (Lb (BX 3) (BW (B1 D8 (BW (Ko (BX 7)) B0)) B0)))))) (sRt (B1 D8 (BW (BX 3) B0))))
def DZ:Fn:=fnG 10 FT
def Dv (f:Fn):Sx:=
  Ce (sIf (tV (B2 eqD (B2 ixG (BX 1) (eC (.int 0))) (eC (.str "of")))) (Ce (Ci (B2 ixG (eLC (Ei (BX 0)) 1 [1] (gNm 0) (tV (B2 eqD (B2 ixG (BX 0) (eC (.int 0))) (B2 ixG (BX 1) (eC (.int 1))))) (B2 ixG (BX 0) (eC (.int 1)))) (eC (.int 0))) (gNm 2)) (sRt (B1 D8 (BW (eLC (Ei (BX 2)) 2 [] (gTp 2 (Cf (gNm 0) (Cf (gNm 1) Dd))) (tY) (BX 0)) B0)))) (sNx)) (Ce (Ci (B1 f (BW (BX 0) (BW (B2 ixG (BX 1) (eC (.int 1))) B0))) (gNm 3)) (Ce (sIf (tV (B2 eqD (B2 ixG (BX 1) (eC (.int 0))) (eC (.str "columns")))) (sRt (B2 ixG (BX 1) (eC (.int 2)))) (sNx)) (Ce (sIf (tV (B2 eqD (B2 ixG (BX 1) (eC (.int 0))) (eC (.str "called")))) (Ce (Ci (B1 dctP (BW (B1 Jb (BW (B2 ixG (BX 1) (eC (.int 2))) B0)) B0)) (gNm 4)) (sRt (B1 D8 (BW (eLC (Ei (BX 3)) 1 [4] (gNm 0) (tY) (O7 (BX 1) (BW (BX 0) (BW (BX 0) B0)))) B0)))) (sNx)) (Ce (sIf (tV (B2 eqD (B2 ixG (BX 1) (eC (.int 0))) (eC (.str "join")))) (sRt (B2 Ck (BX 3) (B1 D8 (BW (eLC (Ei (B1 f (BW (BX 0) (BW (B2 ixG (BX 1) (eC (.int 2))) B0)))) 1 [3] (gNm 0) (tV (B2 Kc (BX 0) (BX 1))) (BX 0)) B0)))) (sNx)) (sRt (BX 3))))))
noncomputable def Cd:Nat->Fn
 | 0=>λ_ _=>none
 | n+1=>fnB 5 (Dv (Cd n))
def Gp:Sx:=
  Ce (Ci (B1 Cg (BW (BX 0) (BW (EL (BW (eC (.str "is")) (BW (eC (.str "not")) (BW (eC (.str "like")) (BW (eC (.str "unlike")) (BW (eC (.str "is")) B0)))))) B0))) (gNm 3)) (Ce (Ci (B1 Cg (BW (BX 0) (BW (BX 1) B0))) (gNm 4)) (sRt (Cq (BW (BX 3) (BW (BX 4) (BW (B1 Cg (BW (BX 0) (BW (eIf (tV (B2 inG (BX 3) (Cq (BW (eC (.str "is")) (BW (eC (.str "not")) B0))))) (BX 2) (BX 1)) B0))) B0))))))
def Du:Fn:=fnB 5 Gp
def G6:Sx:=
  Ce (Ci MJ (gNm 1)) (Ce (Hu (Ei (BX 0)) (gTp 3 (Cf (gNm 2) (Cf (gNm 3) (Cf (gNm 4) Dd)))) (Hu (Ei (BX 3)) (gTp 2 (Cf (gNm 5) (Cf (gNm 6) Dd))) (sEx (Uk (BX 1) (BW (eLC (Ei (BX 6)) 1 [] (gNm 0) (tY) (Cq (BW (BX 0) (BW (eC (.bl true)) B0)))) B0))))) (sRt (B1 NM (BW (BX 1) B0))))
def D6:Fn:=fnG 7 G6
def FJ (f:Fn):Sx:=
  Ce (Ci (B1 D6 (BW (BX 1) B0)) (gNm 4)) (Ce (Ci (B1 B6 (BW (BX 0) (BW (eC (.int 8)) B0))) (gNm 5)) (Ce (sIf (tO (tV (B2 ltG (BX 2) (eC (.int 2)))) (tV (B2 eqD (BX 5) (eC (.int 0))))) (sRt (Cq (BW (eC (.str "of")) (BW (B2 ixG (B1 Cg (BW (BX 0) (BW (BX 1) B0))) (eC (.int 0))) B0)))) (sNx)) (Ce (Ci (B1 f (BW (BX 0) (BW (BX 1) (BW (B2 F9 (BX 2) (eC (.int 1))) (BW (BX 3) B0))))) (gNm 6)) (Ce (Ci (B1 (Cd 10) (BW (BX 1) (BW (BX 6) B0))) (gNm 7)) (Ce (sIf (tO (tV (B2 eqD (BX 5) (eC (.int 1)))) (tV (B2 eqD (BX 5) (eC (.int 2))))) (sRt (Cq (BW (eC (.str "rows")) (BW (BX 6) (BW (B1 D8 (BW (eLC (iRg (BW (B2 Ck (eC (.int 1)) (B1 B6 (BW (BX 0) (BW (eC (.int 2)) B0)))) B0)) 1 [0,7,4] (gNm 0) (tY) (B1 Du (BW (BX 1) (BW (BX 2) (BW (BX 3) B0))))) B0)) B0))))) (sNx)) (Ce (sIf (tV (B2 eqD (BX 5) (eC (.int 3)))) (Ce (Ci (B1 B6 (BW (BX 0) (BW (B1 D0 (BW (BX 7) B0)) B0))) (gNm 8)) (Ce (Ci (eSl (B2 Ck (eSl (BX 7) (De (BX 8)) (pNo)) (eSl (BX 7) (pNo) (De (BX 8)))) (pNo) (De (B2 Ck (eC (.int 1)) (B1 B6 (BW (BX 0) (BW (B1 D0 (BW (BX 7) B0)) B0)))))) (gNm 9)) (sRt (Cq (BW (eC (.str "columns")) (BW (BX 6) (BW (BX 9) B0))))))) (sNx)) (Ce (sIf (tV (B2 eqD (BX 5) (eC (.int 4)))) (Ce (Ci (B1 Cg (BW (BX 0) (BW (BX 7) B0))) (gNm 10)) (Ce (Ci (eLC (Ei (EL (BW (eC (.str "z9")) (BW (eC (.str "y8")) (BW (eC (.str "x7")) (BW (eC (.str "w6")) (BW (eC (.str "v5")) B0))))))) 1 [7] (gNm 0) (tV (B2 Kc (BX 0) (BX 1))) (BX 0)) (gNm 11)) (sRt (Cq (BW (eC (.str "called")) (BW (BX 6) (BW (Cq (BW (Cq (BW (BX 10) (BW (B1 Cg (BW (BX 0) (BW (B2 Ck (BX 11) (EL (BW (BX 10) B0))) B0))) B0))) B0)) B0))))))) (sNx)) (Ce (Ci (B1 f (BW (BX 0) (BW (BX 1) (BW (B2 F9 (BX 2) (eC (.int 1))) (BW (BX 3) B0))))) (gNm 12)) (Ce (sIf (tV (B2 eqD (BX 5) (eC (.int 5)))) (Ce (Ci (Cq (BW (eC (.str "join")) (BW (BX 6) (BW (BX 12) B0)))) (gNm 13)) (sRt (eIf (tV (B2 leD (B1 D0 (BW (B1 (Cd 10) (BW (BX 1) (BW (BX 13) B0))) B0)) (BX 3))) (BX 13) (BX 6)))) (sNx)) (Ce (sIf (tV (B2 neD (B1 (Cd 10) (BW (BX 1) (BW (BX 12) B0))) (BX 7))) (Ce (Ci (BX 6) (gNm 12)) (sIf (tAn (tV (B2 gtD (BX 2) (eC (.int 2)))) (tV (B2 neD (B2 ixG (BX 6) (eC (.int 0))) (eC (.str "rows"))))) (Ci (Cq (BW (eC (.str "rows")) (BW (BX 6) (BW (Cq (BW (B1 Du (BW (BX 0) (BW (BX 7) (BW (BX 4) B0)))) B0)) B0)))) (gNm 12)) (sNx))) (sNx)) (sRt (Cq (BW (B2 ixG (EL (BW (eC (.str "union")) (BW (eC (.str "gap")) B0))) (B2 F9 (BX 5) (eC (.int 6)))) (BW (BX 6) (BW (BX 12) B0)))))))))))))))
noncomputable def Dj:Nat->Fn
 | 0=>λ_ _=>none
 | n+1=>fnB 14 (FJ (Dj n))
def FU:Sx:=
  Ce (Ci (B1 Cg (BW (BX 0) (BW (EL (BW (eC (.int 2)) (BW (eC (.int 3)) (BW (eC (.int 2)) (BW (eC (.int 4)) B0))))) B0))) (gNm 3)) (Ce (Ci (B1 Ee (BW (BX 0) (BW (BX 1) (BW (B2 ixG (EL (BW (eC (.int 0)) (BW (eC (.int 0)) (BW (eC (.int 4)) (BW (eC (.int 3)) (BW (eC (.int 3)) B0)))))) (BX 3)) (BW (BX 3) B0))))) (gNm 4)) (Ce (Ci (B2 ixG (EL (BW (eC (.int 0)) (BW (eC (.int 0)) (BW (eC (.int 7)) (BW (eC (.int 5)) (BW (eC (.int 4)) B0)))))) (BX 3)) (gNm 5)) (Ce (Ci (B1 Cg (BW (BX 0) (BW (EL (BW (eC (.int 1)) (BW (eC (.int 2)) (BW (eC (.int 3)) (BW (eC (.int 3)) (BW (eC (.int 4)) (BW (eC (.int 4)) (BW (eC (.int 5)) (BW (eC (.int 5)) B0))))))))) B0))) (gNm 6)) (sRt (Cq (BW (BX 4) (BW (B1 DZ (BW (BX 0) (BW (BX 4) (BW (BX 2) B0)))) (BW (B1 (Dj 10) (BW (BX 0) (BW (BX 4) (BW (BX 6) (BW (BX 5) B0))))) B0))))))))
def DY:Fn:=fnB 7 FU
def CL (f:Fn):Sx:=
  Ce (Ci (B2 ixG (BX 0) (eC (.int 0))) (gNm 1)) (Ce (sIf (tV (B2 eqD (BX 1) (eC (.str "of")))) (sRt (B2 Ck (eC (.str "of ")) (B2 ixG (BX 0) (eC (.int 1))))) (sNx)) (Ce (sIf (tV (B2 inG (BX 1) (Cq (BW (eC (.str "join")) (BW (eC (.str "union")) (BW (eC (.str "gap")) B0)))))) (sRt (L8 (eC (.str " ")) (BW (EL (BW (BX 1) (BW (B1 f (BW (B2 ixG (BX 0) (eC (.int 1))) B0)) (BW (B1 f (BW (B2 ixG (BX 0) (eC (.int 2))) B0)) B0)))) B0))) (sNx)) (Ce (Ci (EL (BW (BX 1) (BW (B1 GU (BW (B1 D0 (BW (B2 ixG (BX 0) (eC (.int 2))) B0)) B0)) B0))) (gNm 2)) (Ce (Hu (Ei (B2 ixG (BX 0) (eC (.int 2)))) (gNm 3) (Ci (B2 Ck (BX 2) (eIf (tV (B2 eqD (BX 1) (eC (.str "columns")))) (EL (BW (BX 3) B0)) (B1 Jb (BW (BX 3) B0)))) (gNm 2))) (sRt (L8 (eC (.str " ")) (BW (B2 Ck (BX 2) (EL (BW (B1 f (BW (B2 ixG (BX 0) (eC (.int 1))) B0)) B0))) B0)))))))
noncomputable def Cn:Nat->Fn
 | 0=>λ_ _=>none
 | n+1=>fnB 4 (CL (Cn n))
def FL (f:Fn):Sx:=
  Ce (sIf (tV (Jy "tuple" (BX 1))) (Ce (sIf (tO (tNt (tV (Jy "tuple" (BX 0)))) (tV (B2 neD (B1 D0 (BW (BX 0) B0)) (B1 D0 (BW (BX 1) B0))))) (sRt (eC (.bl false))) (sNx)) (sRt (B1 IZ (BW (eLC (VS (BW (BX 0) (BW (BX 1) B0))) 2 [] (gTp 2 (Cf (gNm 0) (Cf (gNm 1) Dd))) (tY) (B1 f (BW (BX 0) (BW (BX 1) B0)))) B0)))) (sNx)) (Ce (sIf (tV (Jy "int" (BX 1))) (sRt (eAn (Jy "int" (BX 0)) (eAn (eNt (Jy "bool" (BX 0))) (B2 eqD (BX 0) (BX 1))))) (sNx)) (sRt (eAn (Jy "str" (BX 0)) (B2 eqD (BX 0) (BX 1)))))
noncomputable def CZ:Nat->Fn
 | 0=>λ_ _=>none
 | n+1=>fnB 2 (FL (CZ n))
def HB:Sx:=
  Ce (Hu (iRg (BW (B1 B6 (BW (BX 0) (BW (BX 2) B0))) B0)) (gNm 3) (Ce (Ci (B1 B6 (BW (BX 0) (BW (eC (.int 4)) B0))) (gNm 4)) (Ce (Ci (B1 D8 (BW (eLC (iRg (BW (B2 Ck (eC (.int 1)) (B1 B6 (BW (BX 0) (BW (eC (.int 14)) B0)))) B0)) 1 [3] (gNm 0) (tY) (B2 Ck (eC (.str "c")) (B1 GU (BW (B2 Ew (BX 0) (B2 Ck (eC (.int 2)) (BX 1))) B0)))) B0)) (gNm 5)) (sIf (tV (B2 eqD (BX 4) (eC (.int 0)))) (Ci (Cq (BW (eC (.str "columns")) (BW (BX 1) (BW (BX 5) B0)))) (gNm 1)) (sIf (tV (B2 eqD (BX 4) (eC (.int 1)))) (Ci (Cq (BW (eC (.str "called")) (BW (BX 1) (BW (B1 D8 (BW (eLC (Ei (BX 5)) 1 [] (gNm 0) (tY) (Cq (BW (BX 0) (BW (eC (.str "d")) B0)))) B0)) B0)))) (gNm 1)) (sIf (tV (B2 eqD (BX 4) (eC (.int 2)))) (Ci (Cq (BW (eC (.str "rows")) (BW (BX 1) (BW (Cq (BW (Cq (BW (eC (.str "is")) (BW (eC (.str "of")) (BW (eC (.str "gap")) B0)))) (BW (Cq (BW (eC (.str "unlike")) (BW (eC (.str "rows")) (BW (eC (.str "9")) B0)))) B0))) B0)))) (gNm 1)) (Ci (B1 Cg (BW (BX 0) (BW (EL (BW (Cq (BW (eC (.str "join")) (BW (Cq (BW (eC (.str "of")) (BW (eC (.str "of")) B0))) (BW (BX 1) B0)))) (BW (Cq (BW (eC (.str "gap")) (BW (BX 1) (BW (Cq (BW (eC (.str "of")) (BW (eC (.str "rows")) B0))) B0)))) B0))) B0))) (gNm 1)))))))) (sRt (BX 1))
def EZ:Fn:=fnB 6 HB
def RL:Sx:=
  Ce (Hu (iRg (BW (B1 Q3 (BW (eC (.int 1)) (BW (B1 M0 (BW (B1 D0 (BW (BX 0) B0)) (BW (eC (.int 6)) B0))) B0))) B0)) (gNm 1) (Ce (Ci (B1 Eu (BW (BX 0) (BW (BX 1) B0))) (gNm 2)) (Ce (Ci (B1 DY (BW (BX 2) (BW (eC (.int 4)) (BW (eC (.int 1)) B0)))) (gTp 3 (Cf (gNm 3) (Cf (gNm 4) (Cf (gNm 5) Dd))))) (Ce (Ci (B1 Cg (BW (BX 2) (BW (EL (BW (eC (.int 10)) (BW (eC (.int 16)) (BW (eC (.int 50)) (BW (eC (.int 98)) (BW (eC (.int 99)) B0)))))) B0))) (gNm 6)) (Ce (Ci (Cq (BW (eC (.str "columns")) (BW (BX 5) (BW (B1 D8 (BW (eLC (iRg (BW (BX 6) B0)) 1 [2] (gNm 0) (tY) (B2 Ck (eC (.str "c")) (B1 GU (BW (B2 Ew (BX 0) (B2 Ck (eC (.int 1)) (B1 B6 (BW (BX 1) (BW (eC (.int 99)) B0))))) B0)))) B0)) B0)))) (gNm 7)) (Ce (Ci (B1 D8 (BW (eLC (iRg (BW (B2 Ck (eC (.int 1)) (B2 Ew (BX 1) (eC (.int 4)))) B0)) 1 [] (gNm 0) (tY) (Cq (BW (eC (.str "is")) (BW (eC (.str "a")) (BW (B1 GU (BW (BX 0) B0)) B0))))) B0)) (gNm 8)) (Hu (Ei (Cq (BW (BX 5) (BW (B1 EZ (BW (BX 2) (BW (Cq (BW (eC (.str "of")) (BW (eC (.str "look")) B0))) (BW (eC (.int 16)) B0)))) (BW (BX 7) (BW (Cq (BW (eC (.str "rows")) (BW (BX 5) (BW (BX 8) B0)))) B0)))))) (gNm 9) (Ce (Ci (B1 (Cn 18) (BW (BX 9) B0)) (gNm 10)) (Ce (sIf (tO (tV (B2 neD (B1 DN (BW (BX 9) B0)) (BX 10))) (tNt (tV (B1 (CZ 22) (BW (B1 DM (BW (BX 10) B0)) (BW (BX 9) B0)))))) (sRt (eC (.bl false))) (sNx)) (sIf (tNt (tV (B1 (CZ 22) (BW (B1 DM (BW (B1 DN (BW (BX 9) B0)) B0)) (BW (BX 9) B0))))) (sRt (eC (.bl false))) (sNx))))))))))) (sRt (eC (.bl true)))
def Kl:Fn:=fnB 11 RL
noncomputable def top (i:Nat):Stmt:=PySem.Challenge.pw_lookback_k75_looks_shown_and_read.main.body.getD i (.Pass ⟨0,0,0,0⟩)
abbrev FY:Stmt:=top 3
abbrev DU:Stmt:=top 8
abbrev FF:Stmt:=top 7
abbrev DK:Stmt:=top 21
abbrev Fp:Stmt:=top 20
abbrev Ho:Stmt:=top 19
abbrev DS:Stmt:=top 18
abbrev FO:Stmt:=top 17
abbrev Gw:Stmt:=top 23
abbrev Gk:Stmt:=top 24
abbrev Gv:Stmt:=top 25
abbrev Fd:Stmt:=top 26
abbrev EJ:Stmt:=top 27
abbrev Eo:Stmt:=top 28
abbrev Dq:Stmt:=top 29
abbrev GF:Stmt:=top 30
abbrev Fc:Stmt:=top 31
abbrev ER:Stmt:=top 32
abbrev E9:Stmt:=top 33
abbrev Et:Stmt:=top 34
abbrev FA:Stmt:=top 35
abbrev EN:Stmt:=top 36
abbrev HV:Stmt:=top 37
structure Tx (K:PySem.W.Frag) (mg:Str->Option Value) (w:World):Prop where
 b_all:mg "all"=none
 b_bool:mg "bool"=none
 b_dict:mg "dict"=none
 b_int:mg "int"=none
 b_isinstance:mg "isinstance"=none
 b_len:mg "len"=none
 b_list:mg "list"=none
 b_max:mg "max"=none
 b_min:mg "min"=none
 b_range:mg "range"=none
 b_sorted:mg "sorted"=none
 b_str:mg "str"=none
 b_tuple:mg "tuple"=none
 b_zip:mg "zip"=none
 g_DEEPEST_TEXT:∃ t,mg "DEEPEST_TEXT"=some (.int 16 t)
 g_FIGURES:∃ t,mg "FIGURES"=some (.str "0123456789" t)
 g_LONGEST:∃ t,mg "LONGEST"=some (.int 8 t)
 g_MOST_TESTS:∃ t,mg "MOST_TESTS"=some (.int 4 t)
 g_PAIRED:WM K mg "PAIRED" ["join","union","gap"]
 g_SIGNS:∃ t,mg "SIGNS"=some (.str "abcdefghijklmnopqrstuvwxyz0123456789" t)
 g_TESTS:WM K mg "TESTS" ["is","not","like","unlike"]
 g_WIDTHS:Xk K w mg "WIDTHS" ["rows","columns","called"] [3,1,2]
def BO (P:Program)(w:World)(K:PySem.W.Frag)(mg:Str->Option Value)(base:Heap)(r:Nat)(x:Str)(st:Stmt)(f:Addr)(N:List Str)(m:Sx):Prop:=∀ (cdv:Value) (A:Around) (outer:List Env) (s:Shared) (H:Hp) (E:XK),Room r (A.deeper (envOfC x (B7 st) s.heap.objs.size f cdv))->SVB (Ka CX0 P w K mg base N x (B7 st) f cdv A outer s H E).nox (Er st) m
section
variable {P:Program} {w:World} {K:PySem.W.Frag} {mg:Str->Option Value} {base:Heap}
theorem NY:CG ["thing"] ["thing"] (B7 FY):=by rfl'
theorem Na {f:Addr}{fd:FuncData}(F:Fun K "is_word" "is_word" FY f fd)(T:Tx K mg w) :D4 P w K mg base CX0 1 f fd ["thing"] (spF ⟨K,P,w⟩ EV 1):=by
 have b:BO P w K mg base 0 "is_word" FY f ["thing"] Hk:=λcdv A outer s H E hr=>by
  exact B3 (CJ (SVW.t (FQ (FG (E6 (GW "str" (BY 0) T.b_isinstance T.b_str boot_str))) (Fj (FG (Qp NV NV B4 (Cw CN T.b_len boot_len (BV (BY 0) BZ)) (LD T.g_LONGEST)))))) (B9 (Cm KQ)) CB) (B9 (Cm (Cw (Ga rfl) T.b_all boot_all (BV (DO ["sign"] [] (by exact FP (B7 FY) rfl rfl ⟨rfl,by symm,by symm,by symm⟩ True.intro) (Di (BY 0)) Cz (λ_ _ _ _ _=>Cb 0 (show (["sign"]:List Str).Nodup by symm)) (λ_ _ _ _ _=>Dp) (λ_ _ _ _ _=>IG (HH hr.units) (BY 0) (OK T.g_SIGNS))) BZ))))
 have c:=DD 1 1 F NY rfl rfl b
 exact c
theorem Eh:CG ["look","word","part","cells"] ["look"] (B7 DU):=by rfl'
theorem Gb {f:Addr}{fd:FuncData}(F:Fun K "words_of_look" "words_of_look" DU f fd)(hm:mg "words_of_look"=some (.ref f))(hb:Binds K fd ["look"] [])(T:Tx K mg w) :∀ n,D4 P w K mg base CX0 (n+1) f fd ["look"] (spF ⟨K,P,w⟩ (Cv n) 1)
 | 0=>⟨λvs H Q E h=>by obtain ⟨th,mu,ds,_,r,hl,_⟩:=h;rw [r.len];exact hl,λA outer s H args us vs Q E hr he hb hv h=>by obtain ⟨th,mu,ds,_,r,hl,t⟩:=h;exact t.no.elim⟩
 | n+1=>by
  have DT:Cal P w K mg base (n+1) "words_of_look" (Cv n) 1:=CW F hm (Gb F hm hb T  n) hb
  have b:BO P w K mg base (n+1) "words_of_look" DU f ["look","word","part","cells"] (Dc (Cv n)):=λcdv A outer s H E hr=>by
   have hr_words_of_look:Room (n+1) _:=hr
   exact B3 (Ca 1 Eh.nd (CI (Dt hr.units) (BY 0) B4)) (B3 (CJ (Co (C0 hr.units) (BY 1) Cj) (B9 (Cm (Ct Hs T.b_list boot_list (BV (BY 0) BZ)))) CB) (B3 (CJ (Co (HH hr.units) (BY 1) (LO T.g_PAIRED)) (B9 (Cm (Cc Cp (Cc Cp (D1 (BV (BY 1) BZ)) (B8 DT hr_words_of_look (BV (CI (Dt hr.units) (BY 0) B4) BZ))) (B8 DT hr_words_of_look (BV (CI (Dt hr.units) (BY 0) B4) BZ))))) CB) (B3 (Ca 2 Eh.nd (CI (Dt hr.units) (BY 0) B4)) (B3 (Ca 3 Eh.nd (En (Co (C0 hr.units) (BY 1) Cj) (Ct Hs T.b_list boot_list (BV (BY 2) BZ)) (Z0 ["each","cell"] [] (XX  ["each","cell"] 1 (by decide) [] (by exact FP (B7 DU) rfl rfl ⟨rfl,by symm,by symm,by symm⟩ True.intro) (Di (BY 2)) MB MB (λ_ _ _ _ _=>by exact Cb 0 (show (["each","cell"]:List Str).Nodup by symm)) (λ_ _ _ _ _=>by exact Dp) (λ_ _ _ _ _=>by exact Di (BY 0)) (λ_ _ _ _ _=>by exact Cb 1 (show (["each","cell"]:List Str).Nodup by symm)) (λ_ _ _ _ _=>by exact Dp) (λ_ _ _ _ _=>by exact BY 1)) rfl))) (B9 (Cm (Cc Cp (Cc Cp (D1 (BV (BY 1) (BV (Ct FX T.b_str boot_str (BV (Cw CN T.b_len boot_len (BV (BY 2) BZ)) BZ)) BZ))) (BY 3)) (B8 DT hr_words_of_look (BV (CI (Dt hr.units) (BY 0) B4) BZ)))))))))
  have c:=DD 4 1 F Eh rfl rfl b
  exact c
theorem K8:CG ["look"] ["look"] (B7 FF):=by rfl'
theorem Ln {f:Addr}{fd:FuncData}(F:Fun K "show_look" "show_look" FF f fd)(T:Tx K mg w)(DT:Cal P w K mg base 19 "words_of_look" (Cv 18) 1):D4 P w K mg base CX0 20 f fd ["look"] (spF ⟨K,P,w⟩ DN 1):=by
 have b:BO P w K mg base 19 "show_look" FF f ["look"] Hi:=λcdv A outer s H E hr=>by
  have hr_words_of_look:Room 19 _:=hr.mono (by decide)
  exact B9 (Cm (Lw Cj (BV (B8 DT hr_words_of_look (BV (BY 0) BZ)) BZ)))
 have c:=DD 1 1 F K8 rfl rfl b
 exact c
theorem Ia:CG ["text"] ["text"] (B7 DK):=by rfl'
theorem HL {f:Addr}{fd:FuncData}(F:Fun K "number_of_text" "number_of_text" DK f fd)(T:Tx K mg w) :D4 P w K mg base CX0 1 f fd ["text"] (spF ⟨K,P,w⟩ Dr 1):=by
 have b:BO P w K mg base 0 "number_of_text" DK f ["text"] ET:=λcdv A outer s H E hr=>by
  exact B3 (CJ (SVW.t (FQ (Co K9 (Cw CN T.b_len boot_len (BV (BY 0) BZ)) B4) (FQ (Co (C0 hr.units) (CI (Dt hr.units) (BY 0) B4) Cj) (Fj (FG (E6 (Cw (Ga rfl) T.b_all boot_all (BV (DO ["sign"] [] (by exact FP (B7 DK) rfl rfl ⟨rfl,by symm,by symm,by symm⟩ True.intro) (Di (BY 0)) Cz (λ_ _ _ _ _=>Cb 0 (show (["sign"]:List Str).Nodup by symm)) (λ_ _ _ _ _=>Dp) (λ_ _ _ _ _=>IG (HH hr.units) (BY 0) (OK T.g_FIGURES))) BZ)))))))) (B9 (Cm B4)) CB) (B9 (Cm (Ct PZ T.b_int boot_int (BV (BY 0) BZ))))
 have c:=DD 1 1 F Ia rfl rfl b
 exact c
theorem EA:CG ["words","at","word","many","width","behind","cells","part"] ["words","at"] (B7 Fp):=by rfl'
theorem Nl {f:Addr}{fd:FuncData}(F:Fun K "part_at" "part_at" Fp f fd)(T:Tx K mg w)(Im:Cal P w K mg base 1 "number_of_text" Dr 1):D4 P w K mg base CX0 2 f fd ["words","at"] (spF ⟨K,P,w⟩ DH 2):=by
 have b:BO P w K mg base 1 "part_at" Fp f ["words","at","word","many","width","behind","cells","part"] Ip:=λcdv A outer s H E hr=>by
  have hr_number_of_text:Room 1 _:=hr.mono (by decide)
  exact B3 (Ca 2 EA.nd (CI (Dt hr.units) (BY 0) (BY 1))) (B3 (Ca 3 EA.nd (B8 Im hr_number_of_text (BV (CI (Dt hr.units) (BY 0) (Cc Cp (BY 1) B4)) BZ))) (B3 (CJ (SVW.t (FQ (Qo hr.units T.g_WIDTHS (BY 2)) (Fj (Co (C0 hr.units) (BY 3) B4)))) (B9 (Cm (Cu (BV Dw (BV Dw BZ))))) CB) (B3 (Ca 4 EA.nd (Vc hr.units T.g_WIDTHS (BY 2))) (B3 (Ca 5 EA.nd (Cc Cp (Cc Cp (BY 1) B4) (Cc EK (BY 3) (BY 4)))) (B3 (Ca 6 EA.nd (Ct CU T.b_tuple Bw (BV (Ff (BY 0) (Ep (Cc Cp (BY 1) B4)) (Ep (BY 5))) BZ))) (B3 (CJ (Co (C0 hr.units) (BY 2) Cj) (B9 (Cm (Cu (BV (BY 6) (BV (BY 5) BZ))))) CB) (B3 (Ca 7 EA.nd (Ct CU T.b_tuple Bw (BV (DO ["start"] [(6,"cells"),(4,"width")] (by exact FP (B7 Fp) rfl rfl ⟨rfl,by symm,by symm,by symm⟩ ⟨⟨rfl,.inl rfl,.inl rfl⟩,⟨rfl,.inl rfl,.inl rfl⟩,True.intro⟩) (Ng T.b_range (BV B4 (BV (Cw CN T.b_len boot_len (BV (BY 6) BZ)) (BV (BY 4) BZ)))) Cz (λ_ _ _ _ _=>Cb 0 (show (["start","cells","width"]:List Str).Nodup by symm)) (λ_ _ _ _ _=>Dp) (λ_ _ _ _ _=>Ff (BY 1) (Ep (BY 0)) (Ep (Cc Cp (BY 0) (BY 2))))) BZ))) (B3 (CJ (SVW.t (Pa (Co (C0 hr.units) (BY 2) Cj) (Mm (SVW.t (FQ (Co K9 (BY 3) (LD T.g_MOST_TESTS)) (Fj (FG (E6 (Cw (Ga rfl) T.b_all boot_all (BV (DO ["test"] [] (by exact FP (B7 Fp) rfl rfl ⟨rfl,by symm,by symm,by symm⟩ True.intro) (Di (BY 7)) Cz (λ_ _ _ _ _=>Cb 0 (show (["test"]:List Str).Nodup by symm)) (λ_ _ _ _ _=>Dp) (λ_ _ _ _ _=>IG (HH hr.units) (CI (Dt hr.units) (BY 0) B4) (LO T.g_TESTS))) BZ)))))))))) (B9 (Cm (Cu (BV Dw (BV Dw BZ))))) CB) (B9 (Cm (Cu (BV (BY 7) (BV (BY 5) BZ)))))))))))))
 have c:=DD 8 2 F EA rfl rfl b
 exact c
theorem DA:CG ["words","at","depth","word","one","middle","other","behind","part","start"] ["words","at","depth"] (B7 Ho):=by rfl'
theorem JD {f:Addr}{fd:FuncData}(F:Fun K "look_at" "look_at" Ho f fd)(hm:mg "look_at"=some (.ref f))(hb:Binds K fd ["words","at","depth"] [])(T:Tx K mg w)(Ky:Cal P w K mg base 2 "part_at" DH 2):∀ n,D4 P w K mg base CX0 (n+3) f fd ["words","at","depth"] (spF ⟨K,P,w⟩ (CD n) 3)
 | 0=>⟨λvs H Q E h=>by obtain ⟨th,mu,ds,_,r,hl,_⟩:=h;rw [r.len];exact hl,λA outer s H args us vs Q E hr he hb hv h=>by obtain ⟨th,mu,ds,_,r,hl,t⟩:=h;exact t.no.elim⟩
 | n+1=>by
  have Gj:Cal P w K mg base (n+3) "look_at" (CD n) 3:=CW F hm (JD F hm hb T Ky n) hb
  have b:BO P w K mg base (n+3) "look_at" Ho f ["words","at","depth","word","one","middle","other","behind","part","start"] (Gm (CD n)):=λcdv A outer s H E hr=>by
   have hr_part_at:Room 2 _:=hr.mono (by ext)
   have hr_look_at:Room (n+3) _:=hr
   exact B3 (CJ (SVW.t (FQ (Co (C0 hr.units) (BY 2) B4) (Fj (Co Rk (Cc Cp (BY 1) B4) (Cw CN T.b_len boot_len (BV (BY 0) BZ)))))) (B9 (Cm (Cu (BV Dw (BV Dw BZ))))) CB) (B3 (Ca 3 DA.nd (CI (Dt hr.units) (BY 0) (BY 1))) (B3 (CJ (Co (C0 hr.units) (BY 3) Cj) (B9 (Cm (Cu (BV (Cu (BV Cj (BV (CI (Dt hr.units) (BY 0) (Cc Cp (BY 1) B4)) BZ))) (BV (Cc Cp (BY 1) B4) BZ))))) CB) (B3 (CJ (Co (HH hr.units) (BY 3) (LO T.g_PAIRED)) (B3 (E8 (B8 Gj hr_look_at (BV (BY 0) (BV (Cc Cp (BY 1) B4) (BV (Cc GH (BY 2) B4) BZ)))) (Ed rfl (Cs (Cb 4 DA.nd) (Cs (Cb 5 DA.nd) DI)))) (B3 (E8 (En (Co JI (BY 4) Dw) (Cu (BV Dw (BV Dw BZ))) (B8 Gj hr_look_at (BV (BY 0) (BV (BY 5) (BV (Cc GH (BY 2) B4) BZ))))) (Ed rfl (Cs (Cb 6 DA.nd) (Cs (Cb 7 DA.nd) DI)))) (B9 (Cm (En (Co JI (BY 6) Dw) (Cu (BV Dw (BV Dw BZ))) (Cu (BV (Cu (BV (BY 3) (BV (BY 4) (BV (BY 6) BZ)))) (BV (BY 7) BZ)))))))) CB) (B3 (E8 (B8 Ky hr_part_at (BV (BY 0) (BV (BY 1) BZ))) (Ed rfl (Cs (Cb 8 DA.nd) (Cs (Cb 9 DA.nd) DI)))) (B3 (E8 (En (Co JI (BY 8) Dw) (Cu (BV Dw (BV Dw BZ))) (B8 Gj hr_look_at (BV (BY 0) (BV (BY 9) (BV (Cc GH (BY 2) B4) BZ))))) (Ed rfl (Cs (Cb 4 DA.nd) (Cs (Cb 7 DA.nd) DI)))) (B9 (Cm (En (Co JI (BY 4) Dw) (Cu (BV Dw (BV Dw BZ))) (Cu (BV (Cu (BV (BY 3) (BV (BY 4) (BV (BY 8) BZ)))) (BV (BY 7) BZ)))))))))))
  have c:=DD 10 3 F DA rfl rfl b
  exact c
theorem EU:CG ["words","look","behind"] ["words"] (B7 DS):=by rfl'
theorem IA {f:Addr}{fd:FuncData}(F:Fun K "look_of_words" "look_of_words" DS f fd)(T:Tx K mg w)(QA:Cal P w K mg base 1 "is_word" EV 1)(Gj:Cal P w K mg base 21 "look_at" (CD 18) 3):D4 P w K mg base CX0 22 f fd ["words"] (spF ⟨K,P,w⟩ Dx 1):=by
 have b:BO P w K mg base 21 "look_of_words" DS f ["words","look","behind"] Fg:=λcdv A outer s H E hr=>by
  have hr_is_word:Room 1 _:=hr.mono (by decide)
  have hr_look_at:Room 21 _:=hr.mono (by decide)
  exact B3 (CJ (FG (E6 (Cw (Ga rfl) T.b_all boot_all (BV (DO ["word"] [] (by exact FP (B7 DS) rfl rfl ⟨rfl,by symm,by symm,by symm⟩ True.intro) (Di (BY 0)) Cz (λ_ _ _ _ _=>Cb 0 (show (["word"]:List Str).Nodup by symm)) (λ_ _ _ _ _=>Dp) (λ_ _ _ _ _=>B8 QA hr_is_word (BV (BY 0) BZ))) BZ)))) (B9 (Cm Dw)) CB) (B3 (E8 (B8 Gj hr_look_at (BV (BY 0) (BV B4 (BV (LD T.g_DEEPEST_TEXT) BZ)))) (Ed rfl (Cs (Cb 1 EU.nd) (Cs (Cb 2 EU.nd) DI)))) (B9 (Cm (En (Co (C0 hr.units) (BY 2) (Cw CN T.b_len boot_len (BV (BY 0) BZ))) (BY 1) Dw))))
 have c:=DD 3 1 F EU rfl rfl b
 exact c
theorem HX:CG ["text","look"] ["text"] (B7 FO):=by rfl'
theorem Le {f:Addr}{fd:FuncData}(F:Fun K "read_look" "read_look" FO f fd)(T:Tx K mg w)(Ja:Cal P w K mg base 22 "look_of_words" Dx 1):D4 P w K mg base CX0 23 f fd ["text"] (spF ⟨K,P,w⟩ DM 1):=by
 have b:BO P w K mg base 22 "read_look" FO f ["text","look"] Hg:=λcdv A outer s H E hr=>by
  have hr_look_of_words:Room 22 _:=hr.mono (by decide)
  exact B3 (Ca 1 HX.nd (En (E6 (GW "str" (BY 0) T.b_isinstance T.b_str boot_str)) (B8 Ja hr_look_of_words (BV (Rf (BY 0) (BV Cj BZ)) BZ)) Dw)) (B3 (CJ (Co JI (BY 1) Dw) (B9 Rg) CB) (B9 (Cm (BY 1))))
 have c:=DD 2 1 F HX rfl rfl b
 exact c
theorem G0:CG ["_law_script","_law_k","_law_cell"] ["_law_script","_law_k"] (B7 Gw):=by rfl'
theorem MQ {f:Addr}{fd:FuncData}(F:Fun K "_law_hand" "_law_hand" Gw f fd)(T:Tx K mg w) :D4 P w K mg base CX0 1 f fd ["_law_script","_law_k"] (spF ⟨K,P,w⟩ Eu 2):=by
 have b:BO P w K mg base 0 "_law_hand" Gw f ["_law_script","_law_k","_law_cell"] GC:=λcdv A outer s H E hr=>by
  exact B3 (Ca 2 G0.nd B4) (B3 (CJ (Co (QF hr.units) (BY 1) (Cw CN T.b_len boot_len (BV (BY 0) BZ))) (B9 (Ca 2 G0.nd (CI (Dt hr.units) (BY 0) (BY 1)))) CB) (B9 (Cm (Jq (BV (Cc EK (BY 2) (Ct Pw T.b_int boot_int (BV (IG Rk (BY 2) (Cc Ti B4 B4)) BZ))) (BV (Cc Cp (Cc Cp (Cc Es (BY 2) B4) (Cc EK B4 (BY 1))) B4) (BV B4 BZ)))))))
 have c:=DD 3 2 F G0 rfl rfl b
 exact c
theorem ED:CG ["_law_hand_here","_law_many","_law_digit","_law_turn","_law_mixed","_law_odd"] ["_law_hand_here","_law_many"] (B7 Gk):=by rfl'
theorem MX {f:Addr}{fd:FuncData}(F:Fun K "_law_take" "_law_take" Gk f fd)(T:Tx K mg w) :D4 P w K mg base CX0 1 f fd ["_law_hand_here","_law_many"] (spF ⟨K,P,w⟩ B6 2):=by
 have b:BO P w K mg base 0 "_law_take" Gk f ["_law_hand_here","_law_many","_law_digit","_law_turn","_law_mixed","_law_odd"] GJ:=λcdv A outer s H E hr=>by
  exact B3 (CJ (Co K9 (CI (Dt hr.units) (BY 0) B4) B4) (B3 (Ca 2 ED.nd (Cc Es (CI (Dt hr.units) (BY 0) B4) (BY 1))) (B3 (E8 (Cc JT (CI (Dt hr.units) (BY 0) B4) (BY 1)) (Nu hr.units (BY 0) B4)) (B9 (Cm (BY 2))))) CB) (B3 (E8 (Cc Cp (CI (Dt hr.units) (BY 0) B4) B4) (Nu hr.units (BY 0) B4)) (B3 (Ca 3 ED.nd (CI (Dt hr.units) (BY 0) B4)) (B3 (Ca 4 ED.nd (Cc Es (Cc EK (CI (Dt hr.units) (BY 0) B4) (Cc Cp (Cc Cp B4 (Cc EK (Cc EK B4 (BY 3)) (BY 3))) (Cc EK B4 (BY 3)))) B4)) (B3 (Ca 5 ED.nd (Cc Cp (Cc Cp (Cc Es (BY 4) B4) (Cc EK (BY 3) B4)) B4)) (B3 (Ca 4 ED.nd (Cc Es (Cc EK (BY 4) (BY 5)) B4)) (B9 (Cm (Cc Es (Cc Cp (Cc JT (BY 4) B4) (Cc JT (BY 4) B4)) (BY 1)))))))))
 have c:=DD 6 2 F ED rfl rfl b
 exact c
theorem M3:CG ["_law_hand_here","_law_some"] ["_law_hand_here","_law_some"] (B7 Gv):=by rfl'
theorem Mh {f:Addr}{fd:FuncData}(F:Fun K "_law_pick" "_law_pick" Gv f fd)(T:Tx K mg w)(Cr:Cal P w K mg base 1 "_law_take" B6 2):D4 P w K mg base CX0 2 f fd ["_law_hand_here","_law_some"] (spF ⟨K,P,w⟩ Cg 2):=by
 have b:BO P w K mg base 1 "_law_pick" Gv f ["_law_hand_here","_law_some"] GD:=λcdv A outer s H E hr=>by
  have hr_law_take:Room 1 _:=hr.mono (by decide)
  exact B9 (Cm (CI (Dt hr.units) (BY 1) (B8 Cr hr_law_take (BV (BY 0) (BV (Cw CN T.b_len boot_len (BV (BY 1) BZ)) BZ)))))
 have c:=DD 2 2 F M3 rfl rfl b
 exact c
theorem Ef:CG ["_law_hand_here","_law_many","_law_most","_law_signs","_law_first","_law_step","_law_stem","_law_at"] ["_law_hand_here","_law_many","_law_most"] (B7 Fd):=by rfl'
theorem Li {f:Addr}{fd:FuncData}(F:Fun K "_law_words" "_law_words" Fd f fd)(T:Tx K mg w)(Cr:Cal P w K mg base 1 "_law_take" B6 2)(Cy:Cal P w K mg base 2 "_law_pick" Cg 2):D4 P w K mg base CX0 3 f fd ["_law_hand_here","_law_many","_law_most"] (spF ⟨K,P,w⟩ D7 3):=by
 have b:BO P w K mg base 2 "_law_words" Fd f ["_law_hand_here","_law_many","_law_most","_law_signs","_law_first","_law_step","_law_stem","_law_at"] G8:=λcdv A outer s H E hr=>by
  have hr_law_take:Room 1 _:=hr.mono (by decide)
  have hr_law_pick:Room 2 _:=hr.mono (by decide)
  exact B3 (Ca 3 Ef.nd Cj) (B3 (E8 (Cu (BV (B8 Cr hr_law_take (BV (BY 0) (BV B4 BZ))) (BV (B8 Cy hr_law_pick (BV (BY 0) (BV (D1 (BV B4 (BV B4 (BV B4 (BV B4 (BV B4 (BV B4 BZ))))))) BZ))) BZ))) (Ed rfl (Cs (Cb 4 Ef.nd) (Cs (Cb 5 Ef.nd) DI)))) (B3 (Ca 6 Ef.nd (Cc EK (CI (Dt hr.units) (BY 3) (B8 Cr hr_law_take (BV (BY 0) (BV B4 BZ)))) (Cw (KS rfl) T.b_min boot_min (BV (Cc GH (BY 2) B4) (BV (B8 Cy hr_law_pick (BV (BY 0) (BV (D1 (BV B4 (BV B4 (BV B4 (BV B4 (BV B4 BZ)))))) BZ))) BZ))))) (B3 (Ca 7 Ef.nd (B8 Cr hr_law_take (BV (BY 0) (BV (Cc Cp (Cw CN T.b_len boot_len (BV (BY 6) BZ)) B4) BZ)))) (B9 (Cm (DO ["_law_k"] [(6,"_law_stem"),(7,"_law_at"),(3,"_law_signs"),(4,"_law_first"),(5,"_law_step")] (by exact FP (B7 Fd) rfl rfl ⟨rfl,by symm,by symm,by symm⟩ ⟨⟨rfl,.inl rfl,.inl rfl⟩,⟨rfl,.inl rfl,.inl rfl⟩,⟨rfl,.inl rfl,.inl rfl⟩,⟨rfl,.inl rfl,.inl rfl⟩,⟨rfl,.inl rfl,.inl rfl⟩,True.intro⟩) (DX T.b_range (BV (BY 1) BZ)) Cz (λ_ _ _ _ _=>Cb 0 (show (["_law_k","_law_stem","_law_at","_law_signs","_law_first","_law_step"]:List Str).Nodup by symm)) (λ_ _ _ _ _=>Dp) (λ_ _ _ _ _=>Cc Cp (Cc Cp (Ff (BY 1) F0 (Ep (BY 2))) (CI (Dt hr.units) (BY 3) (Cc Es (Cc Cp (BY 4) (Cc EK (BY 5) (BY 0))) B4))) (Ff (BY 1) (Ep (BY 2)) F0))))))))
 have c:=DD 8 3 F Ef rfl rfl b
 exact c
theorem CF:CG ["_law_hand_here","_law_tables","_law_columns_here","_law_values","_law_names","_law_words_here","_law_stock_here","_law_found","_law_name","_law_many","_law_shift","_law_row","_law_k","_law_some","_law_turn","_law_told_so"] ["_law_hand_here","_law_tables","_law_columns_here","_law_values"] (B7 EJ):=by rfl'
theorem Kg {f:Addr}{fd:FuncData}(F:Fun K "_law_schema" "_law_schema" EJ f fd)(T:Tx K mg w)(Ha:Cal P w K mg base 3 "_law_words" D7 3)(Cr:Cal P w K mg base 1 "_law_take" B6 2):D4 P w K mg base CX0 4 f fd ["_law_hand_here","_law_tables","_law_columns_here","_law_values"] (spF ⟨K,P,w⟩ Ee 4):=by
 have b:BO P w K mg base 3 "_law_schema" EJ f ["_law_hand_here","_law_tables","_law_columns_here","_law_values","_law_names","_law_words_here","_law_stock_here","_law_found","_law_name","_law_many","_law_shift","_law_row","_law_k","_law_some","_law_turn","_law_told_so"] Gq:=λcdv A outer s H E hr=>by
  have hr_law_words:Room 3 _:=hr.mono (by decide)
  have hr_law_take:Room 1 _:=hr.mono (by decide)
  exact B3 (Ca 4 CF.nd (Cw (KH hr.units rfl) T.b_sorted boot_sorted (BV (B8 Ha hr_law_words (BV (BY 0) (BV (Cc Cp B4 (B8 Cr hr_law_take (BV (BY 0) (BV (BY 1) BZ)))) (BV B4 BZ)))) BZ))) (B3 (Ca 5 CF.nd (B8 Ha hr_law_words (BV (BY 0) (BV (Cc Cp (BY 2) B4) (BV B4 BZ))))) (B3 (Ca 6 CF.nd (B8 Ha hr_law_words (BV (BY 0) (BV (Cc Cp (BY 3) B4) (BV B4 BZ))))) (B3 (Ca 7 CF.nd (Jq BZ)) (B3 (Fb By rfl (Di (BY 4)) (Cb 8 CF.nd) (B3 (Ca 9 CF.nd (Cc Cp B4 (B8 Cr hr_law_take (BV (BY 0) (BV (BY 2) BZ))))) (B3 (Ca 10 CF.nd (B8 Cr hr_law_take (BV (BY 0) (BV B4 BZ)))) (B3 (Ca 11 CF.nd (Jq BZ)) (B3 (Fb By rfl (DX T.b_range (BV (BY 9) BZ)) (Cb 12 CF.nd) (B3 (Ca 13 CF.nd (Cc Cp B4 (B8 Cr hr_law_take (BV (BY 0) (BV (BY 3) BZ))))) (B3 (Ca 14 CF.nd (B8 Cr hr_law_take (BV (BY 0) (BV B4 BZ)))) (B3 (Ca 15 CF.nd (Ct CU T.b_tuple Bw (BV (DO ["_law_j"] [(6,"_law_stock_here"),(14,"_law_turn")] (by exact FP (B7 EJ) rfl rfl ⟨rfl,by symm,by symm,by symm⟩ ⟨⟨rfl,.inl rfl,.inl rfl⟩,⟨rfl,.inl rfl,.inl rfl⟩,True.intro⟩) (DX T.b_range (BV (BY 13) BZ)) Cz (λ_ _ _ _ _=>Cb 0 (show (["_law_j","_law_stock_here","_law_turn"]:List Str).Nodup by symm)) (λ_ _ _ _ _=>Dp) (λ_ _ _ _ _=>CI (Dt hr.units) (BY 1) (Cc Es (Cc Cp (BY 0) (BY 2)) (Cw CN T.b_len boot_len (BV (BY 1) BZ))))) BZ))) (B9 (Ib (Iv (BY 11) (BV (Cu (BV (CI (Dt hr.units) (BY 5) (Cc Es (Cc Cp (BY 12) (BY 10)) (Cw CN T.b_len boot_len (BV (BY 5) BZ)))) (BV (BY 15) BZ))) BZ)))))))) (B9 (Ib (Iv (BY 7) (BV (Cu (BV (BY 8) (BV (Ct CU T.b_tuple Bw (BV (BY 11) BZ)) (BV (Cc Cp B4 (B8 Cr hr_law_take (BV (BY 0) (BV (BY 9) BZ)))) BZ)))) BZ))))))))) (B9 (Cm (Ct CU T.b_tuple Bw (BV (BY 7) BZ))))))))
 have c:=N0 16 4 F CF rfl rfl b
 exact c
theorem Df:CG ["_law_hand_here","_law_schema_here","_law_most","_law_found","_law_name","_law_columns_here","_law_keys","_law_rows","_law_k","_law_row"] ["_law_hand_here","_law_schema_here","_law_most"] (B7 Eo):=by rfl'
theorem Jw {f:Addr}{fd:FuncData}(F:Fun K "_law_filling" "_law_filling" Eo f fd)(T:Tx K mg w)(Cr:Cal P w K mg base 1 "_law_take" B6 2)(Cy:Cal P w K mg base 2 "_law_pick" Cg 2):D4 P w K mg base CX0 3 f fd ["_law_hand_here","_law_schema_here","_law_most"] (spF ⟨K,P,w⟩ DZ 3):=by
 have b:BO P w K mg base 2 "_law_filling" Eo f ["_law_hand_here","_law_schema_here","_law_most","_law_found","_law_name","_law_columns_here","_law_keys","_law_rows","_law_k","_law_row"] FT:=λcdv A outer s H E hr=>by
  have hr_law_take:Room 1 _:=hr.mono (by decide)
  have hr_law_pick:Room 2 _:=hr.mono (by decide)
  exact B3 (Ca 3 Df.nd (Jq BZ)) (B3 (Fb By rfl (Di (BY 1)) (Ed rfl (Cs (Cb 4 Df.nd) (Cs (Cb 5 Df.nd) (Cs (Cb 6 Df.nd) DI)))) (B3 (Ca 7 Df.nd OT) (B3 (Fb By rfl (DX T.b_range (BV (B8 Cr hr_law_take (BV (BY 0) (BV (Cc Cp (BY 2) B4) BZ))) BZ)) (Cb 8 Df.nd) (B3 (Ca 9 Df.nd (Ct CU T.b_tuple Bw (BV (DO ["_law_column","_law_values"] [(0,"_law_hand_here")] (by exact FP (B7 Eo) rfl rfl ⟨rfl,by symm,by symm,by symm⟩ ⟨⟨rfl,.inl rfl,.inl rfl⟩,True.intro⟩) (Di (BY 5)) (JL (EX Cz (EX Cz Ik))) (λ_ _ _ _ _=>Ed rfl (Cs (Cb 0 (show (["_law_column","_law_values","_law_hand_here"]:List Str).Nodup by symm)) (Cs (Cb 1 (show (["_law_column","_law_values","_law_hand_here"]:List Str).Nodup by symm)) DI))) (λ_ _ _ _ _=>Dp) (λ_ _ _ _ _=>B8 Cy hr_law_pick (BV (BY 2) (BV (BY 1) BZ)))) BZ))) (B9 (E8 (BY 9) (Nu hr.units (BY 7) (Ff (BY 9) F0 (Ep (BY 6)))))))) (B9 (Ib (Iv (BY 3) (BV (Ct CU T.b_tuple Bw (BV (Tt hr.units rfl T.b_sorted (BY 7)) BZ)) BZ))))))) (B9 (Cm (Ct CU T.b_tuple Bw (BV (BY 3) BZ)))))
 have c:=N0 10 3 F Df rfl rfl b
 exact c
theorem EF:CG ["_law_schema_here","_law_look_here","_law_heads","_law_one","_law_words_here"] ["_law_schema_here","_law_look_here"] (B7 Dq):=by rfl'
theorem GX {f:Addr}{fd:FuncData}(F:Fun K "_law_columns" "_law_columns" Dq f fd)(hm:mg "_law_columns"=some (.ref f))(hb:Binds K fd ["_law_schema_here","_law_look_here"] [])(T:Tx K mg w) :∀ n,D4 P w K mg base CX0 (n+1) f fd ["_law_schema_here","_law_look_here"] (spF ⟨K,P,w⟩ (Cd n) 2)
 | 0=>⟨λvs H Q E h=>by obtain ⟨th,mu,ds,_,r,hl,_⟩:=h;rw [r.len];exact hl,λA outer s H args us vs Q E hr he hb hv h=>by obtain ⟨th,mu,ds,_,r,hl,t⟩:=h;exact t.no.elim⟩
 | n+1=>by
  have Dz:Cal P w K mg base (n+1) "_law_columns" (Cd n) 2:=CW F hm (GX F hm hb T  n) hb
  have b:BO P w K mg base (n+1) "_law_columns" Dq f ["_law_schema_here","_law_look_here","_law_heads","_law_one","_law_words_here"] (Dv (Cd n)):=λcdv A outer s H E hr=>by
   have hr_law_columns:Room (n+1) _:=hr
   exact B3 (CJ (Co (C0 hr.units) (CI (Dt hr.units) (BY 1) B4) Cj) (B3 (Ca 2 EF.nd (CI (Dt hr.units) (DO ["_law_table"] [(1,"_law_look_here")] (by exact FP (B7 Dq) rfl rfl ⟨rfl,by symm,by symm,by symm⟩ ⟨⟨rfl,.inl rfl,.inl rfl⟩,True.intro⟩) (Di (BY 0)) Cz (λ_ _ _ _ _=>Cb 0 (show (["_law_table","_law_look_here"]:List Str).Nodup by symm)) (λ_ _ _ _ _=>La (Co (C0 hr.units) (CI (Dt hr.units) (BY 0) B4) (CI (Dt hr.units) (BY 1) B4))) (λ_ _ _ _ _=>CI (Dt hr.units) (BY 0) B4)) B4)) (B9 (Cm (Ct CU T.b_tuple Bw (BV (DO ["_law_column","_law_values"] [] (by exact FP (B7 Dq) rfl rfl ⟨rfl,by symm,by symm,by symm⟩ True.intro) (Di (BY 2)) (JL (EX Cz (EX Cz Ik))) (λ_ _ _ _ _=>Ed rfl (Cs (Cb 0 (show (["_law_column","_law_values"]:List Str).Nodup by symm)) (Cs (Cb 1 (show (["_law_column","_law_values"]:List Str).Nodup by symm)) DI))) (λ_ _ _ _ _=>Dp) (λ_ _ _ _ _=>BY 0)) BZ))))) CB) (B3 (Ca 3 EF.nd (B8 Dz hr_law_columns (BV (BY 0) (BV (CI (Dt hr.units) (BY 1) B4) BZ)))) (B3 (CJ (Co (C0 hr.units) (CI (Dt hr.units) (BY 1) B4) Cj) (B9 (Cm (CI (Dt hr.units) (BY 1) B4))) CB) (B3 (CJ (Co (C0 hr.units) (CI (Dt hr.units) (BY 1) B4) Cj) (B3 (Ca 4 EF.nd (Ct (PQ hr.units rfl) T.b_dict (by symm) (BV (Ct Hs T.b_list boot_list (BV (CI (Dt hr.units) (BY 1) B4) BZ)) BZ))) (B9 (Cm (Ct CU T.b_tuple Bw (BV (DO ["_law_column"] [(4,"_law_words_here")] (by exact FP (B7 Dq) rfl rfl ⟨rfl,by symm,by symm,by symm⟩ ⟨⟨rfl,.inl rfl,.inl rfl⟩,True.intro⟩) (Di (BY 3)) Cz (λ_ _ _ _ _=>Cb 0 (show (["_law_column","_law_words_here"]:List Str).Nodup by symm)) (λ_ _ _ _ _=>Dp) (λ_ _ _ _ _=>U3 hr.units (BY 1) (BV (BY 0) (BV (BY 0) BZ)))) BZ))))) CB) (B3 (CJ (Co (C0 hr.units) (CI (Dt hr.units) (BY 1) B4) Cj) (B9 (Cm (Cc Cp (BY 3) (Ct CU T.b_tuple Bw (BV (DO ["_law_column"] [(3,"_law_one")] (by exact FP (B7 Dq) rfl rfl ⟨rfl,by symm,by symm,by symm⟩ ⟨⟨rfl,.inl rfl,.inl rfl⟩,True.intro⟩) (Di (B8 Dz hr_law_columns (BV (BY 0) (BV (CI (Dt hr.units) (BY 1) B4) BZ)))) Cz (λ_ _ _ _ _=>Cb 0 (show (["_law_column","_law_one"]:List Str).Nodup by symm)) (λ_ _ _ _ _=>La (Co (OA hr.units) (BY 0) (BY 1))) (λ_ _ _ _ _=>BY 0)) BZ))))) CB) (B9 (Cm (BY 3)))))))
  have c:=DD 5 2 F EF rfl rfl b
  exact c
theorem G4:CG ["_law_hand_here","_law_columns_here","_law_stock_here","_law_word","_law_column"] ["_law_hand_here","_law_columns_here","_law_stock_here"] (B7 GF):=by rfl'
theorem Mk {f:Addr}{fd:FuncData}(F:Fun K "_law_test" "_law_test" GF f fd)(T:Tx K mg w)(Cy:Cal P w K mg base 2 "_law_pick" Cg 2):D4 P w K mg base CX0 3 f fd ["_law_hand_here","_law_columns_here","_law_stock_here"] (spF ⟨K,P,w⟩ Du 3):=by
 have b:BO P w K mg base 2 "_law_test" GF f ["_law_hand_here","_law_columns_here","_law_stock_here","_law_word","_law_column"] Gp:=λcdv A outer s H E hr=>by
  have hr_law_pick:Room 2 _:=hr.mono (by decide)
  exact B3 (Ca 3 G4.nd (B8 Cy hr_law_pick (BV (BY 0) (BV (D1 (BV Cj (BV Cj (BV Cj (BV Cj (BV Cj BZ)))))) BZ)))) (B3 (Ca 4 G4.nd (B8 Cy hr_law_pick (BV (BY 0) (BV (BY 1) BZ)))) (B9 (Cm (Cu (BV (BY 3) (BV (BY 4) (BV (B8 Cy hr_law_pick (BV (BY 0) (BV (En (Co (HH hr.units) (BY 3) (Cu (BV Cj (BV Cj BZ)))) (BY 2) (BY 1)) BZ))) BZ)))))))
 have c:=DD 5 3 F G4 rfl rfl b
 exact c
theorem DP:CG ["_law_schema_here","_law_found","_law_name","_law_columns_here","_law_keys","_law_column","_law_values"] ["_law_schema_here"] (B7 Fc):=by rfl'
theorem Lx {f:Addr}{fd:FuncData}(F:Fun K "_law_stock" "_law_stock" Fc f fd)(T:Tx K mg w) :D4 P w K mg base CX0 1 f fd ["_law_schema_here"] (spF ⟨K,P,w⟩ D6 1):=by
 have b:BO P w K mg base 0 "_law_stock" Fc f ["_law_schema_here","_law_found","_law_name","_law_columns_here","_law_keys","_law_column","_law_values"] G6:=λcdv A outer s H E hr=>by
  exact B3 (Ca 1 DP.nd OT) (B3 (Fb By rfl (Di (BY 0)) (Ed rfl (Cs (Cb 2 DP.nd) (Cs (Cb 3 DP.nd) (Cs (Cb 4 DP.nd) DI)))) (B9 (Fb By rfl (Di (BY 3)) (Ed rfl (Cs (Cb 5 DP.nd) (Cs (Cb 6 DP.nd) DI))) (B9 (Ib (Ur hr.units rfl (BY 1) (BV (DO ["_law_value"] [] (by exact FP (B7 Fc) rfl rfl ⟨rfl,by symm,by symm,by symm⟩ True.intro) (Di (BY 6)) Cz (λ_ _ _ _ _=>Cb 0 (show (["_law_value"]:List Str).Nodup by symm)) (λ_ _ _ _ _=>Dp) (λ_ _ _ _ _=>Cu (BV (BY 0) (BV KQ BZ)))) BZ))))))) (B9 (Cm (Cw (KH hr.units rfl) T.b_sorted boot_sorted (BV (BY 1) BZ)))))
 have c:=N0 7 1 F DP rfl rfl b
 exact c
theorem CP:CG ["_law_hand_here","_law_schema_here","_law_deep","_law_most","_law_stock_here","_law_way","_law_one","_law_columns_here","_law_at","_law_some","_law_column","_law_free","_law_other","_law_joined"] ["_law_hand_here","_law_schema_here","_law_deep","_law_most"] (B7 ER):=by rfl'
theorem IT {f:Addr}{fd:FuncData}(F:Fun K "_law_look" "_law_look" ER f fd)(hm:mg "_law_look"=some (.ref f))(hb:Binds K fd ["_law_hand_here","_law_schema_here","_law_deep","_law_most"] [])(T:Tx K mg w)(IY:Cal P w K mg base 1 "_law_stock" D6 1)(Cr:Cal P w K mg base 1 "_law_take" B6 2)(Cy:Cal P w K mg base 2 "_law_pick" Cg 2)(Dz:Cal P w K mg base 11 "_law_columns" (Cd 10) 2)(HG:Cal P w K mg base 3 "_law_test" Du 3):∀ n,D4 P w K mg base CX0 (n+12) f fd ["_law_hand_here","_law_schema_here","_law_deep","_law_most"] (spF ⟨K,P,w⟩ (Dj n) 4)
 | 0=>⟨λvs H Q E h=>by obtain ⟨th,mu,ds,_,r,hl,_⟩:=h;rw [r.len];exact hl,λA outer s H args us vs Q E hr he hb hv h=>by obtain ⟨th,mu,ds,_,r,hl,t⟩:=h;exact t.no.elim⟩
 | n+1=>by
  have GB:Cal P w K mg base (n+12) "_law_look" (Dj n) 4:=CW F hm (IT F hm hb T IY Cr Cy Dz HG n) hb
  have b:BO P w K mg base (n+12) "_law_look" ER f ["_law_hand_here","_law_schema_here","_law_deep","_law_most","_law_stock_here","_law_way","_law_one","_law_columns_here","_law_at","_law_some","_law_column","_law_free","_law_other","_law_joined"] (FJ (Dj n)):=λcdv A outer s H E hr=>by
   have hr_law_stock:Room 1 _:=hr.mono (by ext)
   have hr_law_take:Room 1 _:=hr.mono (by ext)
   have hr_law_pick:Room 2 _:=hr.mono (by ext)
   have hr_law_columns:Room 11 _:=hr.mono (by ext)
   have hr_law_test:Room 3 _:=hr.mono (by ext)
   have hr_law_look:Room (n+12) _:=hr
   exact B3 (Ca 4 CP.nd (B8 IY hr_law_stock (BV (BY 1) BZ))) (B3 (Ca 5 CP.nd (B8 Cr hr_law_take (BV (BY 0) (BV B4 BZ)))) (B3 (CJ (SVW.t (FQ (Co (QF hr.units) (BY 2) B4) (Fj (Co (C0 hr.units) (BY 5) B4)))) (B9 (Cm (Cu (BV Cj (BV (CI (Dt hr.units) (B8 Cy hr_law_pick (BV (BY 0) (BV (BY 1) BZ))) B4) BZ))))) CB) (B3 (Ca 6 CP.nd (B8 GB hr_law_look (BV (BY 0) (BV (BY 1) (BV (Cc GH (BY 2) B4) (BV (BY 3) BZ)))))) (B3 (Ca 7 CP.nd (B8 Dz hr_law_columns (BV (BY 1) (BV (BY 6) BZ)))) (B3 (CJ (SVW.t (FQ (Co (C0 hr.units) (BY 5) B4) (Fj (Co (C0 hr.units) (BY 5) B4)))) (B9 (Cm (Cu (BV Cj (BV (BY 6) (BV (Ct CU T.b_tuple Bw (BV (DO ["_law_turn"] [(0,"_law_hand_here"),(7,"_law_columns_here"),(4,"_law_stock_here")] (by exact FP (B7 ER) rfl rfl ⟨rfl,by symm,by symm,by symm⟩ ⟨⟨rfl,.inl rfl,.inl rfl⟩,⟨rfl,.inl rfl,.inl rfl⟩,⟨rfl,.inl rfl,.inl rfl⟩,True.intro⟩) (DX T.b_range (BV (Cc Cp B4 (B8 Cr hr_law_take (BV (BY 0) (BV B4 BZ)))) BZ)) Cz (λ_ _ _ _ _=>Cb 0 (show (["_law_turn","_law_hand_here","_law_columns_here","_law_stock_here"]:List Str).Nodup by symm)) (λ_ _ _ _ _=>Dp) (λ_ _ _ _ _=>B8 HG hr_law_test (BV (BY 1) (BV (BY 2) (BV (BY 3) BZ))))) BZ)) BZ)))))) CB) (B3 (CJ (Co (C0 hr.units) (BY 5) B4) (B3 (Ca 8 CP.nd (B8 Cr hr_law_take (BV (BY 0) (BV (Cw CN T.b_len boot_len (BV (BY 7) BZ)) BZ)))) (B3 (Ca 9 CP.nd (Ff (Cc Cp (Ff (BY 7) (Ep (BY 8)) F0) (Ff (BY 7) F0 (Ep (BY 8)))) F0 (Ep (Cc Cp B4 (B8 Cr hr_law_take (BV (BY 0) (BV (Cw CN T.b_len boot_len (BV (BY 7) BZ)) BZ))))))) (B9 (Cm (Cu (BV Cj (BV (BY 6) (BV (BY 9) BZ)))))))) CB) (B3 (CJ (Co (C0 hr.units) (BY 5) B4) (B3 (Ca 10 CP.nd (B8 Cy hr_law_pick (BV (BY 0) (BV (BY 7) BZ)))) (B3 (NK 11 ["_law_word"] [(7,"_law_columns_here")] (by exact FP (B7 ER) rfl rfl ⟨rfl,by symm,by symm,by symm⟩ ⟨⟨rfl,.inl rfl,.inl rfl⟩,True.intro⟩) (Di (D1 (BV Cj (BV Cj (BV Cj (BV Cj (BV Cj BZ))))))) Cz (λ_ _ _ _ _=>Cb 0 (show (["_law_word","_law_columns_here"]:List Str).Nodup by symm)) (λ_ _ _ _ _=>La (Co (OA hr.units) (BY 0) (BY 1))) (λ_ _ _ _ _=>BY 0) CP.nd) (B9 (Cm (Cu (BV Cj (BV (BY 6) (BV (Cu (BV (Cu (BV (BY 10) (BV (B8 Cy hr_law_pick (BV (BY 0) (BV (Cc Cp (BY 11) (D1 (BV (BY 10) BZ))) BZ))) BZ))) BZ)) BZ)))))))) CB) (B3 (Ca 12 CP.nd (B8 GB hr_law_look (BV (BY 0) (BV (BY 1) (BV (Cc GH (BY 2) B4) (BV (BY 3) BZ)))))) (B3 (CJ (Co (C0 hr.units) (BY 5) B4) (B3 (Ca 13 CP.nd (Cu (BV Cj (BV (BY 6) (BV (BY 12) BZ))))) (B9 (Cm (En (Co NV (Cw CN T.b_len boot_len (BV (B8 Dz hr_law_columns (BV (BY 1) (BV (BY 13) BZ))) BZ)) (BY 3)) (BY 13) (BY 6))))) CB) (B3 (CJ (Co (Lr hr.units) (B8 Dz hr_law_columns (BV (BY 1) (BV (BY 12) BZ))) (BY 7)) (B3 (Ca 12 CP.nd (BY 6)) (B9 (CJ (SVW.t (Pa (Co K9 (BY 2) B4) (Mm (Co (Lr hr.units) (CI (Dt hr.units) (BY 6) B4) Cj)))) (B9 (Ca 12 CP.nd (Cu (BV Cj (BV (BY 6) (BV (Cu (BV (B8 HG hr_law_test (BV (BY 0) (BV (BY 7) (BV (BY 4) BZ)))) BZ)) BZ)))))) CB))) CB) (B9 (Cm (Cu (BV (CI (Dt hr.units) (D1 (BV Cj (BV Cj BZ))) (Cc GH (BY 5) B4)) (BV (BY 6) (BV (BY 12) BZ))))))))))))))))
  have c:=DD 14 4 F CP rfl rfl b
  exact c
theorem Eb:CG ["_law_hand_here","_law_tables","_law_rows","_law_values","_law_schema_here","_law_most","_law_deep"] ["_law_hand_here","_law_tables","_law_rows"] (B7 E9):=by rfl'
theorem JA {f:Addr}{fd:FuncData}(F:Fun K "_law_case_of" "_law_case_of" E9 f fd)(T:Tx K mg w)(Cy:Cal P w K mg base 2 "_law_pick" Cg 2)(Lz:Cal P w K mg base 4 "_law_schema" Ee 4)(J4:Cal P w K mg base 3 "_law_filling" DZ 3)(GB:Cal P w K mg base 22 "_law_look" (Dj 10) 4):D4 P w K mg base CX0 23 f fd ["_law_hand_here","_law_tables","_law_rows"] (spF ⟨K,P,w⟩ DY 3):=by
 have b:BO P w K mg base 22 "_law_case_of" E9 f ["_law_hand_here","_law_tables","_law_rows","_law_values","_law_schema_here","_law_most","_law_deep"] FU:=λcdv A outer s H E hr=>by
  have hr_law_pick:Room 2 _:=hr.mono (by decide)
  have hr_law_schema:Room 4 _:=hr.mono (by decide)
  have hr_law_filling:Room 3 _:=hr.mono (by decide)
  have hr_law_look:Room 22 _:=hr.mono (by decide)
  exact B3 (Ca 3 Eb.nd (B8 Cy hr_law_pick (BV (BY 0) (BV (D1 (BV B4 (BV B4 (BV B4 (BV B4 BZ))))) BZ)))) (B3 (Ca 4 Eb.nd (B8 Lz hr_law_schema (BV (BY 0) (BV (BY 1) (BV (CI (Dt hr.units) (D1 (BV B4 (BV B4 (BV B4 (BV B4 (BV B4 BZ)))))) (BY 3)) (BV (BY 3) BZ)))))) (B3 (Ca 5 Eb.nd (CI (Dt hr.units) (D1 (BV B4 (BV B4 (BV B4 (BV B4 (BV B4 BZ)))))) (BY 3))) (B3 (Ca 6 Eb.nd (B8 Cy hr_law_pick (BV (BY 0) (BV (D1 (BV B4 (BV B4 (BV B4 (BV B4 (BV B4 (BV B4 (BV B4 (BV B4 BZ))))))))) BZ)))) (B9 (Cm (Cu (BV (BY 4) (BV (B8 J4 hr_law_filling (BV (BY 0) (BV (BY 4) (BV (BY 2) BZ)))) (BV (B8 GB hr_law_look (BV (BY 0) (BV (BY 4) (BV (BY 6) (BV (BY 5) BZ))))) BZ)))))))))
 have c:=DD 7 3 F Eb rfl rfl b
 exact c
theorem DE:CG ["_law_look_here","_law_word","_law_words_here","_law_thing"] ["_law_look_here"] (B7 Et):=by rfl'
theorem Gh {f:Addr}{fd:FuncData}(F:Fun K "_law_look_text" "_law_look_text" Et f fd)(hm:mg "_law_look_text"=some (.ref f))(hb:Binds K fd ["_law_look_here"] [])(T:Tx K mg w) :∀ n,D4 P w K mg base CX0 (n+1) f fd ["_law_look_here"] (spF ⟨K,P,w⟩ (Cn n) 1)
 | 0=>⟨λvs H Q E h=>by obtain ⟨th,mu,ds,_,r,hl,_⟩:=h;rw [r.len];exact hl,λA outer s H args us vs Q E hr he hb hv h=>by obtain ⟨th,mu,ds,_,r,hl,t⟩:=h;exact t.no.elim⟩
 | n+1=>by
  have DV:Cal P w K mg base (n+1) "_law_look_text" (Cn n) 1:=CW F hm (Gh F hm hb T  n) hb
  have b:BO P w K mg base (n+1) "_law_look_text" Et f ["_law_look_here","_law_word","_law_words_here","_law_thing"] (CL (Cn n)):=λcdv A outer s H E hr=>by
   have hr_law_look_text:Room (n+1) _:=hr
   exact B3 (Ca 1 DE.nd (CI (Dt hr.units) (BY 0) B4)) (B3 (CJ (Co (C0 hr.units) (BY 1) Cj) (B9 (Cm (Cc Cp Cj (CI (Dt hr.units) (BY 0) B4)))) CB) (B3 (CJ (Co (HH hr.units) (BY 1) (Cu (BV Cj (BV Cj (BV Cj BZ))))) (B9 (Cm (Lw Cj (BV (D1 (BV (BY 1) (BV (B8 DV hr_law_look_text (BV (CI (Dt hr.units) (BY 0) B4) BZ)) (BV (B8 DV hr_law_look_text (BV (CI (Dt hr.units) (BY 0) B4) BZ)) BZ)))) BZ)))) CB) (B3 (Ca 2 DE.nd (D1 (BV (BY 1) (BV (Ct FX T.b_str boot_str (BV (Cw CN T.b_len boot_len (BV (CI (Dt hr.units) (BY 0) B4) BZ)) BZ)) BZ)))) (B3 (Fb By rfl (Di (CI (Dt hr.units) (BY 0) B4)) (Cb 3 DE.nd) (B9 (Ca 2 DE.nd (Cc Cp (BY 2) (En (Co (C0 hr.units) (BY 1) Cj) (D1 (BV (BY 3) BZ)) (Ct Hs T.b_list boot_list (BV (BY 3) BZ))))))) (B9 (Cm (Lw Cj (BV (Cc Cp (BY 2) (D1 (BV (B8 DV hr_law_look_text (BV (CI (Dt hr.units) (BY 0) B4) BZ)) BZ))) BZ))))))))
  have c:=DD 4 1 F DE rfl rfl b
  exact c
theorem Mc:CG ["_law_one","_law_due"] ["_law_one","_law_due"] (B7 FA):=by rfl'
theorem IW {f:Addr}{fd:FuncData}(F:Fun K "_law_same" "_law_same" FA f fd)(hm:mg "_law_same"=some (.ref f))(hb:Binds K fd ["_law_one","_law_due"] [])(T:Tx K mg w) :∀ n,D4 P w K mg base CX0 (n+1) f fd ["_law_one","_law_due"] (spF ⟨K,P,w⟩ (CZ n) 2)
 | 0=>⟨λvs H Q E h=>by obtain ⟨th,mu,ds,_,r,hl,_⟩:=h;rw [r.len];exact hl,λA outer s H args us vs Q E hr he hb hv h=>by obtain ⟨th,mu,ds,_,r,hl,t⟩:=h;exact t.no.elim⟩
 | n+1=>by
  have GL:Cal P w K mg base (n+1) "_law_same" (CZ n) 2:=CW F hm (IW F hm hb T  n) hb
  have b:BO P w K mg base (n+1) "_law_same" FA f ["_law_one","_law_due"] (FL (CZ n)):=λcdv A outer s H E hr=>by
   have hr_law_same:Room (n+1) _:=hr
   exact B3 (CJ (E6 (GW "tuple" (BY 1) T.b_isinstance T.b_tuple Bw)) (B3 (CJ (SVW.t (FQ (FG (E6 (GW "tuple" (BY 0) T.b_isinstance T.b_tuple Bw))) (Fj (Co (Lr hr.units) (Cw CN T.b_len boot_len (BV (BY 0) BZ)) (Cw CN T.b_len boot_len (BV (BY 1) BZ)))))) (B9 (Cm KQ)) CB) (B9 (Cm (Cw (Ga rfl) T.b_all boot_all (BV (DO ["_law_a","_law_b"] [] (by exact FP (B7 FA) rfl rfl ⟨rfl,by symm,by symm,by symm⟩ True.intro) (Q4 T.b_zip (BV (BY 0) (BV (BY 1) BZ))) (JL (EX Cz (EX Cz Ik))) (λ_ _ _ _ _=>Ed rfl (Cs (Cb 0 (show (["_law_a","_law_b"]:List Str).Nodup by symm)) (Cs (Cb 1 (show (["_law_a","_law_b"]:List Str).Nodup by symm)) DI))) (λ_ _ _ _ _=>Dp) (λ_ _ _ _ _=>B8 GL hr_law_same (BV (BY 0) (BV (BY 1) BZ)))) BZ))))) CB) (B3 (CJ (E6 (GW "int" (BY 1) T.b_isinstance T.b_int boot_int)) (B9 (Cm (N2 (GW "int" (BY 0) T.b_isinstance T.b_int boot_int) (N2 (WZ (GW "bool" (BY 0) T.b_isinstance T.b_bool (by symm))) (RJ (IG (C0 hr.units) (BY 0) (BY 1))))))) CB) (B9 (Cm (N2 (GW "str" (BY 0) T.b_isinstance T.b_str boot_str) (RJ (IG (C0 hr.units) (BY 0) (BY 1)))))))
  have c:=DD 2 2 F Mc rfl rfl b
  exact c
theorem DL:CG ["_law_hand_here","_law_look_here","_law_most","_law_turn","_law_way","_law_columns_here"] ["_law_hand_here","_law_look_here","_law_most"] (B7 EN):=by rfl'
theorem M5 {f:Addr}{fd:FuncData}(F:Fun K "_law_over" "_law_over" EN f fd)(T:Tx K mg w)(Cr:Cal P w K mg base 1 "_law_take" B6 2)(Cy:Cal P w K mg base 2 "_law_pick" Cg 2):D4 P w K mg base CX0 3 f fd ["_law_hand_here","_law_look_here","_law_most"] (spF ⟨K,P,w⟩ EZ 3):=by
 have b:BO P w K mg base 2 "_law_over" EN f ["_law_hand_here","_law_look_here","_law_most","_law_turn","_law_way","_law_columns_here"] HB:=λcdv A outer s H E hr=>by
  have hr_law_take:Room 1 _:=hr.mono (by decide)
  have hr_law_pick:Room 2 _:=hr.mono (by decide)
  exact B3 (Fb By rfl (DX T.b_range (BV (B8 Cr hr_law_take (BV (BY 0) (BV (BY 2) BZ))) BZ)) (Cb 3 DL.nd) (B3 (Ca 4 DL.nd (B8 Cr hr_law_take (BV (BY 0) (BV B4 BZ)))) (B3 (Ca 5 DL.nd (Ct CU T.b_tuple Bw (BV (DO ["_law_k"] [(3,"_law_turn")] (by exact FP (B7 EN) rfl rfl ⟨rfl,by symm,by symm,by symm⟩ ⟨⟨rfl,.inl rfl,.inl rfl⟩,True.intro⟩) (DX T.b_range (BV (Cc Cp B4 (B8 Cr hr_law_take (BV (BY 0) (BV B4 BZ)))) BZ)) Cz (λ_ _ _ _ _=>Cb 0 (show (["_law_k","_law_turn"]:List Str).Nodup by symm)) (λ_ _ _ _ _=>Dp) (λ_ _ _ _ _=>Cc Cp Cj (Ct FX T.b_str boot_str (BV (Cc Es (BY 0) (Cc Cp B4 (BY 1))) BZ)))) BZ))) (B9 (CJ (Co (C0 hr.units) (BY 4) B4) (B9 (Ca 1 DL.nd (Cu (BV Cj (BV (BY 1) (BV (BY 5) BZ)))))) (B9 (CJ (Co (C0 hr.units) (BY 4) B4) (B9 (Ca 1 DL.nd (Cu (BV Cj (BV (BY 1) (BV (Ct CU T.b_tuple Bw (BV (DO ["_law_one"] [] (by exact FP (B7 EN) rfl rfl ⟨rfl,by symm,by symm,by symm⟩ True.intro) (Di (BY 5)) Cz (λ_ _ _ _ _=>Cb 0 (show (["_law_one"]:List Str).Nodup by symm)) (λ_ _ _ _ _=>Dp) (λ_ _ _ _ _=>Cu (BV (BY 0) (BV Cj BZ)))) BZ)) BZ)))))) (B9 (CJ (Co (C0 hr.units) (BY 4) B4) (B9 (Ca 1 DL.nd (Cu (BV Cj (BV (BY 1) (BV (Cu (BV (Cu (BV Cj (BV Cj (BV Cj BZ)))) (BV (Cu (BV Cj (BV Cj (BV Cj BZ)))) BZ))) BZ)))))) (B9 (Ca 1 DL.nd (B8 Cy hr_law_pick (BV (BY 0) (BV (D1 (BV (Cu (BV Cj (BV (Cu (BV Cj (BV Cj BZ))) (BV (BY 1) BZ)))) (BV (Cu (BV Cj (BV (BY 1) (BV (Cu (BV Cj (BV Cj BZ))) BZ)))) BZ))) BZ)))))))))))))) (B9 (Cm (BY 1)))
 have c:=DD 6 3 F DL rfl rfl b
 exact c
theorem FC:CG ["_law_script","_law_k","_law_hand_here","_law_schema_here","_law_filling_here","_law_look_here","_law_many","_law_wide","_law_tests","_law_some","_law_text"] ["_law_script"] (B7 HV):=by rfl'
theorem Wd {f:Addr}{fd:FuncData}(F:Fun K "law" "law" HV f fd)(T:Tx K mg w)(NP:Cal P w K mg base 1 "_law_hand" Eu 2)(J9:Cal P w K mg base 23 "_law_case_of" DY 3)(Cy:Cal P w K mg base 2 "_law_pick" Cg 2)(Cr:Cal P w K mg base 1 "_law_take" B6 2)(Nm:Cal P w K mg base 3 "_law_over" EZ 3)(DV:Cal P w K mg base 19 "_law_look_text" (Cn 18) 1)(IU:Cal P w K mg base 20 "show_look" DN 1)(GL:Cal P w K mg base 23 "_law_same" (CZ 22) 2)(IP:Cal P w K mg base 23 "read_look" DM 1):D4 P w K mg base CX0 24 f fd ["_law_script"] (spF ⟨K,P,w⟩ Kl 1):=by
 have b:BO P w K mg base 23 "law" HV f ["_law_script","_law_k","_law_hand_here","_law_schema_here","_law_filling_here","_law_look_here","_law_many","_law_wide","_law_tests","_law_some","_law_text"] RL:=λcdv A outer s H E hr=>by
  have hr_law_hand:Room 1 _:=hr.mono (by decide)
  have hr_law_case_of:Room 23 _:=hr.mono (by decide)
  have hr_law_pick:Room 2 _:=hr.mono (by decide)
  have hr_law_take:Room 1 _:=hr.mono (by decide)
  have hr_law_over:Room 3 _:=hr.mono (by decide)
  have hr_law_look_text:Room 19 _:=hr.mono (by decide)
  have hr_show_look:Room 20 _:=hr.mono (by decide)
  have hr_law_same:Room 23 _:=hr.mono (by decide)
  have hr_read_look:Room 23 _:=hr.mono (by decide)
  exact B3 (Fb By rfl (DX T.b_range (BV (Cw (Pd rfl) T.b_max boot_max (BV B4 (BV (Cw (KS rfl) T.b_min boot_min (BV (Cw CN T.b_len boot_len (BV (BY 0) BZ)) (BV B4 BZ))) BZ))) BZ)) (Cb 1 FC.nd) (B3 (Ca 2 FC.nd (B8 NP hr_law_hand (BV (BY 0) (BV (BY 1) BZ)))) (B3 (E8 (B8 J9 hr_law_case_of (BV (BY 2) (BV B4 (BV B4 BZ)))) (Ed rfl (Cs (Cb 3 FC.nd) (Cs (Cb 4 FC.nd) (Cs (Cb 5 FC.nd) DI))))) (B3 (Ca 6 FC.nd (B8 Cy hr_law_pick (BV (BY 2) (BV (D1 (BV B4 (BV B4 (BV B4 (BV B4 (BV B4 BZ)))))) BZ)))) (B3 (Ca 7 FC.nd (Cu (BV Cj (BV (BY 5) (BV (Ct CU T.b_tuple Bw (BV (DO ["_law_j"] [(2,"_law_hand_here")] (by exact FP (B7 HV) rfl rfl ⟨rfl,by symm,by symm,by symm⟩ ⟨⟨rfl,.inl rfl,.inl rfl⟩,True.intro⟩) (DX T.b_range (BV (BY 6) BZ)) Cz (λ_ _ _ _ _=>Cb 0 (show (["_law_j","_law_hand_here"]:List Str).Nodup by symm)) (λ_ _ _ _ _=>Dp) (λ_ _ _ _ _=>Cc Cp Cj (Ct FX T.b_str boot_str (BV (Cc Es (BY 0) (Cc Cp B4 (B8 Cr hr_law_take (BV (BY 1) (BV B4 BZ))))) BZ)))) BZ)) BZ))))) (B3 (Ca 8 FC.nd (Ct CU T.b_tuple Bw (BV (DO ["_law_j"] [] (by exact FP (B7 HV) rfl rfl ⟨rfl,by symm,by symm,by symm⟩ True.intro) (DX T.b_range (BV (Cc Cp B4 (Cc Es (BY 1) B4)) BZ)) Cz (λ_ _ _ _ _=>Cb 0 (show (["_law_j"]:List Str).Nodup by symm)) (λ_ _ _ _ _=>Dp) (λ_ _ _ _ _=>Cu (BV Cj (BV Cj (BV (Ct FX T.b_str boot_str (BV (BY 0) BZ)) BZ))))) BZ))) (B9 (Fb By rfl (Di (Cu (BV (BY 5) (BV (B8 Nm hr_law_over (BV (BY 2) (BV (Cu (BV Cj (BV Cj BZ))) (BV B4 BZ)))) (BV (BY 7) (BV (Cu (BV Cj (BV (BY 5) (BV (BY 8) BZ)))) BZ)))))) (Cb 9 FC.nd) (B3 (Ca 10 FC.nd (B8 DV hr_law_look_text (BV (BY 9) BZ))) (B3 (CJ (SVW.t (FQ (Co (Lr hr.units) (B8 IU hr_show_look (BV (BY 9) BZ)) (BY 10)) (Fj (FG (E6 (B8 GL hr_law_same (BV (B8 IP hr_read_look (BV (BY 10) BZ)) (BV (BY 9) BZ)))))))) (B9 (Cm KQ)) CB) (B9 (CJ (FG (E6 (B8 GL hr_law_same (BV (B8 IP hr_read_look (BV (B8 IU hr_show_look (BV (BY 9) BZ)) BZ)) (BV (BY 9) BZ))))) (B9 (Cm KQ)) CB)))))))))))) (B9 (Cm KQ))
 have c:=DD 11 1 F FC rfl rfl b
 exact c
end
end PG
namespace PV
open PySem L2 PyProof.Rows
section
variable {α β:Type} {ro:Ro} {mu:Sto} {d e:D} {a b c:Ex} {i:Nat} {o:Option D}
@[simp] theorem B5 {x:α}{m:Sto}{f:α->Sto->Rs β}:bM (some (x,m)) f=f x m:=rfl
@[simp] theorem Hb:BX 0 (some d::ro) mu=some (d,mu):=rfl
@[simp] theorem H0 {x1}:BX 1 (x1::some d::ro) mu=some (d,mu):=rfl
@[simp] theorem J8 {x1 x2}:BX 2 (x1::x2::some d::ro) mu=some (d,mu):=rfl
@[simp] theorem LU {x1 x2 x3}:BX 3 (x1::x2::x3::some d::ro) mu=some (d,mu):=rfl
@[simp] theorem PC {x1 x2 x3 x4}:BX 4 (x1::x2::x3::x4::some d::ro) mu=some (d,mu):=rfl
@[simp] theorem VT {x1 x2 x3 x4 x5}:BX 5 (x1::x2::x3::x4::x5::some d::ro) mu=some (d,mu):=rfl
@[simp] theorem UR {x1 x2 x3 x4 x5 x6}:BX 6 (x1::x2::x3::x4::x5::x6::some d::ro) mu=some (d,mu):=rfl
@[simp] theorem Yf {x1 x2 x3 x4 x5 x6 x7}:BX 7 (x1::x2::x3::x4::x5::x6::x7::some d::ro) mu=some (d,mu):=rfl
@[simp] theorem Zn {x1 x2 x3 x4 x5 x6 x7 x8}:BX 8 (x1::x2::x3::x4::x5::x6::x7::x8::some d::ro) mu=some (d,mu):=rfl
@[simp] theorem Y6 {x1 x2 x3 x4 x5 x6 x7 x8 x9}:BX 9 (x1::x2::x3::x4::x5::x6::x7::x8::x9::some d::ro) mu=some (d,mu):=rfl
@[simp] theorem X0 {x1 x2 x3 x4 x5 x6 x7 x8 x9 x10}:BX 10 (x1::x2::x3::x4::x5::x6::x7::x8::x9::x10::some d::ro) mu=some (d,mu):=rfl
@[simp] theorem Y2 {x1 x2 x3 x4 x5 x6 x7 x8 x9 x10 x11}:BX 11 (x1::x2::x3::x4::x5::x6::x7::x8::x9::x10::x11::some d::ro) mu=some (d,mu):=rfl
@[simp] theorem X3 {x1 x2 x3 x4 x5 x6 x7 x8 x9 x10 x11 x12}:BX 12 (x1::x2::x3::x4::x5::x6::x7::x8::x9::x10::x11::x12::some d::ro) mu=some (d,mu):=rfl
@[simp] theorem XZ {x1 x2 x3 x4 x5 x6 x7 x8 x9 x10 x11 x12 x13}:BX 13 (x1::x2::x3::x4::x5::x6::x7::x8::x9::x10::x11::x12::x13::some d::ro) mu=some (d,mu):=rfl
@[simp] theorem YC {x1 x2 x3 x4 x5 x6 x7 x8 x9 x10 x11 x12 x13 x14}:BX 14 (x1::x2::x3::x4::x5::x6::x7::x8::x9::x10::x11::x12::x13::x14::some d::ro) mu=some (d,mu):=rfl
@[simp] theorem XY {x1 x2 x3 x4 x5 x6 x7 x8 x9 x10 x11 x12 x13 x14 x15}:BX 15 (x1::x2::x3::x4::x5::x6::x7::x8::x9::x10::x11::x12::x13::x14::x15::some d::ro) mu=some (d,mu):=rfl
@[simp] theorem z_C:eC d ro mu=some (d,mu):=rfl
@[simp] theorem CV {g:D->D->Sto->Rs D}:B2 g a b ro mu=bM (a ro mu) λx m1=>bM (b ro m1) λy m2=>g x y m2:=rfl
@[simp] theorem Z9 {g:D->Sto->Rs D}:e1 g a ro mu=bM (a ro mu) λx m1=>g x m1:=rfl
@[simp] theorem Fy:tV a ro mu=bM (a ro mu) λx m1=>(asB x).map λb=>(b,m1):=rfl
@[simp] theorem Ea {x:Bool}:asB (.bl x)=some x:=rfl
@[simp] theorem VF {t:Tx}:tNt t ro mu=bM (t ro mu) λb m1=>some (!b,m1):=rfl
@[simp] theorem SA {t u:Tx}:tAn t u ro mu=bM (t ro mu) λx m1=>if x=true then u ro m1 else some (false,m1):=rfl
@[simp] theorem To {t u:Tx}:tO t u ro mu=bM (t ro mu) λx m1=>if x=true then some (true,m1) else u ro m1:=rfl
@[simp] theorem Tf:tY ro mu=some (true,mu):=rfl
noncomputable def anB (b:Ex)(ro:Ro):D->Sto->Rs D
 | .bl c,m1=>if c=true then b ro m1 else some (.bl false,m1)
 | _,_=>none
noncomputable def oB (b:Ex)(ro:Ro):D->Sto->Rs D
 | .bl c,m1=>if c=true then some (.bl true,m1) else b ro m1
 | _,_=>none
theorem Z4:eAn a b ro mu=bM (a ro mu) (anB b ro):=by
 unfold eAn
 congr 1
 funext x m
 cases x<;>rfl
theorem z_o:eO a b ro mu=bM (a ro mu) (oB b ro):=by
 unfold eO
 congr 1
 funext x m
 cases x<;>rfl
@[simp] theorem YT:eAn a b ro mu=bM (a ro mu) (anB b ro):=Z4
@[simp] theorem Zx:eO a b ro mu=bM (a ro mu) (oB b ro):=z_o
@[simp] theorem YV {x:Bool}:anB b ro (.bl x) mu=if x=true then b ro mu else some (.bl false,mu):=rfl
@[simp] theorem Zu {x:Bool}:oB b ro (.bl x) mu=if x=true then some (.bl true,mu) else b ro mu:=rfl
noncomputable def ntB:D->Sto->Rs D
 | .bl c,m1=>some (.bl (!c),m1)
 | _,_=>none
@[simp] theorem ZW:eNt a ro mu=bM (a ro mu) ntB:=by
 unfold eNt
 congr 1
 funext x m
 cases x<;>rfl
@[simp] theorem Zo {x:Bool}:ntB (.bl x) mu=some (.bl (!x),mu):=rfl
@[simp] theorem Qa {t:Tx}:eIf t a b ro mu=bM (t ro mu) λx m1=>if x=true then a ro m1 else b ro m1:=rfl
@[simp] theorem Fw:B0 ro mu=some ([],mu):=rfl
@[simp] theorem D3 {r:Exs}:BW a r ro mu=bM (a ro mu) λx m1=>bM (r ro m1) λxs m2=>some (x::xs,m2):=rfl
@[simp] theorem QP {r:Exs}:Cq r ro mu=bM (r ro mu) λxs m1=>some (.tup xs,m1):=rfl
@[simp] theorem Ze {r:Exs}:EL r ro mu=bM (r ro mu) λxs m1=>some (.lst xs,m1):=rfl
@[simp] theorem Xu {r:Exs}:G2 r ro mu=bM (r ro mu) λxs m1=>some (.ref m1.length,m1++[.lst xs]):=rfl
@[simp] theorem Wk:Y0 ro mu=some (.dct [] [],mu):=rfl
@[simp] theorem WV:MJ ro mu=some (.ref mu.length,mu++[.dct [] []]):=rfl
@[simp] theorem Ek {f:Fn}{r:Exs}:B1 f r ro mu=bM (r ro mu) λxs m1=>f xs m1:=rfl
@[simp] theorem ML:sNx ro mu=some ((.nx,ro),mu):=rfl
noncomputable def VP (b:Sx):Fl×Ro->Sto->Rs (Fl×Ro)
 | (.nx,ro),m1=>b ro m1
 | p,m1=>some (p,m1)
@[simp] theorem Ss {s t:Sx}:Ce s t ro mu=bM (s ro mu) (VP t):=by
 unfold Ce
 congr 1
 funext p m
 obtain ⟨f,r⟩:=p
 cases f<;>rfl
@[simp] theorem R0 {t:Sx}:VP t (.nx,ro) mu=t ro mu:=rfl
@[simp] theorem RY {t:Sx}:VP t (.rt d,ro) mu=some ((.rt d,ro),mu):=rfl
@[simp] theorem PY:sRt a ro mu=bM (a ro mu) λd m1=>some ((.rt d,ro),m1):=rfl
@[simp] theorem ZU:sEx a ro mu=bM (a ro mu) λ_ m1=>some ((.nx,ro),m1):=rfl
@[simp] theorem FD {t:Tx}{s u:Sx}:sIf t s u ro mu=bM (t ro mu) λx m1=>if x=true then s ro m1 else u ro m1:=rfl
@[simp] theorem Ym {i:Nat}:gNm i d ro mu=some (ro.set i (some d),mu):=rfl
@[simp] theorem Yx:Dd [] ro mu=some (ro,mu):=rfl
@[simp] theorem Zf {g:Gx}{r:Gxs}{ds:List D}:Cf g r (d::ds) ro mu=bM (g d ro mu) λro' m1=>r ds ro' m1:=rfl
@[simp] theorem XD {r:Gxs}{x y:D}:gTp 2 r (.tup [x,y]) ro mu=r [x,y] ro mu:=rfl
@[simp] theorem XC {r:Gxs}{x y z:D}:gTp 3 r (.tup [x,y,z]) ro mu=r [x,y,z] ro mu:=rfl
@[simp] theorem VO {r:Gxs}{x y z u:D}:gTp 4 r (.tup [x,y,z,u]) ro mu=r [x,y,z,u] ro mu:=rfl
@[simp] theorem FN {g:Gx}:Ci a g ro mu=bM (a ro mu) λd m1=>bM (g d ro m1) λro' m2=>some ((.nx,ro'),m2):=rfl
@[simp] theorem Wr {i j:Nat}{r:Exs}:ZX i j r ro mu=bM (r ro mu) λds m1=>match ds with|[x,y]=>some ((.nx,(ro.set i (some x)).set j (some y)),m1)|_=>none:=rfl
@[simp] theorem Xy {i j k:Nat}{r:Exs}:Yl i j k r ro mu=bM (r ro mu) λds m1=>match ds with|[x,y,z]=>some ((.nx,((ro.set i (some x)).set j (some y)).set k (some z)),m1)|_=>none:=rfl
noncomputable def J3:Fl×Ro->Sto->Rs D
 | (.rt d,_),m1=>some (d,m1)
 | (.nx,_),m1=>some (.non,m1)
 | _,_=>none
theorem KO {n:Nat}{m:Sx}{ds:List D}:fnB n m ds mu=bM (m (ds.map some++List.replicate (n-ds.length) none) mu) J3:=by
 unfold fnB
 congr 1
 funext p q
 obtain ⟨f,r⟩:=p
 cases f<;>rfl
@[simp] theorem E4:J3 (.rt d,ro) mu=some (d,mu):=rfl
@[simp] theorem Wt:J3 (.nx,ro) mu=some (.non,mu):=rfl
def XI (m0:Sto):Fl×Ro->Sto->Rs D
 | (.rt d,_),m1=>LJ m0 m1 d
 | (.nx,_),m1=>LJ m0 m1 .non
 | _,_=>none
theorem YA {n:Nat}{m:Sx}{ds:List D}:fnG n m ds mu=bM (m (ds.map some++List.replicate (n-ds.length) none) mu) (XI mu):=by
 unfold fnG
 congr 1
 funext p q
 obtain ⟨f,r⟩:=p
 cases f<;>rfl
@[simp] theorem Us {m0:Sto}:XI m0 (.rt d,ro) mu=LJ m0 mu d:=rfl
@[simp] theorem YF {x:Ix}{g:Gx}{s:Sx}:Hu x g s ro mu=bM (x ro mu) λp m1=>EH p.2 m1 g s p.1 ro m1:=rfl
def Ou (m1:Sto):D->Rs (List D×Option Nat)
 | .tup ds=>some ((ds,none),m1)
 | .lst ds=>some ((ds,none),m1)
 | .str x=>some ((chars x,none),m1)
 | .ref k=>match m1[k]? with
  | some (.lst ds)=>some ((ds,some k),m1)
  | _=>none
 | _=>none
@[simp] theorem XB:Ei a ro mu=bM (a ro mu) λd m1=>Ou m1 d:=by
 unfold Ei
 congr 1
@[simp] theorem Xn {ds:List D}:Ou mu (.tup ds)=some ((ds,none),mu):=rfl
@[simp] theorem Zr {ds:List D}:Ou mu (.lst ds)=some ((ds,none),mu):=rfl
@[simp] theorem ZT {x:Str}:Ou mu (.str x)=some ((chars x,none),mu):=rfl
theorem Kf {r:Exs}{n:Int}{m:Sto}(h:r ro mu=some ([.int n],m))(h0:-(2 ^ 62)≤n)(h1:n≤(sizeLine:Int)):iRg r ro mu=some ((Ec 0 n.toNat,none),m):=by
 unfold iRg
 rw [h]
 simp only [bM,NO]
 rw [if_pos ⟨h0,h1⟩]
@[simp] theorem UA {x:Ix}{nc:Nat}{fv:List Nat}{g:Gx}{t:Tx}:eLC x nc fv g t a ro mu=bM (x ro mu) λp m1=>bM (EM p.2 m1 g t a (r0 nc fv ro) p.1 m1) λys m2=>some (.lst ys,m2):=rfl
@[simp] theorem Z6 {nc:Nat}{fv:List Nat}:r0 nc fv ro=List.replicate nc none++fv.map λk=>ro.getD k none:=rfl
noncomputable def nR:D->Bool
 | .ref _=>false
 | _=>true
@[simp] theorem Ux {g g':D->D->Sto->Rs D}{c:Ex}:LX g g' a b c ro mu=bM (a ro mu) λx m1=>bM (b ro m1) λy m2=>bM (g x y m2) λz m3=>match asB z with|none=>none|some k=>if k=true then bM (c ro m3) λw' m4=>g' y w' m4 else some (.bl false,m3):=rfl
@[simp] theorem YU {i j:Int}:leD (.int i) (.int j) mu=some (.bl (decide (i≤j)),mu):=rfl
@[simp] theorem X2 {i j:Str}:leD (.str i) (.str j) mu=some (.bl (!decide (j.cps.toList<i.cps.toList)),mu):=rfl
@[simp] theorem Vw {i j:Int}:geD (.int i) (.int j) mu=some (.bl (decide (j≤i)),mu):=rfl
@[simp] theorem VE {i j:Int}:gtD (.int i) (.int j) mu=some (.bl (decide (j<i)),mu):=rfl
@[simp] theorem Yk {i j:Int}:ltG (.int i) (.int j) mu=some (.bl (decide (i<j)),mu):=by
 unfold ltG
 rw [if_pos (by simp [toPy,PyData.depth])]
 rfl
@[simp] theorem XQ {i j:Str}:ltG (.str i) (.str j) mu=some (.bl (decide (i.cps.toList<j.cps.toList)),mu):=by
 unfold ltG
 rw [if_pos (by simp [toPy,PyData.depth])]
 rfl
@[simp] theorem Gn {i j:Int}:Ck (.int i) (.int j) mu=some (.int (i+j),mu):=rfl
@[simp] theorem Lm {i j:Int}:F9 (.int i) (.int j) mu=some (.int (i-j),mu):=rfl
theorem GK {i j:Int}(h:0<j):Ew (.int i) (.int j) mu=some (.int (i % j),mu):=by unfold Ew;dsimp only;rw [if_pos h]
@[simp] theorem X9 {ds:List D}:Qf [.tup ds] mu=some (.int ds.length,mu):=rfl
@[simp] theorem YS {ds:List D}:Qf [.lst ds] mu=some (.int ds.length,mu):=rfl
@[simp] theorem YB {x:Str}:Qf [.str x] mu=some (.int x.length,mu):=rfl
@[simp] theorem N5 {ds:List D}:D0 [.tup ds] mu=some (.int ds.length,mu):=rfl
@[simp] theorem RX {ds:List D}:D0 [.lst ds] mu=some (.int ds.length,mu):=rfl
@[simp] theorem WU {x:Str}:D0 [.str x] mu=some (.int x.length,mu):=rfl
@[simp] theorem Ws {ds:List D}:D0 [.set ds] mu=some (.int ds.length,mu):=rfl
@[simp] theorem LI {ds:List D}:D8 [.lst ds] mu=some (.tup ds,mu):=rfl
@[simp] theorem Wz {ds:List D}:D8 [.tup ds] mu=some (.tup ds,mu):=rfl
@[simp] theorem Xt {ds:List D}:Jb [.tup ds] mu=some (.lst ds,mu):=rfl
theorem Vx (h:eqB mu d e=some r):eqD d e mu=some (.bl r,mu):=by unfold eqD;rw [h];rfl
@[simp] theorem Ow {i j:Int}:eqD (.int i) (.int j) mu=some (.bl (decide (i=j)),mu):=by
 refine Vx ?_
 unfold eqB
 rw [if_pos (by simp [seen,CY,toPy,PyData.depth])]
 simp only [seen,toPy,PyData.eqv]
 rfl
@[simp] theorem XG {i j:Int}:neD (.int i) (.int j) mu=some (.bl (!decide (i=j)),mu):=by
 have:=@Ow mu i j
 unfold eqD at this
 unfold neD
 cases e:eqB mu (.int i) (.int j) with
 | none=>rw [e] at this;cases this
 | some r=>rw [e] at this;cases this;rfl
@[simp] theorem XS {i j:Bool}:neD (.bl i) (.bl j) mu=some (.bl (i != j),mu):=by
 unfold neD eqB
 rw [if_pos (by simp [seen,CY,toPy,PyData.depth])]
 simp only [seen,toPy,PyData.eqv]
 cases i<;>cases j<;>rfl
@[simp] theorem HZ {i j:Str}:eqD (.str i) (.str j) mu=some (.bl (decide (i=j)),mu):=by
 refine Vx ?_
 unfold eqB
 rw [if_pos (by simp [seen,CY,toPy,PyData.depth])]
 simp only [seen,toPy,PyData.eqv]
 rfl
@[simp] theorem WH {ds:List D}:ixG (.tup (d::ds)) (.int 0) mu=some (d,mu):=by
 have:ixD (.tup (d::ds)) (.int 0) mu=some (d,mu):=by simp [ixD,atI,ixN]
 unfold ixG
 rw [this]
@[simp] theorem Xs {ds:List D}{x:D}:ixG (.tup (x::d::ds)) (.int 1) mu=some (d,mu):=by
 have:ixD (.tup (x::d::ds)) (.int 1) mu=some (d,mu):=by
  have h:(1:Int)<((x::d::ds).length:Int):=by simp;ext
  simp only [ixD,atI,ixN,h,if_true]
  rfl
 unfold ixG
 rw [this]
@[simp] theorem Xw {ds:List D}{x y:D}:ixG (.tup (x::y::d::ds)) (.int 2) mu=some (d,mu):=by
 have:ixD (.tup (x::y::d::ds)) (.int 2) mu=some (d,mu):=by
  have h:(2:Int)<((x::y::d::ds).length:Int):=by simp;ext
  simp only [ixD,atI,ixN,h,if_true]
  rfl
 unfold ixG
 rw [this]
@[simp] theorem Xd {ds:List D}:ixG (.lst (d::ds)) (.int 0) mu=some (d,mu):=by
 have:ixD (.lst (d::ds)) (.int 0) mu=some (d,mu):=by simp [ixD,atI,ixN,Dg]
 unfold ixG
 rw [this]
theorem NQ {ds:List D}{j:Nat}(s:D)(hs:s=.lst ds∨s=.tup ds)(h:ds[j]? = some d):ixG s (.int j) mu=some (d,mu):=by
 obtain ⟨hl,e⟩:=Af.mp h
 have a:atI ds (j:Int)=some d:=by
  unfold atI ixN
  rw [if_pos (by ext),if_pos (by ext)]
  simpa using h
 unfold ixG
 rcases hs with rfl|rfl<;>simp [ixD,Dg,a]
theorem Zl {bs:List Bool}:IZ [.lst (bs.map D.bl)] mu=some (.bl (bs.all id),mu):=by
 have:IL (bs.map D.bl)=some bs:=by
  induction bs with
  | nil=>rfl
  | cons b bs ih=>simp [IL,ih]
 simp [IZ,quF,Dg,this]
end
theorem Jt {m0:Sto}{tg:Gx}{tt:Tx}{el:Ex}{ro:Ro}{mu:Sto}(p:D->Bool)(g:D->D):∀ ds:List D,(∀ d∈ds,∃ ro1,tg d ro mu=some (ro1,mu)∧tt ro1 mu=some (p d,mu)∧(p d=true->el ro1 mu=some (g d,mu)))->EM none m0 tg tt el ro ds mu=some ((ds.filter p).map g,mu)
 | [],_=>rfl
 | d::ds,h=>by
  obtain ⟨ro1,e1,e2,e3⟩:=h d (.head _)
  have ih:=Jt (m0:=m0) p g ds λd' hd=>h d' (.tail _ hd)
  unfold EM
  rw [e1,CA,e2,CA]
  cases c:p d with
  | true=>rw [if_pos rfl,e3 c,CA,D9,if_pos (show gOk none m0 mu from True.intro),ih,CA,List.filter_cons_of_pos c,AO]
  | false=>rw [if_neg Am,D9,if_pos (show gOk none m0 mu from True.intro),ih,List.filter_cons_of_neg (by simp [c])]
theorem G3 {m0:Sto}{tg:Gx}{el:Ex}{ro:Ro}{mu:Sto}(g:D->D)(ds:List D)(h:∀ d∈ds,∃ ro1,tg d ro mu=some (ro1,mu)∧el ro1 mu=some (g d,mu)):EM none m0 tg tY el ro ds mu=some (ds.map g,mu):=by
 have:=Jt (m0:=m0) (tg:=tg) (tt:=tY) (el:=el) (ro:=ro) (mu:=mu) (λ_=>true) g ds λd hd=>by
  obtain ⟨ro1,e1,e2⟩:=h d hd
  exact ⟨ro1,e1,rfl,λ_=>e2⟩
 rw [this,List.filter_eq_self.mpr (λ_ _=>rfl)]
theorem MU {m0:Sto}{tg:Gx}{el:Ex}{ro:Ro}{mu:Sto}(g:D->Bool)(ds:List D)(h:∀ d∈ds,∃ ro1,tg d ro mu=some (ro1,mu)∧el ro1 mu=some (.bl (g d),mu)):EM none m0 tg tY el ro ds mu=some ((ds.map g).map D.bl,mu):=by
 rw [G3 (λd=>.bl (g d)) ds h,AQ]
 rfl
@[simp] theorem NN {mu:Sto}{ds:List D}{g:D->Bool}:IZ [.lst ((ds.map g).map D.bl)] mu=some (.bl (ds.all g),mu):=by
 rw [Zl,List.all_map]
 rfl
end PV
namespace K1
open PySem L2 PyProof.Rows
noncomputable abbrev DB:Str:="abcdefghijklmnopqrstuvwxyz0123456789"
structure IsW (x:Str):Prop where
 lo:1≤x.length
 hi:x.length≤8
 al:∀ c∈x.cps.toList,c∈DB.cps.toList
theorem F6:DB.cps.toList.length=36:=by symm
theorem R8:DB.cps.toList.Nodup:=by symm
theorem Yq (c:Nat)(n:Int)(h0:0≤n)(h7:n≤7):MulOk ⟨#[c]⟩ n:=by
 have e:n=0∨n=1∨n=2∨n=3∨n=4∨n=5∨n=6∨n=7:=by ext
 have l:(⟨#[c]⟩:Str).length=1:=rfl
 unfold MulOk
 rw [l]
 rcases e with rfl|rfl|rfl|rfl|rfl|rfl|rfl|rfl<;>decide
theorem mul_list (c:Nat)(n:Int)(h0:0≤n)(h7:n≤7):(Txt.mul ⟨#[c]⟩ n).cps.toList=List.replicate n.toNat c:=by
 have e:n=0∨n=1∨n=2∨n=3∨n=4∨n=5∨n=6∨n=7:=by ext
 rcases e with rfl|rfl|rfl|rfl|rfl|rfl|rfl|rfl<;>rfl
theorem SW {x:Str}{j:Int}(h0:0≤j)(h1:j≤x.length):(Txt.slice x none (some j)).cps.toList=x.cps.toList.take j.toNat:=by
 have h:=slice_closes_to (x:=x) (j:=j) ⟨h0,by simpa [Str.length] using h1⟩
 rw [eq_of_beq h]
 simp
theorem NJ {x:Str}{j:Int}(h0:0≤j)(h1:j≤x.length):(Txt.slice x (some j) none).cps.toList=x.cps.toList.drop j.toNat:=by
 rw [slice_from_eq h0 h1 rfl]
 apply List.take_of_length_le
 simp [Str.length]
 ext
def wrd (A B:Str)(fi st:Int)(k:Nat):Str:=A++⟨#[DB.cps.toList.getD ((fi+st*k) % 36).toNat 0]⟩++B
theorem MG (A B:Str)(fi st:Int)(k:Nat):(wrd A B fi st k).cps.toList=A.cps.toList++[DB.cps.toList.getD ((fi+st*k) % 36).toNat 0]++B.cps.toList:=by
 unfold wrd
 rw [Str.cps_append,Str.cps_append,BP,BP]
theorem G5 {j:Int}(h0:0≤j)(h1:j<36):DB.cps.toList[j.toNat]? = some (DB.cps.toList.getD j.toNat 0):=by
 have h:j.toNat<DB.cps.toList.length:=by rw [F6];ext
 rw [AL,Ay h]
 rfl
def J0 (st:Int):Prop:=st=1∨st=5∨st=7∨st=11∨st=13∨st=17
theorem Rn {fi st:Int}{j k:Nat}(hs:J0 st)(hj:j<6)(hk:k<6)(e:(fi+st*j) % 36=(fi+st*k) % 36):j=k:=by
 rcases hs with rfl|rfl|rfl|rfl|rfl|rfl<;>ext
theorem Uo {A B:Str}{fi st:Int}{j k:Nat}(hs:J0 st)(hj:j<6)(hk:k<6)(e:wrd A B fi st j=wrd A B fi st k):j=k:=by
 have h:=congrArg (λs:Str=>s.cps.toList) e
 simp only [MG,List.append_cancel_right_eq,List.append_cancel_left_eq,List.cons.injEq,and_true] at h
 refine Rn (fi:=fi) hs hj hk ?_
 have a0:=Bf (fi+st*j) (show (36:Int)≠0 by decide)
 have a1:=A6 (fi+st*j) (show (0:Int)<36 by decide)
 have b0:=Bf (fi+st*k) (show (36:Int)≠0 by decide)
 have b1:=A6 (fi+st*k) (show (0:Int)<36 by decide)
 have e1:=G5 a0 a1
 have e2:=G5 b0 b1
 rw [h,← e2] at e1
 have l1:((fi+st*j) % 36).toNat<DB.cps.toList.length:=by rw [F6];ext
 have l2:((fi+st*k) % 36).toNat<DB.cps.toList.length:=by rw [F6];ext
 rw [Ay l1,Ay l2] at e1
 have:=(List.getElem_inj R8).mp (AI e1)
 ext
theorem Uz {A B:Str}{fi st:Int}{k:Nat}{c:Nat}(hc:c∈DB.cps.toList)(hA:∀ x∈A.cps.toList,x=c)(hB:∀ x∈B.cps.toList,x=c)(hl:A.length+B.length≤7):IsW (wrd A B fi st k):=by
 have h:=MG A B fi st k
 have hl':(wrd A B fi st k).length=A.length+1+B.length:=by
  unfold wrd
  rw [PySem.Str.length_append,PySem.Str.length_append]
  rfl
 refine ⟨by ext,by ext,λx hx=>?_⟩
 rw [h] at hx
 rcases AE.mp hx with hy|hy
 ·rcases AE.mp hy with hz|hz
  ·rw [hA x hz];exact hc
  ·rw [Ao.mp hz]
   exact Al (G5 (Bf (fi+st*k) (show (36:Int)≠0 by decide)) (A6 (fi+st*k) (show (0:Int)<36 by decide)))
 ·rw [hB x hy];exact hc
def MD (A B:Str)(fi st:Int)(n:Nat):List Str:=(List.range n).map (wrd A B fi st)
theorem TZ {A B:Str}{fi st:Int}{n:Nat}(hs:J0 st)(hn:n≤6):(MD A B fi st n).Nodup:=by
 unfold MD
 rw [AV,List.pairwise_map]
 refine List.Pairwise.imp_of_mem (λ{a b} ha hb hne e=>hne ?_) (AV.mp List.nodup_range)
 exact Uo hs (Az (BC.mp ha) hn) (Az (BC.mp hb) hn) e
end K1
namespace PV
open PySem L2 PyProof.Rows K1
theorem RA {j:Int}{mu:Sto}(h0:0≤j)(h1:j<36):ixD (.str DB) (.int j) mu=some (.str ⟨#[DB.cps.toList.getD j.toNat 0]⟩,mu):=by
 unfold ixD
 dsimp only
 have h:j.toNat<DB.cps.toList.length:=by rw [F6];ext
 have e:ixN DB.cps.toList.length j=some j.toNat:=by unfold ixN;rw [if_pos h0,if_pos (by rw [F6];exact h1)]
 unfold atI
 rw [e,Option.bind_some,G5 h0 h1]
 rfl
theorem MT {j:Int}{mu:Sto}(h0:0≤j)(h1:j<36):ixG (.str DB) (.int j) mu=some (.str ⟨#[DB.cps.toList.getD j.toNat 0]⟩,mu):=by
 unfold ixG
 rw [RA h0 h1]
section
variable {ro:Ro} {mu:Sto} {d e:D} {a b c:Ex}
def GV (T:String)(d:D)(m1:Sto):Rs D:=if EG m1 d=true then some (.bl (isi T d),m1) else none
@[simp] theorem Vh {T:String}:Jy T a ro mu=bM (a ro mu) (GV T):=rfl
@[simp] theorem YO {T:String}:GV T .non mu=some (.bl ("NoneType"==T),mu):=by simp [GV,EG,isi,tyN]
@[simp] theorem YK {T:String}{x:Bool}:GV T (.bl x) mu=some (.bl ("bool"==T||T=="int"),mu):=by simp [GV,EG,isi,tyN]
@[simp] theorem YJ {T:String}{x:Int}:GV T (.int x) mu=some (.bl ("int"==T),mu):=by simp [GV,EG,isi,tyN]
@[simp] theorem Vt {T:String}{x:Str}:GV T (.str x) mu=some (.bl ("str"==T),mu):=by simp [GV,EG,isi,tyN]
@[simp] theorem XN {T:String}{x:List D}:GV T (.tup x) mu=some (.bl ("tuple"==T),mu):=by simp [GV,EG,isi,tyN]
@[simp] theorem YM {T:String}{x:List D}:GV T (.lst x) mu=some (.bl ("list"==T),mu):=by simp [GV,EG,isi,tyN]
@[simp] theorem X4 {T:String}{x y:List D}:GV T (.dct x y) mu=some (.bl ("dict"==T),mu):=by simp [GV,EG,isi,tyN]
@[simp] theorem YY {T:String}{x:List D}:GV T (.set x) mu=some (.bl ("set"==T),mu):=by simp [GV,EG,isi,tyN]
@[simp] theorem YL {x y:Bool}:isD (.bl x) (.bl y) mu=some (.bl (decide (x=y)),mu):=by cases x<;>cases y<;>rfl
@[simp] theorem Xc {x y:Bool}:Zw (.bl x) (.bl y) mu=some (.bl (!decide (x=y)),mu):=by cases x<;>cases y<;>rfl
@[simp] theorem ZH {P:Prop} [Decidable P]{q:Bool}:(if P then some (D.bl q,mu) else some (D.bl false,mu))=some (D.bl (decide P&&q),mu):=by
 by_cases c:P<;>simp [c]
@[simp] theorem ZL {P:Prop} [Decidable P]{q:Bool}:(if P then some (D.bl true,mu) else some (D.bl q,mu))=some (D.bl (decide P||q),mu):=by
 by_cases c:P<;>simp [c]
@[simp] theorem X7 {P:Prop} [Decidable P]{q:Bool}:(if P then some (q,mu) else some (false,mu))=some (decide P&&q,mu):=by
 by_cases c:P<;>simp [c]
@[simp] theorem Y4 {P:Prop} [Decidable P]{q:Bool}:(if P then some (true,mu) else some (q,mu))=some (decide P||q,mu):=by
 by_cases c:P<;>simp [c]
@[simp] theorem Zb {p q:Px}:eSl a p q ro mu=bM (a ro mu) λd m1=>bM (p ro m1) λlo m2=>bM (q ro m2) λhi m3=>slD d lo hi m3:=rfl
@[simp] theorem YN:pNo ro mu=some (none,mu):=rfl
noncomputable def pB:D->Sto->Rs (Option Int)
 | .int i,m1=>some (some i,m1)
 | _,_=>none
@[simp] theorem Wa:De a ro mu=bM (a ro mu) pB:=by
 unfold De
 congr 1
 funext x m
 cases x<;>rfl
@[simp] theorem Xq {i:Int}:pB (.int i) mu=some (some i,mu):=rfl
@[simp] theorem XF {ds:List D}{lo hi:Option Int}:slD (.tup ds) lo hi mu=some (.tup (cutD ds lo hi),mu):=rfl
@[simp] theorem Vi {ds:List D}{lo hi:Option Int}:slD (.lst ds) lo hi mu=some (.lst (cutD ds lo hi),mu):=rfl
@[simp] theorem W5 {α:Type}{xs:List α}:cutD xs (some 1) none=xs.drop 1:=by
 unfold cutD
 have:=HT.HQ xs.length 0 1
 rw [show (some (1:Int))=some ((1:Nat):Int) from rfl,this,HT.JE]
 cases xs with
 | nil=>rfl
 | cons a r=>simp
theorem VB {x:Str}{n:Nat}:inG (.str ⟨#[n]⟩) (.str x) mu=some (.bl (decide (n∈x.cps.toList)),mu):=by
 have:inD (.str ⟨#[n]⟩) (.str x) mu=some (.bl (decide (n∈x.cps.toList)),mu):=by
  unfold inD inB
  simp only [seen,Option.map_some]
  rw [PySem.StrLaws.found_one]
 unfold inG
 rw [this]
theorem Lg {n:Nat}{ds:List D}:FE n ds=true ↔ ∀ d∈ds,EE n d=true:=by
 induction ds with
 | nil=>simp [FE]
 | cons d ds ih=>simp [FE,ih]
mutual
theorem So {n m:Nat}(h:n≤m):∀ {d:D},EE n d=true->EE m d=true
 | .non,_=>rfl
 | .bl _,_=>rfl
 | .int _,_=>rfl
 | .str _,_=>rfl
 | .ref k,e=>by
  simp only [EE,Ak] at e ⊢
  ext
 | .tup ds,e=>by
  simp only [EE] at e ⊢
  exact Fm h e
 | .lst ds,e=>by
  simp only [EE] at e ⊢
  exact Fm h e
 | .set ds,e=>by
  simp only [EE] at e ⊢
  exact Fm h e
 | .dct ks ds,e=>by
  simp only [EE,Ae] at e ⊢
  exact ⟨Fm h e.1,Fm h e.2⟩
theorem Fm {n m:Nat}(h:n≤m):∀ {ds:List D},FE n ds=true->FE m ds=true
 | [],_=>rfl
 | d::ds,e=>by
  simp only [FE,Ae] at e ⊢
  exact ⟨So h e.1,Fm h e.2⟩
end
end
end PV
namespace PV
open PySem L2 PyProof.Rows K1
variable {mu:Sto}
theorem strs_map (ss:List Str):strsOf (ss.map D.str)=some ss:=by
 induction ss with
 | nil=>rfl
 | cons x xs ih=>simp [strsOf,ih]
def ndB (ds:List D):Bool:=decide (ds.Nodup)
theorem RZ (ds:List D):∀ r:List D,(ds.foldl Hx r).length≤r.length+ds.length∧((ds.foldl Hx r).length=r.length+ds.length->(∀ d∈ds,d∉r)∧ds.Nodup):=by
 induction ds with
 | nil=>intro r;simp
 | cons d ds ih =>
  intro r
  rw [List.foldl_cons]
  by_cases c:d∈r
  ·rw [show Hx r d=r by unfold Hx;rw [if_pos c]]
   have:=(ih r).1
   refine ⟨by simp;ext,λh=>?_⟩
   simp at h
   ext
  ·rw [show Hx r d=r++[d] by unfold Hx;rw [if_neg c]]
   obtain ⟨h1,h2⟩:=ih (r++[d])
   simp only [Ag,List.length_cons,List.length_nil] at h1 h2 ⊢
   refine ⟨by ext,λh=>?_⟩
   obtain ⟨h3,h4⟩:=h2 (by ext)
   refine ⟨λe he=>?_,Bx.mpr ⟨λhd=>h3 d hd (by simp),h4⟩⟩
   rcases Ah.mp he with rfl|he
   ·exact c
   ·exact λhr=>h3 e he (by simp [hr])
theorem P1 (ds:List D):∀ r:List D,(∀ d∈ds,d∉r)->ds.Nodup->ds.foldl Hx r=r++ds:=by
 induction ds with
 | nil=>intro r _ _;simp
 | cons d ds ih =>
  intro r h1 h2
  rw [List.foldl_cons,show Hx r d=r++[d] by unfold Hx;rw [if_neg (h1 d (.head _))]]
  rw [Bx] at h2
  rw [ih (r++[d]) (λe he hr=>?_) h2.2]
  ·simp
  ·rcases AE.mp hr with hr|hr
   ·exact h1 e (.tail _ he) hr
   ·rw [Ao.mp hr] at he
    exact h2.1 he
theorem LL {ds:List D}(h:ds.Nodup):KN ds=ds:=by
 unfold KN
 rw [P1 ds [] (λ_ _ h=>nomatch h) h]
 rfl
theorem RC {ds:List D}:(KN ds).length=ds.length ↔ ds.Nodup:=by
 constructor
 ·intro h
  refine ((RZ ds []).2 ?_).2
  rw [List.length_nil,Bs]
  exact h
 ·intro h
  rw [LL h]
end PV
local macro_rules(kind:=Lean.Parser.Tactic.simpAutoUnfold)|s=>do
 let l:=s[4]
 let n:=@Lean.mkNullNode
 let f:=λb (s:String)=>#[.node .none `Lean.Parser.Tactic.simpLemma #[n b,n #[],Lean.mkIdent s.toName],.atom .none ","]
 return .node .none `Lean.Parser.Tactic.simp #[.atom .none "simp",s[1],s[2],n #[.atom .none "only"],l.setArg 1 (n (("B5 Hb H0 J8 LU PC VT UR Yf Zn Y6 X0 Y2 X3 XZ YC XY z_C CV Z9 Fy Ea VF SA To Tf YT Zx YV Zu ZW Zo Qa Fw D3 QP Ze Xu Wk WV Ek ML Ss R0 RY PY ZU FD Ym Yx Zf XD XC VO FN Wr Xy E4 Wt Us YF XB Xn Zr ZT UA Z6 Ux YU X2 Vw VE Yk XQ Gn Lm X9 YS YB N5 RX WU Ws LI Wz Xt Ow XG XS HZ WH Xs Xw Xd NN Vh YO YK YJ Vt XN YM X4 YY YL Xc ZH ZL X7 Y4 Zb YN Wa Xq XF Vi W5 KO YA if_true Bu reduceIte AR Bool.true_eq_false List.set_cons_zero List.set_cons_succ AO List.map_nil List.length_cons List.length_nil Nat.reduceAdd Nat.reduceSub List.replicate_succ List.replicate_zero List.reduceReplicate List.cons_append List.nil_append Option.map_some Bool.not_true Bool.not_false List.getD_cons_zero List.getD_cons_succ Bs decide_true decide_false Bool.decide_eq_true Bool.true_and Bool.false_and Bool.true_or Bool.false_or Bool.or_false Bool.and_true String.reduceBEq".splitOn).foldr (λs a=>f #[] s++a) (f #[.node .none `Lean.Parser.Tactic.simpPre #[.atom .none "↓"]] "reduceIte"++l[1].getArgs))),s[5]]
namespace PG
open PySem L2 PV PyProof.Rows K1
variable {mu:Sto}
def sgB (c:Nat):Bool:=decide (c∈DB.cps.toList)
def sgs (x:Str):Bool:=x.cps.toList.all sgB
def wB (x:Str):Bool:=(decide (1≤(x.length:Int))&&decide ((x.length:Int)≤8))&&sgs x
def GP:D->Bool
 | .str x=>wB x
 | _=>false
theorem D5 {x:Str}:wB x=true ↔ IsW x:=by
 unfold wB sgs
 simp only [Ae,Ak,Ar,sgB]
 constructor
 ·exact λ⟨⟨h1,h2⟩,h3⟩=>⟨by ext,by ext,h3⟩
 ·exact λh=>⟨⟨by have:=h.lo;ext,by have:=h.hi;ext⟩,h.al⟩
theorem QM {f:D->Bool}{x:Str}(h:∀ c,f (.str ⟨#[c]⟩)=sgB c):(chars x).all f=sgs x:=by
 unfold chars sgs
 rw [List.all_map]
 congr 1
 funext c
 exact h c
theorem T8 (d:D)(h:nR d=true):EV [d] mu=some (.bl (GP d),mu):=by
 cases d with
 | ref k=>cases h
 | str x =>
  have al:=MU (m0:=mu) (tg:=gNm 0) (el:=B2 inG (BX 0) (eC (.str "abcdefghijklmnopqrstuvwxyz0123456789"))) (ro:=[none]) (mu:=mu) (λd=>match d with|.str y=>sgs y|_=>false) (chars x) (λd hd=>by
   unfold chars at hd
   obtain ⟨c,_,rfl⟩:=Aw.mp hd
   refine ⟨_,rfl,?_⟩
   have:=VB (mu:=mu) (x:=DB) (n:=c)
   simp [sgB,sgs] at this ⊢
   exact this)
  have sg:=QM (x:=x) (f:=(λd=>match d with|.str y=>sgs y|_=>false)) (λc=>by simp [sgs])
  have W:GP (.str x)=((decide (1≤(x.length:Int))&&decide ((x.length:Int)≤8))&&sgs x):=rfl
  rw [W]
  simp! [EV,Hk]
  cases h1:(decide (1≤(x.length:Int))&&decide ((x.length:Int)≤8))
  ·simp! []
  ·simp! [al,sg]
 | _=>simp! [EV,Hk,GP]
noncomputable def GS (lo hi:Int):D->Bool
 | .tup ds=>decide (lo≤(ds.length:Int))&&decide ((ds.length:Int)≤hi)
 | _=>false
def Zs:D->Bool
 | .tup ds=>ds.all GP
 | _=>false
theorem PR {ds:List D}(h:ds.all GP=true):∃ ss:List Str,ds=ss.map D.str∧∀ x∈ss,IsW x:=by
 induction ds with
 | nil=>exact ⟨[],rfl,λ_ h=>nomatch h⟩
 | cons d ds ih =>
  rw [List.all_cons,Ae] at h
  obtain ⟨ss,rfl,hs⟩:=ih h.2
  cases d with
  | str x =>
   refine ⟨x::ss,rfl,λy hy=>?_⟩
   rcases Ah.mp hy with rfl|hy
   ·exact D5.mp h.1
   ·exact hs y hy
  | _=>simp [GP] at h
def HK (d:D):Bool:=GS 1 4 d&&(Zs d&&match d with|.tup ds=>ndB ds|_=>false)
def MC:D->Bool
 | .tup [a,b]=>GP a&&HK b
 | _=>false
theorem QS {d:D}(h:GS 2 2 d=true):∃ a b,d=.tup [a,b]:=by
 cases d with
 | tup ds =>
  simp only [GS,Ae,Ak] at h
  match ds,h with
  | [a,b],_=>exact ⟨a,b,rfl⟩
  | [],h=>simp at h
  | [a],h=>simp at h
  | a::b::c::ds,h=>simp at h;ext
 | _=>simp [GS] at h
noncomputable def Jg:D->D
 | .tup (a::_)=>a
 | _=>.non
def Vs:D->Bool
 | .tup ds=>(GS 1 4 (.tup ds)&&ds.all MC)&&ndB (ds.map Jg)
 | _=>false
noncomputable def Y1:D->Int
 | .tup ds=>ds.length
 | _=>0
def Xa (k c:D):Bool:=match k with
 | .int i=>decide (1≤i)&&decide (i≤Y1 c)
 | _=>false
def Lu:D->Bool
 | .tup [n,c,k]=>(GP n&&Vs c)&&Xa k c
 | _=>false
noncomputable def ltS:D->D->Bool
 | .str x,.str y=>decide (x.cps.toList<y.cps.toList)
 | _,_=>false
def Kh (ds:List D):Bool:=(ds.zip ds.tail).all λp=>ltS p.1 p.2
def Tp:D->Bool
 | .tup ds=>(GS 1 4 (.tup ds)&&ds.all Lu)&&Kh (ds.map Jg)
 | _=>false
end PG
namespace PV
open PySem L2 PyProof.Rows K1
theorem K3 (ss:List Str):Fe (ss.map D.str)=true:=by
 induction ss with
 | nil=>rfl
 | cons x xs ih=>simp [Fe,CY,ih]
theorem Hj {ss:List Str}:(ss.map D.str).Nodup ↔ ss.Nodup:=by
 rw [AV,AV,List.pairwise_map]
 constructor
 ·exact λh=>h.imp λn e=>n (by rw [e])
 ·exact λh=>h.imp λn e=>n (by injection e)
end PV
namespace PG
open PySem L2 PV PyProof.Rows K1
variable {mu:Sto}
end PG
namespace PV
open PySem L2 PyProof.Rows K1
theorem Mp (ss:List Str):GZ (ss.map D.str)=true:=by
 induction ss with
 | nil=>rfl
 | cons x xs ih=>simp [GZ,hsh,ih]
theorem J2 (ss:List Str):PyData.depthAll (CC (ss.map D.str))≤1:=by
 induction ss with
 | nil=>simp [CC,PyData.depthAll]
 | cons x xs ih=>simp [CC,toPy,PyData.depthAll,PyData.depth];ext
theorem OH (x y:Str):ltT (.str x) (.str y)=decide (x.cps.toList<y.cps.toList):=by
 unfold ltT
 rw [show CO (.str x) (.str y)=GR x y from rfl,Bool.eq_iff_iff,beq_iff_eq,FI,Ak]
theorem Pb {ss:List Str}(h:ss.length<64):Ej (ss.map D.str)=true:=by
 unfold Ej
 simp only [Ae,Ak,Ac,Ar,Bool.or_eq_true,KA]
 refine ⟨⟨⟨by ext,λd hd=>?_⟩,λd hd e he=>?_⟩,.inl λd hd=>?_⟩
 ·obtain ⟨x,_,rfl⟩:=Aw.mp hd
  rfl
 ·obtain ⟨x,_,rfl⟩:=Aw.mp hd
  obtain ⟨y,_,rfl⟩:=Aw.mp he
  rfl
 ·obtain ⟨x,_,rfl⟩:=Aw.mp hd
  rfl
theorem V4 {ss:List Str}{mu:Sto}(h:ss.length<64):L6 [.lst (ss.map D.str)] mu=some (.lst (Fz (ss.map D.str)),mu):=by
 simp only [L6,Fh,QV,Hy,Dg,Pb h,if_true]
theorem UZ {ss:List Str}{mu:Sto}(h:ss.length<64):NM [.lst (ss.map D.str)] mu=some (.lst (Fz (ss.map D.str)),mu):=by
 unfold NM
 rw [V4 h]
theorem K2 {es:List D}{ss:List Str}(h:es.Perm (ss.map D.str)):∃ ts:List Str,es=ts.map D.str∧ts.Perm ss:=by
 have al:∀ d∈es,∃ x,d=D.str x:=λd hd=>by
  obtain ⟨x,_,e⟩:=Aw.mp (h.mem_iff.mp hd)
  exact ⟨x,e.symm⟩
 have:∃ ts:List Str,es=ts.map D.str:=by
  clear h
  induction es with
  | nil=>exact ⟨[],rfl⟩
  | cons d es ih =>
   obtain ⟨x,rfl⟩:=al d (.head _)
   obtain ⟨ts,rfl⟩:=ih λd hd=>al d (.tail _ hd)
   exact ⟨x::ts,rfl⟩
 obtain ⟨ts,rfl⟩:=this
 refine ⟨ts,rfl,?_⟩
 have:=h.map (λd=>match d with|.str x=>x|_=>(⟨#[]⟩:Str))
 simpa [AQ,Function.comp_def] using this
end PV
namespace PG
open PySem L2 PV PyProof.Rows K1
variable {mu:Sto}
theorem NU:∀ (ss:List Str),Kh (ss.map D.str)=true ↔ ss.Pairwise λx y=>x.cps.toList<y.cps.toList
 | []=>by simp [Kh]
 | [x]=>by simp [Kh]
 | x::y::ss=>by
  have ih:=NU (y::ss)
  have e:Kh ((x::y::ss).map D.str)=(decide (x.cps.toList<y.cps.toList)&&Kh ((y::ss).map D.str)):=rfl
  rw [e,Ae,ih,Ak]
  constructor
  ·intro ⟨h1,h2⟩
   refine List.pairwise_cons.mpr ⟨λz hz=>?_,h2⟩
   rcases Ah.mp hz with rfl|hz
   ·exact h1
   ·exact List.lt_trans h1 ((List.pairwise_cons.mp h2).1 z hz)
  ·exact λh=>⟨(List.pairwise_cons.mp h).1 y (by simp),(List.pairwise_cons.mp h).2⟩
theorem S5 {ss:List Str}(h:ss.Pairwise λx y=>x.cps.toList<y.cps.toList):ss.Nodup:=by
 rw [AV]
 exact h.imp λl e=>by subst e;exact List.lt_irrefl _ l
theorem Up (ss:List Str):decide (ss.map D.str=Fz (KN (ss.map D.str)))=Kh (ss.map D.str):=by
 have ord:∀ (ts:List Str),∀ d∈ts.map D.str,FZ d=true:=λts d hd=>by
  obtain ⟨x,_,rfl⟩:=Aw.mp hd
  rfl
 rw [Bool.eq_iff_iff,Ak,NU]
 constructor
 ·intro h
  have p:=DF (KN (ss.map D.str))
  rw [← h] at p
  have nd:=RC.mp p.length_eq.symm
  have up:=LM (KN (ss.map D.str))
  rw [← h,List.pairwise_map] at up
  have ne:=AV.mp (Hj.mp nd)
  refine (up.and ne).imp λ{x y} ⟨l,n⟩=>?_
  have l':¬ y.cps.toList<x.cps.toList:=by
   unfold leT at l
   rw [OH] at l
   simpa using l
  have c:=IB x y
  cases q:GR x y with
  | lt=>exact FI.mp q
  | eq=>exact (n (Ic.mp q)).elim
  | gt=>exact (l' (Ji.mp q)).elim
 ·intro h
  rw [LL (Hj.mpr (S5 h))]
  refine Jm (ord ss) (List.Perm.refl _) ?_
  rw [List.pairwise_map]
  refine h.imp λ{x y} l=>?_
  unfold leT
  rw [OH]
  have:=List.lt_asymm l
  simp [this]
end PG
namespace PV
open PySem L2 PyProof.Rows K1
variable {mu:Sto}
theorem Nz {i j:Int}(h:CMul i j):Fu (.int i) (.int j) mu=some (.int (i*j),mu):=by
 unfold Fu
 dsimp only
 rw [if_pos h]
theorem Sq {i j:Int}(h:K7 i j):JS (.int i) (.int j) mu=some (.int (i / j),mu):=by
 unfold JS
 dsimp only
 rw [if_pos h]
theorem Se {o i:Ex}{d:D}{ro:Ro}:gIx o i d ro mu=bM (o ro mu) λx m1=>bM (i ro m1) λe m2=>bM (putG x e d m2) λ_ m3=>some (ro,m3):=rfl
theorem VD {k:Nat}{ds:List D}{v:D}{j:Nat}(h:mu[k]? = some (.lst ds))(hj:j<ds.length):putG (.ref k) (.int j) v mu=some ((),mu.set k (.lst (ds.set j v))):=by
 have e:ixN ds.length (j:Int)=some j:=by
  unfold ixN
  rw [if_pos (by ext),if_pos (by ext),Int.toNat_natCast]
 simp only [putG,h,Tq,e]
theorem O2 {k:Nat}{ds:List D}{d:D}{j:Nat}(h:mu[k]? = some (.lst ds))(hd:ds[j]? = some d):ixG (.ref k) (.int j) mu=some (d,mu):=by
 have:=(Af.mp hd).1
 have e:ixN ds.length (j:Int)=some j:=by
  unfold ixN
  rw [if_pos (by ext),if_pos (by ext),Int.toNat_natCast]
 have:ixD (.ref k) (.int j) mu=some (d,mu):=by
  simp only [ixD,Dg,h,atI,e,Option.bind_some,hd,Option.map_some]
 unfold ixG
 rw [this]
theorem F5 {k:Nat}{o o':MO}(h:mu[k]? = some o):(mu.set k o')[k]? = some o':=by
 have:=(Af.mp h).1
 simp [this]
def HandOk (mu:Sto)(k n:Nat):Prop:=∃ a b c:Int,mu[k]? = some (.lst [.int a,.int b,.int c])∧(-(2 ^ 63)<b∧b<2 ^ 63)∧0≤c∧c+n<2 ^ 40
theorem HandOk.mono {mu:Sto}{k n n':Nat}(h:HandOk mu k n)(l:n'≤n):HandOk mu k n':=by
 obtain ⟨a,b,c,h1,h2,h3,h4⟩:=h
 exact ⟨a,b,c,h1,h2,h3,by ext⟩
theorem HandOk.lt {k n:Nat}(h:HandOk mu k n):k<mu.length:=by
 obtain ⟨a,b,c,h1,_⟩:=h
 exact (Af.mp h1).1
def Flat (mu:Sto):Prop:=∀ (j:Nat) (o:MO),mu[j]? = some o->Mj mu.length o=true
structure Fr (k n:Nat) (mu mu':Sto):Prop where
 hand:HandOk mu' k n
 keep:∀ j,j≠k->mu'[j]? = mu[j]?
 len:mu'.length=mu.length
theorem Fr.refl {k n:Nat}{mu:Sto}(h:HandOk mu k n):Fr k n mu mu:=⟨h,λ_ _=>rfl,rfl⟩
theorem Fr.trans {k n n':Nat}{a b c:Sto}(x:Fr k n a b)(y:Fr k n' b c):Fr k n' a c:=⟨y.hand,λj hk=>(y.keep j hk).trans (x.keep j hk),y.len.trans x.len⟩
theorem Fr.mono {k n n':Nat}{a b:Sto}(x:Fr k n a b)(l:n'≤n):Fr k n' a b:=⟨x.hand.mono l,x.keep,x.len⟩
theorem Fr.flat {k n:Nat}{a b:Sto}(x:Fr k n a b)(h:Flat a):Flat b:=by
 intro j o e
 by_cases c:j=k
 ·subst c
  obtain ⟨_,_,_,h1,_⟩:=x.hand
  rw [h1] at e
  cases e
  rfl
 ·rw [x.keep j c] at e
  rw [x.len]
  exact h j o e
def Run (r:Rs D)(k n:Nat)(mu:Sto)(P:D->Prop):Prop:=∃ d mu',r=some (d,mu')∧Fr k n mu mu'∧P d
theorem Xm {ds:List D}{t:Int}(h0:0≤t)(h1:t<ds.length):∃ d,d∈ds∧ds[t.toNat]? = some d:=by
 have h:t.toNat<ds.length:=by ext
 exact ⟨ds[t.toNat],BS h,Ay h⟩
theorem MH {ds:List D}{d:D}{t:Int}(s:D)(hs:s=.lst ds∨s=.tup ds)(h0:0≤t)(h:ds[t.toNat]? = some d):ixG s (.int t) mu=some (d,mu):=by
 have:=NQ (mu:=mu) s hs h
 rwa [Int.toNat_of_nonneg h0] at this
end PV
namespace PG
open PySem L2 PV PyProof.Rows K1
variable {mu:Sto}
theorem CS {k n:Nat}{m:Int}(h:HandOk mu k (n+1))(m0:0<m)(m1:m<1073741824):Run (B6 [.ref k,.int m] mu) k n mu λd=>∃ t:Int,d=.int t∧0≤t∧t<m:=by
 obtain ⟨a,b,c,h1,h2,h3,h4⟩:=h
 have hk:k<mu.length:=(Af.mp h1).1
 have fr:∀ a' c':Int,0≤c'->c'≤c+1->Fr k n mu (mu.set k (.lst [.int a',.int b,.int c'])):=λa' c' z1 z2=>⟨⟨a',b,c',F5 h1,h2,z1,by ext⟩,λj hj=>by rw [AJ (Ne.symm hj)],by simp⟩
 have i0:ixG (.ref k) (.int 0) mu=some (.int a,mu):=O2 (j:=0) h1 rfl
 by_cases ha:0<a
 ·refine ⟨.int (a % m),_,?_,fr (a / m) c h3 (by ext),a % m,rfl,Bf _ (by ext),A6 _ m0⟩
  have cd:K7 a m:=⟨m0,m1⟩
  have p0:∀ v,putG (.ref k) (.int 0) v mu=some ((),mu.set k (.lst [v,.int b,.int c])):=λv=>VD (j:=0) h1 (by simp)
  have ha':decide (0<a)=true:=by simp [ha]
  simp! [B6,GJ,i0,ha',GK m0,Sq cd,Se,p0]
 ·refine ⟨.int (((b*(48271+2*(c+1)*(c+1)+65537*(c+1)) % 2305843009213693921*(b*(48271+2*(c+1)*(c+1)+65537*(c+1)) % 2305843009213693921 % 1000003+(c+1)*99991+11) % 2305843009213693907) / 97+(b*(48271+2*(c+1)*(c+1)+65537*(c+1)) % 2305843009213693921*(b*(48271+2*(c+1)*(c+1)+65537*(c+1)) % 2305843009213693921 % 1000003+(c+1)*99991+11) % 2305843009213693907) / 1000033) % m),_,?_,fr a (c+1) (by ext) (by ext),_,rfl,Bf _ (by ext),A6 _ m0⟩
  have hs:∀ o,(mu.set k o)[k]? = some o:=λo=>F5 h1
  have c1:CMul 2 (c+1):=.inl ⟨by decide,by decide⟩
  have c2:CMul (2*(c+1)) (c+1):=.inl ⟨by ext,by ext⟩
  have c3:CMul 65537 (c+1):=.inl ⟨by decide,by decide⟩
  have c4:∀ z,CMul b z:=λz=>.inl ⟨by ext,by ext⟩
  have c5:CMul (c+1) 99991:=.inr ⟨by decide,by decide⟩
  have c6:∀ y z:Int,CMul (y % 2305843009213693921) z:=λy z=>.inl ⟨by ext,by ext⟩
  have c7:∀ y:Int,K7 y 97:=λy=>⟨by decide,by decide⟩
  have c8:∀ y:Int,K7 y 1000033:=λy=>⟨by decide,by decide⟩
  have i2:ixG (.ref k) (.int 2) mu=some (.int c,mu):=O2 (j:=2) h1 rfl
  have p2:∀ v,putG (.ref k) (.int 2) v mu=some ((),mu.set k (.lst [.int a,.int b,v])):=λv=>VD (j:=2) h1 (by simp)
  have j1:∀ v,ixG (.ref k) (.int 1) (mu.set k (.lst [.int a,.int b,v]))=some (.int b,mu.set k (.lst [.int a,.int b,v])):=λv=>O2 (j:=1) (hs _) rfl
  have j2:∀ v,ixG (.ref k) (.int 2) (mu.set k (.lst [.int a,.int b,v]))=some (v,mu.set k (.lst [.int a,.int b,v])):=λv=>O2 (j:=2) (hs _) rfl
  have ha':decide (0<a)=false:=by simp [ha]
  simp! [B6,GJ,i0,ha',GK,GK m0,Sq,Nz,Se,i2,p2,j1,j2,c1,c2,c3,c4,c5,c6,c7,c8,Int.reduceLT]
theorem pick_run {k n:Nat}{s:D}{ds:List D}(hs:s=.lst ds∨s=.tup ds)(hn:ds≠[])(hl:ds.length<1073741824)(h:HandOk mu k (n+1)):Run (Cg [.ref k,s] mu) k n mu λd=>d∈ds:=by
 have pos:0<ds.length:=List.length_pos_iff.mpr hn
 obtain ⟨_,mu',e,fr,t,rfl,t0,t1⟩:=CS (m:=ds.length) h (by ext) (by ext)
 obtain ⟨d,hd,ed⟩:=Xm t0 t1
 refine ⟨d,mu',?_,fr,hd⟩
 have ix:=MH (mu:=mu') s hs t0 ed
 rcases hs with rfl|rfl
 ·simp! [Cg,GD,e,ix]
 ·simp! [Cg,GD,e,ix]
theorem MZ:∀ c∈DB.cps.toList,decide (c<0x110000)=true:=by symm
theorem HN {x:Str}(h:∀ c∈x.cps.toList,c∈DB.cps.toList):PyData.strOk x=true:=by
 unfold PyData.strOk
 rw [← Array.all_toList,Ar]
 exact λc hc=>MZ c (h c hc)
theorem LB {x y:Str}(h:x.length+y.length≤sizeLine):Ck (.str x) (.str y) mu=some (.str (x++y),mu):=by
 simp only [Ck,h,if_true]
theorem Vp {x:Str}{lo hi:Option Int}(h:PyData.strOk (Txt.slice x lo hi)=true):slD (.str x) lo hi mu=some (.str (Txt.slice x lo hi),mu):=by
 simp only [slD,h,if_true]
theorem IF {k n:Nat}{many:Int}(m0:0≤many)(m6:many≤6)(h:HandOk mu k (n+5)):Run (D7 [.ref k,.int many,.int 8] mu) k n mu λd=>∃ ws:List Str,d=.lst (ws.map D.str)∧(ws.length:Int)=many∧ws.Nodup∧∀ x∈ws,IsW x:=by
 obtain ⟨_,mu1,e1,f1,fi,rfl,a0,a1⟩:=CS (m:=36) (n:=n+4) h (by decide) (by decide)
 obtain ⟨st,mu2,e2,f2,hst⟩:=pick_run (s:=.lst [.int 1,.int 5,.int 7,.int 11,.int 13,.int 17]) (n:=n+3) (.inl rfl) (by simp) (by decide) f1.hand
 obtain ⟨_,mu3,e3,f3,si,rfl,b0,b1⟩:=CS (m:=36) (n:=n+2) f2.hand (by decide) (by decide)
 obtain ⟨mv,mu4,e4,f4,hmv⟩:=pick_run (s:=.lst [.int 0,.int 1,.int 0,.int 2,.int 7]) (n:=n+1) (.inl rfl) (by simp) (by decide) f3.hand
 obtain ⟨s',rfl,hs⟩:∃ s':Int,st=.int s'∧J0 s':=by
  simp only [Ah,Au,AY] at hst
  unfold J0
  rcases hst with rfl|rfl|rfl|rfl|rfl|rfl<;>exact ⟨_,rfl,by decide⟩
 obtain ⟨v,rfl,v0,v7⟩:∃ v:Int,mv=.int v∧0≤v∧v≤7:=by
  simp only [Ah,Au,AY] at hmv
  rcases hmv with rfl|rfl|rfl|rfl|rfl<;>exact ⟨_,rfl,by decide,by decide⟩
 have hmin:M0 [.int 7,.int v] mu4=some (.int v,mu4):=by
  have:(if v<7 then v else 7)=v:=by split<;>ext
  simp only [M0,PV.ints2,Option.map_some,this]
 obtain ⟨ch,hc,ix3⟩:∃ ch,ch∈DB.cps.toList∧ixG (.str (Str.ofString "abcdefghijklmnopqrstuvwxyz0123456789")) (.int si) mu3=some (.str ⟨#[ch]⟩,mu3):=⟨_,Al (G5 b0 b1),MT b0 b1⟩
 have len:(Txt.mul ⟨#[ch]⟩ v).length=v.toNat:=by
  have:=congrArg List.length (mul_list (ch) v v0 v7)
  simpa [Str.length] using this
 generalize hst:Txt.mul ⟨#[ch]⟩ v=stem at len
 have stl:stem.cps.toList=List.replicate v.toNat (ch):=by rw [← hst];exact mul_list _ v v0 v7
 have stAll:∀ x∈stem.cps.toList,x=ch:=λx hx=>by rw [stl] at hx;exact (List.mem_replicate.mp hx).2
 obtain ⟨_,mu5,e5,f5,at',rfl,c0,c1⟩:=CS (m:=(stem.length:Int)+1) (n:=n) f4.hand (by ext) (by ext)
 have at2:at'≤stem.length:=by ext
 have sl1:=SW (x:=stem) c0 at2
 have sl2:=NJ (x:=stem) c0 at2
 have allA:∀ x∈(Txt.slice stem none (some at')).cps.toList,x=ch:=λx hx=>stAll x (by rw [sl1] at hx;exact List.mem_of_mem_take hx)
 have allB:∀ x∈(Txt.slice stem (some at') none).cps.toList,x=ch:=λx hx=>stAll x (by rw [sl2] at hx;exact List.mem_of_mem_drop hx)
 have lens:(Txt.slice stem none (some at')).length+(Txt.slice stem (some at') none).length≤7:=by
  have l1:=congrArg List.length sl1
  have l2:=congrArg List.length sl2
  simp only [Array.length_toList,AZ,BR] at l1 l2
  have ls:stem.cps.size=v.toNat:=len
  unfold Str.length
  ext
 refine ⟨.lst ((MD (Txt.slice stem none (some at')) (Txt.slice stem (some at') none) fi s' many.toNat).map D.str),mu5,?_,(((f1.trans f2).trans f3).trans f4).trans f5,_,rfl,by simp [MD];ext,TZ hs (by ext),λx hx=>?_⟩
 ·have mo:MulOk ⟨#[ch]⟩ v:=Yq _ v v0 v7
  have okm:PyData.strOk stem=true:=HN λc h=>by rw [stAll c h];exact hc
  have okA:PyData.strOk (Txt.slice stem none (some at'))=true:=HN λc h=>by rw [allA c h];exact hc
  have okB:PyData.strOk (Txt.slice stem (some at') none)=true:=HN λc h=>by rw [allB c h];exact hc
  have zl:stem.length≤sizeLine:=by rw [As];ext
  have lc:EM none mu5 (gNm 0) tY (B2 Ck (B2 Ck (eSl (BX 1) pNo (De (BX 2))) (B2 ixG (BX 3) (B2 Ew (B2 Ck (BX 4) (B2 Fu (BX 5) (BX 0))) (eC (.int 36))))) (eSl (BX 1) (De (BX 2)) pNo)) [none,some (.str stem),some (.int at'),some (.str DB),some (.int fi),some (.int s')] (Ec 0 many.toNat) mu5=some ((MD (Txt.slice stem none (some at')) (Txt.slice stem (some at') none) fi s' many.toNat).map D.str,mu5):=by
   have ew:(MD (Txt.slice stem none (some at')) (Txt.slice stem (some at') none) fi s' many.toNat).map D.str=(Ec 0 many.toNat).map λd=>match d with|.int i=>.str (wrd (Txt.slice stem none (some at')) (Txt.slice stem (some at') none) fi s' i.toNat)|_=>.non:=by
    unfold MD Ec
    rw [AQ,AQ]
    refine List.map_congr_left λj _=>?_
    simp
   rw [ew]
   refine G3 _ _ λd hd=>⟨_,rfl,?_⟩
   unfold Ec at hd
   obtain ⟨j,hj,rfl⟩:=Aw.mp hd
   have i0:=Bf (fi+s'*(j:Int)) (show (36:Int)≠0 by decide)
   have i1:=A6 (fi+s'*(j:Int)) (show (0:Int)<36 by decide)
   have ix:=MT (mu:=mu5) i0 i1
   have cm:CMul s' (j:Int):=.inl (by rcases hs with rfl|rfl|rfl|rfl|rfl|rfl<;>exact ⟨by decide,by decide⟩)
   have z1:(Txt.slice stem none (some at')).length+(⟨#[DB.cps.toList.getD ((fi+s'*(j:Int)) % 36).toNat 0]⟩:Str).length≤sizeLine:=by
    rw [As,show (⟨#[DB.cps.toList.getD ((fi+s'*(j:Int)) % 36).toNat 0]⟩:Str).length=1 from rfl]
    ext
   have z2:(Txt.slice stem none (some at')++(⟨#[DB.cps.toList.getD ((fi+s'*(j:Int)) % 36).toNat 0]⟩:Str)).length+(Txt.slice stem (some at') none).length≤sizeLine:=by
    rw [As,PySem.Str.length_append,show (⟨#[DB.cps.toList.getD ((fi+s'*(j:Int)) % 36).toNat 0]⟩:Str).length=1 from rfl]
    ext
   simp! [Vp okA,Vp okB,Nz cm,GK,Int.reduceLT,Int.zero_add,ix,LB z1,LB z2,Int.toNat_natCast]
   rfl
  have mm:Fu (.str ⟨#[ch]⟩) (.int v) mu4=some (.str stem,mu4):=by
   unfold Fu
   dsimp only
   rw [hst,if_pos ⟨mo,zl,okm⟩]
  have rg:=Kf (mu:=mu5) (ro:=[some (.ref k),some (.int many),some (.int 8),some (.str DB),some (.int fi),some (.int s'),some (.str stem),some (.int at')]) (r:=BW (BX 1) B0) (n:=many) (m:=mu5) rfl (by ext) (by rw [As];ext)
  have rg':iRg (BW (BX 1) B0) [some (.ref k),some (.int many),some (.int 8),some (.str (Str.ofString "abcdefghijklmnopqrstuvwxyz0123456789")),some (.int fi),some (.int s'),some (.str stem),some (.int at')] mu5=some ((Ec 0 many.toNat,none),mu5):=rg
  simp! [D7,G8,e1,e2,e3,ix3,Int.reduceSub,e4,hmin,mm,e5,rg',lc]
 ·unfold MD at hx
  obtain ⟨j,_,rfl⟩:=Aw.mp hx
  exact Uz hc allA allB lens
theorem SX {k n:Nat}{ns:List Int}(hk:k<64)(hn:n<2 ^ 39):∃ o,Eu [.lst (ns.map D.int),.int k] mu=some (.ref mu.length,mu++[o])∧HandOk (mu++[o]) mu.length n:=by
 have fin:∀ c:Int,∃ a b:Int,sRt (G2 (BW (B2 Fu (BX 2) (B1 RU (BW (B2 geD (BX 2) (B2 QE (eC (.int 10)) (eC (.int 18)))) B0))) (BW (B2 Ck (B2 Ck (B2 Ew (BX 2) (eC (.int 2305843009213693951))) (B2 Fu (eC (.int 7919)) (BX 1))) (eC (.int 3))) (BW (eC (.int 0)) B0)))) [some (.lst (ns.map D.int)),some (.int k),some (.int c)] mu=some ((.rt (.ref mu.length),[some (.lst (ns.map D.int)),some (.int k),some (.int c)]),mu++[.lst [.int a,.int b,.int 0]])∧(-(2 ^ 63)<b∧b<2 ^ 63):=by
  intro c
  refine ⟨c*(if (1000000000000000000:Int)≤c then 1 else 0),c % 2305843009213693951+7919*(k:Int)+3,?_,?_⟩
  ·have p1:Pe 10 18:=⟨by decide,by decide,by decide⟩
   have p3:CMul 7919 (k:Int):=.inl ⟨by decide,by decide⟩
   have p4:CMul c (if (1000000000000000000:Int)≤c then 1 else 0):=.inr (by split<;>exact ⟨by decide,by decide⟩)
   simp [sRt,G2,BW,B0,B2,BX,B1,eC,bM,geD,R1,QE,p1,RU,intOf,Fu,p3,Ck,Ew,p4]
  ·have:=Bf c (show (2305843009213693951:Int)≠0 by decide)
   have:=A6 c (show (0:Int)<2305843009213693951 by decide)
   ext
 have done:∀ (a b:Int),(-(2 ^ 63)<b∧b<2 ^ 63)->HandOk (mu++[.lst [.int a,.int b,.int 0]]) mu.length n:=λa b hb=>⟨a,b,0,by simp,hb,Int.le_refl _,by ext⟩
 by_cases c:k<ns.length
 ·have e:ixG (.lst (ns.map D.int)) (.int k) mu=some (.int ns[k],mu):=NQ _ (.inl rfl) (by simp [c])
  obtain ⟨a,b,e2,hb⟩:=fin ns[k]
  refine ⟨_,?_,done a b hb⟩
  have c':decide ((k:Int)<((ns.map D.int).length:Int))=true:=by simp [c]
  generalize hR:sRt (G2 _)=R at e2
  simp only [Eu,GC,hR]
  simp! [c',e,e2]
 ·obtain ⟨a,b,e2,hb⟩:=fin 0
  refine ⟨_,?_,done a b hb⟩
  have c':decide ((k:Int)<((ns.map D.int).length:Int))=false:=by simp [c]
  generalize hR:sRt (G2 _)=R at e2
  simp only [Eu,GC,hR]
  simp! [c',e2]
end PG
namespace PV
open PySem L2 PyProof.Rows K1
variable {mu:Sto}
theorem E7 {m0:Sto}{tg:Gx}{body:Sx}(Inv:Nat->Ro->Sto->Prop):∀ (ds:List D) (i:Nat) (ro:Ro) (mu:Sto),Inv i ro mu->(∀ j d ro mu,ds[j]? = some d->Inv (i+j) ro mu->∃ ro1 m1 ro2 m2,tg d ro mu=some (ro1,m1)∧body ro1 m1=some ((.nx,ro2),m2)∧Inv (i+j+1) ro2 m2) ->
  ∃ ro' mu',EH none m0 tg body ds ro mu=some ((.nx,ro'),mu')∧Inv (i+ds.length) ro' mu'
 | [],i,ro,mu,h,_=>⟨ro,mu,rfl,h⟩
 | d::ds,i,ro,mu,h,st=>by
  obtain ⟨ro1,m1,ro2,m2,e1,e2,h2⟩:=st 0 d ro mu rfl h
  obtain ⟨ro',mu',e3,h3⟩:=E7 (m0:=m0) (tg:=tg) (body:=body) Inv ds (i+1) ro2 m2 h2 λj d' ro mu ed hi=>by
   have:=st (j+1) d' ro mu (by simpa using ed) (by rw [show i+(j+1)=i+1+j by ext];exact hi)
   rw [show i+(j+1)+1=i+1+j+1 by ext] at this
   exact this
  refine ⟨ro',mu',?_,by rw [List.length_cons,show i+(ds.length+1)=i+1+ds.length by ext];exact h3⟩
  unfold EH
  rw [e1,CA,e2,CA]
  dsimp only
  rw [D9,if_pos (show gOk none m0 m2 from True.intro),e3]
theorem Hf {n j:Nat}{d:D}(h:(Ec 0 n)[j]? = some d):d=.int j∧j<n:=by
 unfold Ec at h
 rw [Ap] at h
 cases q:(List.range n)[j]? with
 | none=>rw [q] at h;cases h
 | some k =>
  rw [q] at h
  obtain ⟨hj,e⟩:=Af.mp q
  rw [BM] at hj
  rw [List.getElem_range] at e
  subst e
  exact ⟨by simpa using h.symm,hj⟩
theorem Fi (n:Nat):(Ec 0 n).length=n:=by simp [Ec]
theorem append_at {mu':Sto}{r:Nat}{ds ds0:List D}{y:D}(h0:mu[r]? = some (.lst ds0))(h:mu'[r]? = some (.lst ds))(hl:ds.length<sizeLine){ro:Ro}{i:Nat}{e:Ex}(h1:BX i ro mu=some (.ref r,mu))(h2:e ro mu=some (y,mu')):Lb (BX i) (BW e B0) ro mu=some (.non,mu'.set r (.lst (ds++[y]))):=by
 have ok:EG mu (.ref r)=true:=by simp [EG,h0]
 have a1:Fh [y]=some y:=rfl
 simp only [Lb,h1,B5,ok,if_true,D3,Fw,h2,a1,h,hl]
theorem Ud {n x y:Int}(hn:0<n)(h:x % n=y % n)(h1:x-y<n)(h2:y-x<n):x=y:=by
 have e1:=Int.mul_ediv_add_emod x n
 have e2:=Int.mul_ediv_add_emod y n
 have e:n*(x / n-y / n)=x-y:=by rw [Int.mul_sub];ext
 rcases Int.lt_trichotomy (x / n-y / n) 0 with c|c|c
 ·have:n*(x / n-y / n)≤n*(-1):=Int.mul_le_mul_of_nonneg_left (by ext) (by ext)
  ext
 ·rw [c] at e
  ext
 ·have:n*1≤n*(x / n-y / n):=Int.mul_le_mul_of_nonneg_left (by ext) (by ext)
  ext
noncomputable def rot (ws:List Str)(t:Int)(s:Nat):List Str:=(List.range s).map λj:Nat=>ws.getD (((j:Int)+t) % (ws.length:Int)).toNat ⟨#[]⟩
theorem JJ {ws:List Str}(hw:0<ws.length)(x:Int):ws[(x % (ws.length:Int)).toNat]? = some (ws.getD (x % (ws.length:Int)).toNat ⟨#[]⟩):=by
 have h0:=Bf x (show (ws.length:Int)≠0 by ext)
 have h1:=A6 x (show (0:Int)<ws.length by ext)
 have h:(x % (ws.length:Int)).toNat<ws.length:=by ext
 rw [AL,Ay h]
 rfl
theorem OJ {ws:List Str}{t:Int}{s:Nat}(hw:0<ws.length):∀ x∈rot ws t s,x∈ws:=by
 intro x hx
 unfold rot at hx
 obtain ⟨j,_,rfl⟩:=Aw.mp hx
 exact Al (JJ hw _)
theorem RE {ws:List Str}{t:Int}{s:Nat}(hw:0<ws.length)(hd:ws.Nodup)(hs:s≤ws.length):(rot ws t s).Nodup:=by
 unfold rot
 rw [AV,List.pairwise_map]
 refine List.Pairwise.imp_of_mem (λ{a b} ha hb hne e=>hne ?_) (AV.mp List.nodup_range)
 rw [BC] at ha hb
 have a0:=Bf ((a:Int)+t) (show (ws.length:Int)≠0 by ext)
 have a1:=A6 ((a:Int)+t) (show (0:Int)<ws.length by ext)
 have b0:=Bf ((b:Int)+t) (show (ws.length:Int)≠0 by ext)
 have b1:=A6 ((b:Int)+t) (show (0:Int)<ws.length by ext)
 have e1:=JJ hw ((a:Int)+t)
 have e2:=JJ hw ((b:Int)+t)
 rw [e,← e2] at e1
 have l1:(((a:Int)+t) % (ws.length:Int)).toNat<ws.length:=by ext
 have l2:(((b:Int)+t) % (ws.length:Int)).toNat<ws.length:=by ext
 rw [Ay l1,Ay l2] at e1
 have h:=(List.getElem_inj hd).mp (AI e1)
 have:=Ud (n:=ws.length) (x:=(a:Int)+t) (y:=(b:Int)+t) (by ext) (by ext) (by ext) (by ext)
 ext
theorem LW (ws:List Str)(t:Int)(s:Nat):(rot ws t s).length=s:=by simp [rot]
theorem S3 {ws:List Str}(hw:0<ws.length)(x:Int):ixG (.lst (ws.map D.str)) (.int (x % (ws.length:Int))) mu=some (.str (ws.getD (x % (ws.length:Int)).toNat ⟨#[]⟩),mu):=by
 have h0:=Bf x (show (ws.length:Int)≠0 by ext)
 refine MH (ds:=ws.map D.str) _ (.inl rfl) h0 ?_
 rw [Ap,JJ hw]
 rfl
mutual
noncomputable def okD:D->Bool
 | .ref _=>false
 | .tup ds=>decide (ds.length≤1000)&&okL ds
 | .lst ds=>okL ds
 | .dct ks ds=>okL ks&&okL ds
 | .set ds=>okL ds
 | _=>true
noncomputable def okL:List D->Bool
 | []=>true
 | d::ds=>okD d&&okL ds
end
mutual
theorem Q5:∀ {d:D},okD d=true->EE 0 d=true
 | .non,_=>rfl
 | .bl _,_=>rfl
 | .int _,_=>rfl
 | .str _,_=>rfl
 | .ref k,e=>by simp [okD] at e
 | .tup ds,e=>by
  simp only [okD,Ae] at e
  simp only [EE]
  exact GI e.2
 | .lst ds,e=>by
  simp only [okD] at e
  simp only [EE]
  exact GI e
 | .set ds,e=>by
  simp only [okD] at e
  simp only [EE]
  exact GI e
 | .dct ks ds,e=>by
  simp only [okD,Ae] at e
  simp only [EE,Ae]
  exact ⟨GI e.1,GI e.2⟩
theorem GI:∀ {ds:List D},okL ds=true->FE 0 ds=true
 | [],_=>rfl
 | d::ds,e=>by
  simp only [okL,Ae] at e
  simp only [FE,Ae]
  exact ⟨Q5 e.1,GI e.2⟩
end
theorem Lk {ds:List D}:okL ds=true ↔ ∀ d∈ds,okD d=true:=by
 induction ds with
 | nil=>simp [okL]
 | cons d ds ih=>simp [okL,ih]
theorem Oo (ss:List Str):okL (ss.map D.str)=true:=by
 rw [Lk]
 intro d hd
 obtain ⟨x,_,rfl⟩:=Aw.mp hd
 rfl
end PV
namespace PG
open PySem L2 PV PyProof.Rows K1
variable {mu:Sto}
theorem Pf {ss:List Str}(h0:0<ss.length)(h4:ss.length≤4)(hd:ss.Nodup)(hw:∀ x∈ss,IsW x):HK (.tup (ss.map D.str))=true:=by
 have W:HK (.tup (ss.map D.str))=(GS 1 4 (.tup (ss.map D.str))&&((ss.map D.str).all GP&&ndB (ss.map D.str))):=rfl
 rw [W]
 simp only [Ae,GS,Ac,Ak,Ar,ndB]
 refine ⟨⟨by ext,by ext⟩,λd hd=>?_,Hj.mpr hd⟩
 obtain ⟨x,hx,rfl⟩:=Aw.mp hd
 exact D5.mpr (hw x hx)
def KL:Sx:=(Ce (Ci (B2 Ck (eC (.int 1)) (B1 B6 (BW (BX 0) (BW (BX 3) B0)))) (gNm 13)) (Ce (Ci (B1 B6 (BW (BX 0) (BW (eC (.int 2)) B0))) (gNm 14)) (Ce (Ci (B1 D8 (BW (eLC (iRg (BW (BX 13) B0)) 1 [6,14] (gNm 0) (tY) (B2 ixG (BX 1) (B2 Ew (B2 Ck (BX 0) (BX 2)) (B1 D0 (BW (BX 1) B0))))) B0)) (gNm 15)) (sEx (Lb (BX 11) (BW (Cq (BW (B2 ixG (BX 5) (B2 Ew (B2 Ck (BX 12) (BX 10)) (B1 D0 (BW (BX 5) B0)))) (BW (BX 15) B0))) B0))))))
noncomputable def inS (cs:List Str):D->Bool
 | .str x=>decide (x∈cs)
 | _=>false
theorem SG {k n R b c j:Nat}{sh:Int}{a nms fnd nm1 x9:D}{ws st:List Str}{cs:List D}{x13 x14 x15:Option D}(hc:1≤c)(hc4:c≤4)(hw:0<ws.length)(hs:st.length=c+1)(sd:st.Nodup)(sW:∀ x∈st,IsW x)(hR:mu[R]? = some (.lst cs))(hcs:cs.length<100)(hkR:R≠k)(h:HandOk mu k (n+2)) :
  ∃ y13 y14 y15 m' vs,KL [some (.ref k),some a,some (.int b),some (.int c),some nms,some (.lst (ws.map D.str)),some (.lst (st.map D.str)),some fnd,some nm1,some x9,some (.int sh),some (.ref R),some (.int j),x13,x14,x15] mu=some ((.nx,[some (.ref k),some a,some (.int b),some (.int c),some nms,some (.lst (ws.map D.str)),some (.lst (st.map D.str)),some fnd,some nm1,some x9,some (.int sh),some (.ref R),some (.int j),y13,y14,y15]),m') ∧
   m'[R]? = some (.lst (cs++[.tup [.str (ws.getD (((j:Int)+sh) % (ws.length:Int)).toNat ⟨#[]⟩),.tup vs]]))∧HK (.tup vs)=true∧(okD (.tup vs)=true∧vs.all (inS st)=true)∧HandOk m' k n∧(∀ i,i≠k->i≠R->m'[i]? = mu[i]?)∧m'.length=mu.length:=by
 obtain ⟨_,m1,e1,f1,t1,rfl,a0,a1⟩:=CS (m:=c) (n:=n+1) h (by ext) (by ext)
 obtain ⟨_,m2,e2,f2,t2,rfl,b0,b1⟩:=CS (m:=2) (n:=n) f1.hand (by decide) (by decide)
 have fr:=f1.trans f2
 have hR2:m2[R]? = some (.lst cs):=(fr.keep R hkR).trans hR
 have st0:0<st.length:=by ext
 obtain ⟨s,hs1⟩:∃ s:Nat,1+t1=(s:Int):=⟨(1+t1).toNat,by ext⟩
 have lc:EM none m2 (gNm 0) tY (B2 ixG (BX 1) (B2 Ew (B2 Ck (BX 0) (BX 2)) (B1 D0 (BW (BX 1) B0)))) [none,some (.lst (st.map D.str)),some (.int t2)] (Ec 0 s) m2=some ((rot st t2 s).map D.str,m2):=by
  have e:(rot st t2 s).map D.str=(Ec 0 s).map λd=>match d with|.int i=>.str (st.getD ((i+t2) % (st.length:Int)).toNat ⟨#[]⟩)|_=>.non:=by
   unfold rot Ec
   rw [AQ,AQ]
   refine List.map_congr_left λj _=>?_
   simp
  rw [e]
  refine G3 _ _ λd hd=>⟨_,rfl,?_⟩
  unfold Ec at hd
  obtain ⟨i,_,rfl⟩:=Aw.mp hd
  have l0:(0:Int)<(st.length:Int):=by ext
  simp! [Ac,GK l0,S3 st0,Int.zero_add]
 have rg:=Kf (mu:=m2) (ro:=[some (.ref k),some a,some (.int b),some (.int c),some nms,some (.lst (ws.map D.str)),some (.lst (st.map D.str)),some fnd,some nm1,some x9,some (.int sh),some (.ref R),some (.int j),some (.int s),some (.int t2),x15]) (r:=BW (BX 13) B0) (n:=s) (m:=m2) rfl (by ext) (by rw [As];ext)
 rw [Int.toNat_natCast] at rg
 have l6:(0:Int)<(ws.length:Int):=by ext
 have ap:=append_at (ro:=[some (.ref k),some a,some (.int b),some (.int c),some nms,some (.lst (ws.map D.str)),some (.lst (st.map D.str)),some fnd,some nm1,some x9,some (.int sh),some (.ref R),some (.int j),some (.int s),some (.int t2),some (.tup ((rot st t2 s).map D.str))]) (i:=11) hR2 hR2 (y:=.tup [.str (ws.getD (((j:Int)+sh) % (ws.length:Int)).toNat ⟨#[]⟩),.tup ((rot st t2 s).map D.str)]) (by rw [As];ext) rfl (e:=(Cq (BW (B2 ixG (BX 5) (B2 Ew (B2 Ck (BX 12) (BX 10)) (B1 D0 (BW (BX 5) B0)))) (BW (BX 15) B0)))) (by
  simp! [Ac,GK l6,S3 hw])
 refine ⟨some (.int s),some (.int t2),some (.tup ((rot st t2 s).map D.str)),_,(rot st t2 s).map D.str,?_,F5 hR2,Pf (by rw [LW];ext) (by rw [LW];ext) (RE st0 sd (by ext)) (λx hx=>sW x (OJ st0 x hx)),?_,?_,?_,?_⟩
 ·unfold KL
  simp! [e1,e2,hs1,rg,lc,ap]
 ·refine ⟨?_,?_⟩
  ·simp only [okD,Oo,Ac,LW,Bool.and_true,Ak]
   ext
  ·rw [List.all_map,Ar]
   intro x hx
   simpa [inS] using OJ st0 x hx
 ·obtain ⟨a,b,c',h1,h2⟩:=f2.hand
  exact ⟨a,b,c',by rw [AJ hkR];exact h1,h2⟩
 ·intro i hik hiR
  rw [AJ (Ne.symm hiR),fr.keep i hik]
 ·rw [List.length_set,fr.len]
end PG
namespace PV
open PySem L2 PyProof.Rows K1
variable {mu:Sto}
theorem RV (ws:List Str)(t:Int)(s:Nat):rot ws t (s+1)=rot ws t s++[ws.getD (((s:Int)+t) % (ws.length:Int)).toNat ⟨#[]⟩]:=by
 unfold rot
 rw [List.range_succ,AM]
 rfl
theorem HandOk.app {k n:Nat}{os:Sto}(h:HandOk mu k n):HandOk (mu++os) k n:=by
 have hk:=h.lt
 obtain ⟨a,b,c',q,r⟩:=h
 exact ⟨a,b,c',by rw [Av hk];exact q,r⟩
theorem HandOk.set {k n j:Nat}{o:MO}(h:HandOk mu k n)(hj:j≠k):HandOk (mu.set j o) k n:=by
 obtain ⟨a,b,c',q,r⟩:=h
 exact ⟨a,b,c',by rw [AJ hj];exact q,r⟩
theorem O4 {o:MO}{n m:Nat}(l:n≤m)(h:Mj n o=true):Mj m o=true:=by
 cases o with
 | lst ds=>exact Fm l h
 | dct ks ds =>
  simp only [Mj,Ae] at h ⊢
  exact ⟨Fm l h.1,Fm l h.2⟩
theorem Ll {m:Sto}{d:D}(hd:EE 0 d=true)(hf:Flat (m.take mu.length)):LJ mu m d=some (d,m.take mu.length):=by
 have e:frz mu.length m 3 d=some d:=by
  unfold frz
  rw [if_pos (So (A0 _) hd)]
 have al:(m.take mu.length).all (Mj mu.length)=true:=by
  rw [Ar]
  intro o ho
  obtain ⟨j,hj⟩:=A7.mp ho
  exact O4 (by rw [AZ];ext) (hf j o hj)
 unfold LJ
 rw [e]
 dsimp only
 rw [if_pos al]
end PV
namespace PG
open PySem L2 PV PyProof.Rows K1
variable {mu:Sto}
def QG (st:List Str):D->Bool
 | .tup [_,.tup vs]=>vs.all (inS st)
 | _=>false
def tabS (st:List Str):D->Bool
 | .tup [_,.tup cs,_]=>cs.all (QG st)
 | _=>false
theorem Rb {k n R b c:Nat}{many:Nat}{sh:Int}{a nms fnd nm1:D}{ws st:List Str}(hc:1≤c)(hc4:c≤4)(hw:0<ws.length)(wW:∀ x∈ws,IsW x)(hs:st.length=c+1)(sd:st.Nodup)(sW:∀ x∈st,IsW x)(hm:many≤4)(hR:mu[R]? = some (.lst []))(hkR:R≠k)(h:HandOk mu k (n+2*many)){m0:Sto}{x12 x13 x14 x15:Option D} :
  ∃ (y12 y13 y14 y15:Option D) (mu':Sto) (cs:List D),EH none m0 (gNm 12) KL (Ec 0 many) [some (.ref k),some a,some (.int b),some (.int c),some nms,some (.lst (ws.map D.str)),some (.lst (st.map D.str)),some fnd,some nm1,some (.int many),some (.int sh),some (.ref R),x12,x13,x14,x15] mu=some ((.nx,[some (.ref k),some a,some (.int b),some (.int c),some nms,some (.lst (ws.map D.str)),some (.lst (st.map D.str)),some fnd,some nm1,some (.int many),some (.int sh),some (.ref R),y12,y13,y14,y15]),mu') ∧
   mu'[R]? = some (.lst cs)∧cs.length=many∧cs.all MC=true∧(okL cs=true∧cs.all (QG st)=true)∧cs.map Jg=(rot ws sh many).map D.str∧HandOk mu' k n∧(∀ j,j≠k->j≠R->mu'[j]? = mu[j]?)∧mu'.length=mu.length:=by
 have key:=E7 (m0:=m0) (tg:=gNm 12) (body:=KL) (λi ro m=>(∃ y12 y13 y14 y15,ro=[some (.ref k),some a,some (.int b),some (.int c),some nms,some (.lst (ws.map D.str)),some (.lst (st.map D.str)),some fnd,some nm1,some (.int many),some (.int sh),some (.ref R),y12,y13,y14,y15])∧(∃ cs:List D,m[R]? = some (.lst cs)∧cs.length=i∧cs.all MC=true∧(okL cs=true∧cs.all (QG st)=true)∧cs.map Jg=(rot ws sh i).map D.str)∧i≤many∧HandOk m k (n+2*(many-i))∧(∀ j,j≠k->j≠R->m[j]? = mu[j]?)∧m.length=mu.length) (Ec 0 many) 0 [some (.ref k),some a,some (.int b),some (.int c),some nms,some (.lst (ws.map D.str)),some (.lst (st.map D.str)),some fnd,some nm1,some (.int many),some (.int sh),some (.ref R),x12,x13,x14,x15] mu
  ⟨⟨x12,x13,x14,x15,rfl⟩,⟨[],hR,rfl,rfl,⟨rfl,rfl⟩,rfl⟩,A0 _,h,λ_ _ _=>rfl,rfl⟩ λj d ro m ed hi=>by
   obtain ⟨⟨y12,y13,y14,y15,rfl⟩,⟨cs,hR',hl,ha,⟨ho,hos⟩,hf⟩,hle,hh,hkeep,hlen⟩:=hi
   obtain ⟨rfl,hj⟩:=Hf ed
   obtain ⟨z13,z14,z15,m',vs,e,g1,g2,⟨g3,gs⟩,g4,g5,g6⟩:=SG (n:=n+2*(many-(0+j+1))) (b:=b) (c:=c) (j:=j) (sh:=sh) (a:=a) (nms:=nms) (fnd:=fnd) (nm1:=nm1) (x9:=.int many) (x13:=y13) (x14:=y14) (x15:=y15) (ws:=ws) hc hc4 hw hs sd sW hR' (by ext) hkR (hh.mono (by ext))
   have wm:=wW _ (Al (JJ hw ((j:Int)+sh)))
   refine ⟨_,m,_,m',rfl,e,⟨_,_,_,_,rfl⟩,⟨_,g1,by simp [hl],?_,?_,?_⟩,by ext,g4,λi hik hiR=>(g5 i hik hiR).trans (hkeep i hik hiR),g6.trans hlen⟩
   ·rw [List.all_append,ha]
    have:MC (.tup [.str (ws.getD (((j:Int)+sh) % (ws.length:Int)).toNat ⟨#[]⟩),.tup vs])=(wB (ws.getD (((j:Int)+sh) % (ws.length:Int)).toNat ⟨#[]⟩)&&HK (.tup vs)):=rfl
    rw [List.all_cons,this,D5.mpr wm,g2]
    rfl
   ·refine ⟨?_,?_⟩
    ·rw [Lk] at ho ⊢
     intro d hd
     rcases AE.mp hd with hd|hd
     ·exact ho d hd
     ·rw [Ao.mp hd]
      simp only [okD,okL,g3,List.length_cons,List.length_nil]
      simp only [okD] at g3
      rw [g3]
      rfl
    ·rw [List.all_append,hos,List.all_cons]
     simp only [QG,gs,List.all_nil,Bool.and_self]
   ·rw [AM,hf,Bs,RV,AM]
    rfl
 obtain ⟨ro',mu',e,⟨y12,y13,y14,y15,rfl⟩,⟨cs,a2,a3,a4,a5,a6⟩,_,a7,a8,a9⟩:=key
 rw [Fi] at a3 a6 a7
 refine ⟨y12,y13,y14,y15,mu',cs,e,a2,by ext,a4,a5,by rw [a6,Bs],a7.mono (by ext),a8,a9⟩
def OQ:Sx:=(Ce (Ci (B2 Ck (eC (.int 1)) (B1 B6 (BW (BX 0) (BW (BX 2) B0)))) (gNm 9)) (Ce (Ci (B1 B6 (BW (BX 0) (BW (eC (.int 3)) B0))) (gNm 10)) (Ce (Ci (G2 B0) (gNm 11)) (Ce (Hu (iRg (BW (BX 9) B0)) (gNm 12) KL) (sEx (Lb (BX 7) (BW (Cq (BW (BX 8) (BW (B1 D8 (BW (BX 11) B0)) (BW (B2 Ck (eC (.int 1)) (B1 B6 (BW (BX 0) (BW (BX 9) B0)))) B0)))) B0)))))))
theorem N4 {R:Nat}{cs:List D}(h:mu[R]? = some (.lst cs)):D8 [.ref R] mu=some (.tup cs,mu):=by
 simp only [D8,sq1,Fh,Hy,Dg,h,Option.map_some]
theorem Rt {k n F b c:Nat}{nm:Str}{ws st:List Str}{a nms:D}{ts:List D}{x9 x10 x11 x12 x13 x14 x15:Option D}(hb:1≤b)(hb4:b≤4)(hc:1≤c)(hc4:c≤4)(hw:ws.length=b+2)(wd:ws.Nodup)(wW:∀ x∈ws,IsW x)(hs:st.length=c+1)(sd:st.Nodup)(sW:∀ x∈st,IsW x)(hW:IsW nm)(hF:mu[F]? = some (.lst ts))(hts:ts.length≤100)(hkF:F≠k)(h:HandOk mu k (n+11)) :
  ∃ y9 y10 y11 y12 y13 y14 y15 m2 cs,∃ q:Nat,OQ [some (.ref k),some a,some (.int b),some (.int c),some nms,some (.lst (ws.map D.str)),some (.lst (st.map D.str)),some (.ref F),some (.str nm),x9,x10,x11,x12,x13,x14,x15] mu=some ((.nx,[some (.ref k),some a,some (.int b),some (.int c),some nms,some (.lst (ws.map D.str)),some (.lst (st.map D.str)),some (.ref F),some (.str nm),y9,y10,y11,y12,y13,y14,y15]),m2) ∧
   m2[F]? = some (.lst (ts++[.tup [.str nm,.tup cs,.int q]]))∧Lu (.tup [.str nm,.tup cs,.int q])=true∧(okD (.tup [.str nm,.tup cs,.int q])=true∧tabS st (.tup [.str nm,.tup cs,.int q])=true)∧HandOk m2 k n∧(∀ j,j<mu.length->j≠k->j≠F->m2[j]? = mu[j]?)∧mu.length≤m2.length:=by
 obtain ⟨_,m1,e1,f1,t1,rfl,a0,a1⟩:=CS (m:=b) (n:=n+10) h (by ext) (by ext)
 obtain ⟨_,m2,e2,f2,t2,rfl,b0,b1⟩:=CS (m:=3) (n:=n+9) f1.hand (by decide) (by decide)
 have fr:=f1.trans f2
 have hkl:=h.lt
 have hFl:F<mu.length:=(Af.mp hF).1
 obtain ⟨q,hq⟩:∃ q:Nat,1+t1=(q:Int):=⟨(1+t1).toNat,by ext⟩
 have hR:(m2++[MO.lst []])[m2.length]? = some (.lst []):=by simp
 have l2:=fr.len
 obtain ⟨y12,y13,y14,y15,m3,cs,e3,g1,g2,g3,⟨g4,gs⟩,g5,g6,g7,g8⟩:=Rb (mu:=m2++[MO.lst []]) (k:=k) (n:=n+1) (R:=m2.length) (b:=b) (c:=c) (many:=q) (sh:=t2) (a:=a) (nms:=nms) (fnd:=.ref F) (nm1:=.str nm) (ws:=ws) (st:=st) hc hc4 (by ext) wW hs sd sW (by ext) hR (by ext) (f2.hand.app.mono (by ext)) (m0:=m2++[MO.lst []]) (x12:=x12) (x13:=x13) (x14:=x14) (x15:=x15)
 have F3:m3[F]? = some (.lst ts):=by
  rw [g7 F hkF (by ext),Av (by ext),fr.keep F hkF,hF]
 obtain ⟨_,m4,e4,f4,t4,rfl,c0,c1⟩:=CS (m:=q) (n:=n) g6 (by ext) (by ext)
 have F4:m4[F]? = some (.lst ts):=(f4.keep F hkF).trans F3
 obtain ⟨p,hp⟩:∃ p:Nat,1+t4=(p:Int):=⟨(1+t4).toNat,by ext⟩
 have ap:=append_at (ro:=[some (.ref k),some a,some (.int b),some (.int c),some nms,some (.lst (ws.map D.str)),some (.lst (st.map D.str)),some (.ref F),some (.str nm),some (.int q),some (.int t2),some (.ref m2.length),y12,y13,y14,y15]) (i:=7) F3 F4 (y:=.tup [.str nm,.tup cs,.int p]) (by rw [As];ext) rfl (e:=(Cq (BW (BX 8) (BW (B1 D8 (BW (BX 11) B0)) (BW (B2 Ck (eC (.int 1)) (B1 B6 (BW (BX 0) (BW (BX 9) B0)))) B0))))) (by
  simp! [N4 g1,e4,hp])
 have rg:=Kf (mu:=m2++[MO.lst []]) (ro:=[some (.ref k),some a,some (.int b),some (.int c),some nms,some (.lst (ws.map D.str)),some (.lst (st.map D.str)),some (.ref F),some (.str nm),some (.int q),some (.int t2),some (.ref m2.length),x12,x13,x14,x15]) (r:=BW (BX 9) B0) (n:=q) (m:=m2++[MO.lst []]) rfl (by ext) (by rw [As];ext)
 rw [Int.toNat_natCast] at rg
 refine ⟨some (.int q),some (.int t2),some (.ref m2.length),y12,y13,y14,y15,_,cs,p,?_,F5 F4,?_,?_,f4.hand.set hkF,?_,?_⟩
 ·unfold OQ
  simp! [e1,e2,hq,rg,e3,ap]
 ·have T:Lu (.tup [.str nm,.tup cs,.int p])=((wB nm&&((GS 1 4 (.tup cs)&&cs.all MC)&&ndB (cs.map Jg)))&&(decide ((1:Int)≤p)&&decide ((p:Int)≤cs.length))):=rfl
  rw [T,D5.mpr hW,g3,g5]
  have nd:ndB ((rot ws t2 q).map D.str)=true:=by
   unfold ndB
   rw [Ak]
   exact Hj.mpr (RE (by ext) wd (by ext))
  rw [nd]
  simp only [GS,Bool.and_true,Bool.true_and,Ae,Ak]
  ext
 ·refine ⟨?_,gs⟩
  simp only [okD,okL,g4,List.length_cons,List.length_nil,Bool.and_true,Bool.true_and,Ae,Ak]
  ext
 ·intro i hi hik hiF
  rw [AJ (Ne.symm hiF),f4.keep i hik,g7 i hik (by ext),Av (by ext),fr.keep i hik]
 ·rw [List.length_set]
  have:=f4.len
  simp only [Ag,List.length_cons,List.length_nil] at g8
  ext
theorem Oa {k n a b c:Nat}(ha:1≤a)(ha4:a≤4)(hb:1≤b)(hb4:b≤4)(hc:1≤c)(hc4:c≤4)(hfl:Flat mu)(h:HandOk mu k (n+60)):Run (Ee [.ref k,.int a,.int b,.int c] mu) k n mu λd=>∃ ds,d=.tup ds∧Tp d=true∧okD d=true∧∃ st:List Str,st.length≤5∧ds.all (tabS st)=true:=by
 obtain ⟨_,m1,e1,f1,t1,rfl,a0,a1⟩:=CS (m:=a) (n:=n+59) h (by ext) (by ext)
 obtain ⟨_,m2,e2,f2,nm,rfl,nl,nd,nW⟩:=IF (many:=1+t1) (n:=n+54) (by ext) (by ext) f1.hand
 obtain ⟨_,m3,e3,f3,ws,rfl,wl,wd,wW⟩:=IF (many:=(b:Int)+2) (n:=n+49) (by ext) (by ext) f2.hand
 obtain ⟨_,m4,e4,f4,st,rfl,sl,sd,sW⟩:=IF (many:=(c:Int)+1) (n:=n+44) (by ext) (by ext) f3.hand
 have fr:=((f1.trans f2).trans f3).trans f4
 have l4:=fr.len
 obtain ⟨us,ue,up⟩:=K2 (DF (nm.map D.str))
 have ul:=up.length_eq
 have ud:us.Nodup:=up.nodup_iff.mpr nd
 have hkl:=f4.hand.lt
 have key:=E7 (m0:=m4++[MO.lst []]) (tg:=gNm 8) (body:=OQ) (λi ro m=>(∃ y8 y9 y10 y11 y12 y13 y14 y15,ro=[some (.ref k),some (.int a),some (.int b),some (.int c),some (.lst (us.map D.str)),some (.lst (ws.map D.str)),some (.lst (st.map D.str)),some (.ref m4.length),y8,y9,y10,y11,y12,y13,y14,y15]) ∧
   (∃ ts:List D,m[m4.length]? = some (.lst ts)∧ts.length=i∧ts.all Lu=true∧(okL ts=true∧ts.all (tabS st)=true)∧ts.map Jg=(us.take i).map D.str)∧i≤us.length∧HandOk m k (n+11*(us.length-i))∧(∀ j,j<m4.length->j≠k->m[j]? = m4[j]?)∧m4.length<m.length) (us.map D.str) 0
   [some (.ref k),some (.int a),some (.int b),some (.int c),some (.lst (us.map D.str)),some (.lst (ws.map D.str)),some (.lst (st.map D.str)),some (.ref m4.length),none,none,none,none,none,none,none,none] (m4++[MO.lst []])
   ⟨⟨_,_,_,_,_,_,_,_,rfl⟩,⟨[],by simp,rfl,rfl,⟨rfl,rfl⟩,by simp⟩,A0 _,f4.hand.app.mono (by ext),λj hj _=>Av hj,by simp⟩ λj d ro m ed hi=>by
  obtain ⟨⟨y8,y9,y10,y11,y12,y13,y14,y15,rfl⟩,⟨ts,hF,tl,ta,⟨to,tos⟩,tn⟩,hle,hh,hkeep,hlen⟩:=hi
  rw [Ap] at ed
  cases q:us[j]? with
  | none=>rw [q] at ed;cases ed
  | some x =>
   rw [q] at ed
   have ed':D.str x=d:=by simpa using ed
   subst ed'
   obtain ⟨hj,ex⟩:=Af.mp q
   have hxm:x∈nm:=up.mem_iff.mp (by rw [← ex];exact BS hj)
   obtain ⟨z9,z10,z11,z12,z13,z14,z15,m',cs,p,g1,g2,g3,⟨g4,gs⟩,g5,g6,g7⟩:=Rt (n:=n+11*(us.length-(0+j+1))) (a:=.int a) (b:=b) (c:=c) (nms:=.lst (us.map D.str)) (nm:=x) (x9:=y9) (x10:=y10) (x11:=y11) (x12:=y12) (x13:=y13) (x14:=y14) (x15:=y15) (ws:=ws) (st:=st) hb hb4 hc hc4 (by ext) wd wW (by ext) sd sW (nW x hxm) hF (by ext) (by ext) (hh.mono (by ext))
   refine ⟨_,m,_,m',rfl,g1,⟨_,_,_,_,_,_,_,_,rfl⟩,⟨_,g2,by simp [tl],?_,?_,?_⟩,by ext,g5,λi hi hik=>?_,by ext⟩
   ·rw [List.all_append,ta,List.all_cons,g3]
    rfl
   ·refine ⟨?_,?_⟩
    ·rw [Lk] at to ⊢
     intro d hd
     rcases AE.mp hd with hd|hd
     ·exact to d hd
     ·rw [Ao.mp hd]
      exact g4
    ·rw [List.all_append,tos,List.all_cons,gs]
     rfl
   ·rw [AM,tn]
    have:=List.take_add_one (l:=us) (i:=0+j)
    rw [this,Bs,q,AM]
    rfl
   ·rw [g6 i (by ext) hik (by ext),hkeep i hi hik]
 obtain ⟨ro',m5,e5,⟨_,_,_,_,_,_,_,_,rfl⟩,⟨ts,b1,b2,b3,⟨b4,bs⟩,b5⟩,_,b6,b7,b8⟩:=key
 rw [Ac,Bs] at b2 b5 b6
 rw [List.take_length] at b5
 have okT:okD (.tup ts)=true:=by
  simp only [okD,b4,Bool.and_true,Ak]
  ext
 have f5:Fr k n mu (m5.take mu.length):=by
  refine ⟨?_,λj hj=>?_,by rw [AZ];ext⟩
  ·obtain ⟨x,y,z,q,r1,r2,r3⟩:=b6
   exact ⟨x,y,z,by rw [Bp (by ext)];exact q,r1,r2,by ext⟩
  ·by_cases hj':j<mu.length
   ·rw [Bp hj',b7 j (by ext) hj,fr.keep j hj]
   ·rw [List.getElem?_eq_none (by rw [AZ];ext),List.getElem?_eq_none (by ext)]
 refine ⟨.tup ts,m5.take mu.length,?_,f5,ts,rfl,?_,okT,st,by ext,bs⟩
 ·have s64:nm.length<64:=by ext
  unfold OQ KL at e5
  simp! [Ee,Gq,e1,e2,UZ s64,ue,e3,e4,e5,N4 b1]
  exact Ll (Q5 okT) (f5.flat hfl)
 ·have W:Tp (.tup ts)=((GS 1 4 (.tup ts)&&ts.all Lu)&&Kh (ts.map Jg)):=rfl
  have rs:Kh (us.map D.str)=true:=by
   have r:=Up us
   rw [LL (Hj.mpr ud)] at r
   rw [← r,Ak]
   rw [← ue]
   exact (Kr (λd hd=>by
    obtain ⟨x,_,rfl⟩:=Aw.mp hd
    rfl) (DF (nm.map D.str))).symm
  rw [W,b3,b5,rs]
  simp only [GS,Bool.and_true,Ae,Ak]
  ext
end PG
namespace PV
open PySem L2 PyProof.Rows K1
variable {mu:Sto}
theorem Iw {m0:Sto}{tg:Gx}{el:Ex}{ro:Ro}(Inv:Nat->Sto->Prop)(P:Nat->D->Prop):∀ (ds:List D) (i:Nat) (mu:Sto),Inv i mu->(∀ j d mu,ds[j]? = some d->Inv (i+j) mu->∃ ro1 y m1,tg d ro mu=some (ro1,mu)∧el ro1 mu=some (y,m1)∧P (i+j) y∧Inv (i+j+1) m1) ->
  ∃ ys mu',EM none m0 tg tY el ro ds mu=some (ys,mu')∧Inv (i+ds.length) mu'∧ys.length=ds.length∧∀ j y,ys[j]? = some y->P (i+j) y
 | [],i,mu,h,_=>⟨[],mu,rfl,h,rfl,λj y e=>by simp at e⟩
 | d::ds,i,mu,h,st=>by
  obtain ⟨ro1,y,m1,e1,e2,p,h2⟩:=st 0 d mu rfl h
  obtain ⟨ys,mu',e3,h3,h4,h5⟩:=Iw (m0:=m0) (tg:=tg) (el:=el) (ro:=ro) Inv P ds (i+1) m1 h2 λj d' mu ed hi=>by
   have:=st (j+1) d' mu (by simpa using ed) (by rw [show i+(j+1)=i+1+j by ext];exact hi)
   rw [show i+(j+1)+1=i+1+j+1 by ext,show i+(j+1)=i+1+j by ext] at this
   exact this
  refine ⟨y::ys,mu',?_,by rw [List.length_cons,show i+(ds.length+1)=i+1+ds.length by ext];exact h3,by simp [h4],λj z e=>?_⟩
  ·unfold EM
   rw [e1,CA]
   simp only [Tf,B5,if_true]
   rw [e2,CA,D9,if_pos (show gOk none m0 m1 from True.intro),e3]
   rfl
  ·cases j with
   | zero=>cases e;exact p
   | succ j=>have:=h5 j z (by simpa using e);rw [show i+(j+1)=i+1+j by ext];exact this
theorem ZR {d e:D}(hd:DQ d=true)(he:DQ e=true):eqB mu d e=some (decide (d=e)):=by
 have a:=Em hd
 have b:=Em he
 have sd:seen mu d=d:=by cases d<;>first|rfl|(simp [DQ,hsh] at hd)
 have se:seen mu e=e:=by cases e<;>first|rfl|(simp [DQ,hsh] at he)
 unfold eqB
 rw [sd,se,HS a.1,HS b.1,if_pos,Hm a.1 b.1]
 rw [JQ a.1,JQ b.1]
 simp only [Bool.true_and,Ak]
 ext
theorem OO {d e:D}(hd:DQ d=true)(he:DQ e=true):neD d e mu=some (.bl (!decide (d=e)),mu):=by unfold neD;rw [ZR hd he];rfl
theorem Po (ss:List Str):Lc (ss.map D.str)≤1:=by
 rw [← Ld (Mp ss)]
 exact J2 ss
theorem IC (ss:List Str):DQ (.tup (ss.map D.str))=true:=by
 unfold DQ
 rw [Ae,Ak]
 refine ⟨by unfold hsh;exact Mp ss,?_⟩
 have:=Po ss
 unfold dpt
 ext
end PV
namespace PG
open PySem L2 PV PyProof.Rows K1
variable {mu:Sto}
structure Tb where
 nm:Str
 cs:List (Str×List Str)
 ks:Nat
noncomputable def clD (p:Str×List Str):D:=.tup [.str p.1,.tup (p.2.map D.str)]
def tbD (t:Tb):D:=.tup [.str t.nm,.tup (t.cs.map clD),.int t.ks]
structure Pg (t:Tb):Prop where
 c1:1≤t.cs.length
 c4:t.cs.length≤4
 k1:1≤t.ks
 k4:t.ks≤t.cs.length
 vs:∀ p∈t.cs,p.2≠[]∧p.2.length≤4
structure SOk (ts:List Tb):Prop where
 l1:1≤ts.length
 l4:ts.length≤4
 ok:∀ t∈ts,Pg t
 nd:(ts.map Tb.nm).Nodup
structure RwOk (t:Tb) (r:List Str):Prop where
 len:r.length=t.cs.length
 at':∀ (i:Nat) x p,r[i]? = some x->t.cs[i]? = some p->x∈p.2
noncomputable def rwD (r:List Str):D:=.tup (r.map D.str)
theorem Zp {ds:List D}(h:∀ (j:Nat) (d:D),ds[j]? = some d->∃ x,d=D.str x):∃ ss:List Str,ds=ss.map D.str:=by
 induction ds with
 | nil=>exact ⟨[],rfl⟩
 | cons d ds ih =>
  obtain ⟨x,rfl⟩:=h 0 d rfl
  obtain ⟨ss,rfl⟩:=ih λj d e=>h (j+1) d (by simpa using e)
  exact ⟨x::ss,rfl⟩
theorem Uw {k n:Nat}{t:Tb}(ht:Pg t){m0:Sto}(h:HandOk mu k (n+4)):∃ r mu',EM none m0 (gTp 2 (Cf (gNm 0) (Cf (gNm 1) Dd))) tY (B1 Cg (BW (BX 2) (BW (BX 1) B0))) [none,none,some (.ref k)] (t.cs.map clD) mu=some (r.map D.str,mu')∧Fr k n mu mu'∧RwOk t r:=by
 obtain ⟨ys,mu',e,fr,hl,hp⟩:=Iw (m0:=m0) (tg:=gTp 2 (Cf (gNm 0) (Cf (gNm 1) Dd))) (el:=B1 Cg (BW (BX 2) (BW (BX 1) B0))) (ro:=[none,none,some (.ref k)]) (λi m=>Fr k (n+4-i) mu m) (λi d=>∃ x,d=D.str x∧∀ p,t.cs[i]? = some p->x∈p.2) (t.cs.map clD) 0 mu (.refl h) λj d m ed fr=>by
  rw [Ap] at ed
  cases q:t.cs[j]? with
  | none=>rw [q] at ed;cases ed
  | some p =>
   rw [q] at ed
   have ed':clD p=d:=AI ed
   subst ed'
   have hj:=(Af.mp q).1
   have hm:p∈t.cs:=Al q
   have c4:=ht.c4
   obtain ⟨y,m1,e1,f1,hy⟩:=pick_run (s:=.tup (p.2.map D.str)) (n:=n+4-(0+j+1)) (.inr rfl) (by simpa using (ht.vs p hm).1) (by rw [Ac];have:=(ht.vs p hm).2;ext) (fr.hand.mono (by ext))
   obtain ⟨x,hx,rfl⟩:=Aw.mp hy
   refine ⟨_,.str x,m1,rfl,?_,⟨x,rfl,λp' hp'=>?_⟩,fr.trans f1⟩
   ·simp! [clD,e1]
   ·rw [Bs,q] at hp'
    cases hp'
    exact hx
 obtain ⟨r,rfl⟩:=Zp λj d ed=>by
  obtain ⟨x,hx,_⟩:=hp j d ed
  exact ⟨x,hx⟩
 refine ⟨r,mu',e,fr.mono ?_,⟨by simpa using hl,λi x p hx hpp=>?_⟩⟩
 ·rw [Ac]
  have:=ht.c4
  ext
 ·obtain ⟨y,ey,h2⟩:=hp i (.str x) (by rw [Ap,hx];rfl)
  cases ey
  exact h2 p (by rw [Bs];exact hpp)
theorem Nd {α:Type}{xs:List α}{j:Nat}(h:j≤xs.length):PV.cutD xs none (some (j:Int))=xs.take j:=by
 unfold PV.cutD
 rw [HT.JE,HT.HQ]
 simp [Nat.min_eq_left h]
theorem QY {α:Type}{xs:List α}{j:Nat}(h:j≤xs.length):PV.cutD xs (some (j:Int)) none=xs.drop j:=by
 unfold PV.cutD
 rw [HT.JE,HT.HQ]
 rw [Nat.min_eq_left h]
 apply List.take_of_length_le
 simp
end PG
namespace PV
open PySem L2 PyProof.Rows K1
variable {mu:Sto}
theorem Me (k v:D):∀ ks ds:List D,(HM k v ks ds).length=ds.length
 | [],_=>rfl
 | _::_,[]=>rfl
 | _::ks,_::ds=>by rw [HM,List.length_cons,List.length_cons,Me k v ks ds]
theorem My (k v:D):∀ ks ds:List D,∀ d∈HM k v ks ds,d∈ds∨d=v
 | [],_,d,h=>.inl h
 | _::_,[],d,h=>.inl h
 | k'::ks,e::ds,d,h=>by
  rw [HM] at h
  rcases Ah.mp h with h|h
  ·split at h
   ·exact .inr h
   ·exact .inl (by rw [h];exact .head _)
  ·rcases My k v ks ds d h with h|h
   ·exact .inl (.tail _ h)
   ·exact .inr h
structure DictOk (ks ds:List D) (n:Nat):Prop where
 len:ks.length≤n
 eq:ds.length=ks.length
 nd:ks.Nodup
theorem DictOk.put {ks ds:List D}{n:Nat}(h:DictOk ks ds n)(k v:D):DictOk (D2 k v ks ds).1 (D2 k v ks ds).2 (n+1)∧(∀ d∈(D2 k v ks ds).2,d∈ds∨d=v)∧∀ d∈(D2 k v ks ds).1,d∈ks∨d=k:=by
 unfold D2
 by_cases c:k∈ks
 ·rw [if_pos c]
  exact ⟨⟨by have:=h.len;show ks.length≤n+1;ext,by rw [Me];exact h.eq,h.nd⟩,My k v ks ds,λd hd=>.inl hd⟩
 ·rw [if_neg c]
  refine ⟨⟨by have:=h.len;simp;ext,by simp [h.eq],?_⟩,λd hd=>?_,λd hd=>?_⟩
  ·rw [BL]
   exact ⟨h.nd,by simp,λa ha b hb e=>by rw [Ao.mp hb] at e;rw [e] at ha;exact c ha⟩
  ·rcases AE.mp hd with hd|hd
   ·exact .inl hd
   ·exact .inr (Ao.mp hd)
  ·rcases AE.mp hd with hd|hd
   ·exact .inl hd
   ·exact .inr (Ao.mp hd)
theorem WX {k:Nat}{ks ds:List D}{e v:D}(h:mu[k]? = some (.dct ks ds))(he:DQ e=true)(hl:ks.length<sizeLine):putG (.ref k) e v mu=some ((),mu.set k (.dct (D2 e v ks ds).1 (D2 e v ks ds).2)):=by
 simp only [putG,h,he,hl,and_self,if_true]
theorem MV:∀ xs ys:List Str,(Gy (xs.map D.str) (ys.map D.str)).isSome=true
 | [],[]=>rfl
 | [],_::_=>rfl
 | _::_,[]=>rfl
 | x::xs,y::ys=>by
  have ih:=MV xs ys
  rw [AO,AO,Gy]
  simp only [CY,Bool.and_self,if_true]
  split
  ·exact ih
  ·rfl
theorem R5 (ss:List Str):GQ (ss.map D.str)=true:=by
 induction ss with
 | nil=>rfl
 | cons x xs ih=>simp [GQ,FZ,ih]
end PV
namespace PG
open PySem L2 PV PyProof.Rows K1
variable {mu:Sto}
theorem TF {rs:List (List Str)}(h64:rs.length<64)(hne:∀ r∈rs,r≠[]):Ej (rs.map rwD)=true:=by
 unfold Ej
 simp only [Ae,Ak,Ac,Ar,Bool.or_eq_true,KA]
 refine ⟨⟨⟨by ext,λd hd=>?_⟩,λd hd e he=>?_⟩,.inr λd hd=>?_⟩
 ·obtain ⟨r,_,rfl⟩:=Aw.mp hd
  unfold rwD FZ
  exact R5 r
 ·obtain ⟨r,_,rfl⟩:=Aw.mp hd
  obtain ⟨q,_,rfl⟩:=Aw.mp he
  unfold rwD ltB
  exact MV r q
 ·obtain ⟨r,hr,rfl⟩:=Aw.mp hd
  cases r with
  | nil=>exact (hne _ hr rfl).elim
  | cons x xs =>
   have d1:=J2 xs
   simp only [rwD,AO,tupS,K3,Bool.true_and,Ak]
   ext
theorem Oi {t:Tb}{ds:List D}(h:∀ d∈ds,∃ r,d=rwD r∧RwOk t r):∃ rs:List (List Str),ds=rs.map rwD∧∀ r∈rs,RwOk t r:=by
 induction ds with
 | nil=>exact ⟨[],rfl,λ_ h=>nomatch h⟩
 | cons d ds ih =>
  obtain ⟨r,rfl,hr⟩:=h d (.head _)
  obtain ⟨rs,rfl,hs⟩:=ih λd hd=>h d (.tail _ hd)
  refine ⟨r::rs,rfl,λq hq=>?_⟩
  rcases Ah.mp hq with rfl|hq
  ·exact hr
  ·exact hs q hq
theorem RwOk.ne {t:Tb}{r:List Str}(ht:Pg t)(h:RwOk t r):r≠[]:=λe=>by
 have:=h.len
 rw [e] at this
 have:=ht.c1
 simp at *
 ext
structure UK (t:Tb) (rs:List (List Str)):Prop where
 len:rs.length≤6
 ok:∀ r∈rs,RwOk t r
def flD (rs:List (List Str)):D:=.tup (rs.map rwD)
def MK:Sx:=(Ce (Ci (B1 D8 (BW (eLC (Ei (BX 5)) 2 [0] (gTp 2 (Cf (gNm 0) (Cf (gNm 1) Dd))) (tY) (B1 Cg (BW (BX 2) (BW (BX 1) B0)))) B0)) (gNm 9)) (Ci (BX 9) (gIx (BX 7) (eSl (BX 9) (pNo) (De (BX 6))))))
theorem Rh {k n Dk c:Nat}{t:Tb}(ht:Pg t){sc fnd:D}{x4 x8 x9:Option D}(hc:c≤6)(hD:mu[Dk]? = some (.dct [] []))(hkD:Dk≠k)(h:HandOk mu k (n+4*c)){m0:Sto} :
  ∃ y8 y9 m' ks rs,EH none m0 (gNm 8) MK (Ec 0 c) [some (.ref k),some sc,some (.int 1),some fnd,x4,some (.tup (t.cs.map clD)),some (.int t.ks),some (.ref Dk),x8,x9] mu=some ((.nx,[some (.ref k),some sc,some (.int 1),some fnd,x4,some (.tup (t.cs.map clD)),some (.int t.ks),some (.ref Dk),y8,y9]),m') ∧
   m'[Dk]? = some (.dct ks (rs.map rwD))∧UK t rs∧HandOk m' k n∧(∀ j,j≠k->j≠Dk->m'[j]? = mu[j]?)∧m'.length=mu.length:=by
 obtain ⟨ro',m',e,⟨y8,y9,rfl⟩,⟨ks,ds,a1,a2,a3⟩,a4,a5,a6⟩:=E7 (m0:=m0) (tg:=gNm 8) (body:=MK) (λi ro m=>(∃ y8 y9,ro=[some (.ref k),some sc,some (.int 1),some fnd,x4,some (.tup (t.cs.map clD)),some (.int t.ks),some (.ref Dk),y8,y9])∧(∃ ks ds,m[Dk]? = some (.dct ks ds)∧DictOk ks ds i∧∀ d∈ds,∃ r,d=rwD r∧RwOk t r)∧HandOk m k (n+4*(c-i))∧(∀ j,j≠k->j≠Dk->m[j]? = mu[j]?)∧m.length=mu.length) (Ec 0 c) 0 _ mu ⟨⟨x8,x9,rfl⟩,⟨[],[],hD,⟨Aj _,rfl,List.nodup_nil⟩,λ_ h=>nomatch h⟩,h,λ_ _ _=>rfl,rfl⟩ λj d ro m ed hi=>by
   obtain ⟨⟨y8,y9,rfl⟩,⟨ks,ds,a1,a2,a3⟩,hh,hk,hl⟩:=hi
   obtain ⟨rfl,hj⟩:=Hf ed
   obtain ⟨r,m1,e1,f1,hr⟩:=Uw (n:=n+4*(c-(0+j+1))) ht (m0:=m) (hh.mono (by ext))
   have a1':m1[Dk]? = some (.dct ks ds):=(f1.keep Dk hkD).trans a1
   have kl:t.ks≤(r.map D.str).length:=by rw [Ac,hr.len];exact ht.k4
   have ct:=Nd kl
   have hK:DQ (.tup ((r.map D.str).take t.ks))=true:=by rw [← List.map_take];exact IC _
   obtain ⟨p1,p2,_⟩:=a2.put (.tup ((r.map D.str).take t.ks)) (rwD r)
   have z:=WX (v:=rwD r) a1' hK (by have:=a2.len;rw [As];ext)
   refine ⟨_,m,_,_,rfl,?_,⟨some (.int j),some (rwD r),rfl⟩,⟨_,_,F5 a1',by rw [show 0+j+1=0+j+1 from rfl];exact p1,λd hd=>?_⟩,(f1.hand.mono (by ext)).set hkD,λi hik hiD=>?_,?_⟩
   ·unfold MK
    have rw':rwD r=.tup (r.map D.str):=rfl
    rw [rw'] at z
    simp! [e1,Se,ct,z]
    rfl
   ·rcases p2 d hd with hd|rfl
    ·exact a3 d hd
    ·exact ⟨r,rfl,hr⟩
   ·rw [AJ hiD.symm,f1.keep i hik,hk i hik hiD]
   ·rw [List.length_set,f1.len,hl]
 rw [Fi] at a2 a4
 obtain ⟨rs,rfl,hr⟩:=Oi a3
 refine ⟨y8,y9,m',ks,rs,e,a1,⟨?_,hr⟩,a4.mono (by ext),a5,a6⟩
 have:=a2.eq
 have:=a2.len
 simp at *
 ext
def fBody:Sx:=(Ce (Ci MJ (gNm 7)) (Ce (Hu (iRg (BW (B1 B6 (BW (BX 0) (BW (B2 Ck (BX 2) (eC (.int 1))) B0))) B0)) (gNm 8) MK) (sEx (Lb (BX 3) (BW (B1 D8 (BW (Ko (BX 7)) B0)) B0)))))
theorem VN {k:Nat}{ks ds:List D}{e:Ex}{ro:Ro}{m1:Sto}(he:e ro mu=some (.ref k,m1))(h:m1[k]? = some (.dct ks ds))(ok:Ej ds=true):Ko e ro mu=some (.lst (Fz ds),m1):=by
 unfold Ko
 rw [he]
 simp only [B5,DR,h,ok,if_true]
theorem UX {k n F:Nat}{t:Tb}(ht:Pg t){sc:D}{fs:List D}{x7 x8 x9:Option D}(hF:mu[F]? = some (.lst fs))(hfs:fs.length≤100)(hkF:F≠k)(h:HandOk mu k (n+25)) :
  ∃ y7 y8 y9 m' rs,fBody [some (.ref k),some sc,some (.int 1),some (.ref F),some (.str t.nm),some (.tup (t.cs.map clD)),some (.int t.ks),x7,x8,x9] mu=some ((.nx,[some (.ref k),some sc,some (.int 1),some (.ref F),some (.str t.nm),some (.tup (t.cs.map clD)),some (.int t.ks),y7,y8,y9]),m') ∧
   m'[F]? = some (.lst (fs++[flD rs]))∧UK t rs∧HandOk m' k n∧(∀ j,j<mu.length->j≠k->j≠F->m'[j]? = mu[j]?)∧mu.length≤m'.length:=by
 have hFl:F<mu.length:=(Af.mp hF).1
 have hkl:=h.lt
 have h0:HandOk (mu++[MO.dct [] []]) k (n+25):=h.app
 obtain ⟨_,m1,e1,f1,t1,rfl,a0,a1⟩:=CS (m:=2) (n:=n+24) h0 (by decide) (by decide)
 obtain ⟨c,rfl⟩:∃ c:Nat,t1=(c:Int):=⟨t1.toNat,by ext⟩
 have l1:=f1.len
 simp only [Ag,List.length_cons,List.length_nil] at l1
 have hD:m1[mu.length]? = some (.dct [] []):=by
  rw [f1.keep _ (by ext)]
  simp
 obtain ⟨y8,y9,m2,ks,rs,e2,g1,g2,g3,g4,g5⟩:=Rh (mu:=m1) (k:=k) (n:=n) (Dk:=mu.length) (c:=c) (t:=t) ht (sc:=sc) (fnd:=.ref F) (x4:=some (.str t.nm)) (x8:=x8) (x9:=x9) (by ext) hD (by ext) (f1.hand.mono (by ext)) (m0:=m1)
 have F2:m2[F]? = some (.lst fs):=by
  rw [g4 F hkF (by ext),f1.keep F hkF,Av hFl,hF]
 have ok:=TF (rs:=rs) (by have:=g2.len;ext) λr hr=>(g2.ok r hr).ne ht
 obtain ⟨rs',er,hr'⟩:=Oi (t:=t) (ds:=Fz (rs.map rwD)) λd hd=>by
  obtain ⟨r,hr,rfl⟩:=Aw.mp ((DF _).mem_iff.mp hd)
  exact ⟨r,rfl,g2.ok r hr⟩
 have ll:rs'.length≤6:=by
  have:=congrArg List.length er
  rw [(DF _).length_eq,Ac,Ac] at this
  have:=g2.len
  ext
 have ap:=append_at (ro:=[some (.ref k),some sc,some (.int 1),some (.ref F),some (.str t.nm),some (.tup (t.cs.map clD)),some (.int t.ks),some (.ref mu.length),y8,y9]) (i:=3) F2 F2 (y:=flD rs') (by rw [As];ext) rfl (e:=(B1 D8 (BW (Ko (BX 7)) B0))) (by
  have z:=VN (mu:=m2) (e:=BX 7) (ro:=[some (.ref k),some sc,some (.int 1),some (.ref F),some (.str t.nm),some (.tup (t.cs.map clD)),some (.int t.ks),some (.ref mu.length),y8,y9]) rfl g1 ok
  rw [er] at z
  simp! [z]
  rfl)
 have rg:=Kf (mu:=mu++[MO.dct [] []]) (ro:=[some (.ref k),some sc,some (.int 1),some (.ref F),some (.str t.nm),some (.tup (t.cs.map clD)),some (.int t.ks),some (.ref mu.length),x8,x9]) (r:=(BW (B1 B6 (BW (BX 0) (BW (B2 Ck (BX 2) (eC (.int 1))) B0))) B0)) (n:=c) (m:=m1) (by simp! [Int.reduceAdd,e1]) (by ext) (by rw [As];ext)
 rw [Int.toNat_natCast] at rg
 refine ⟨some (.ref mu.length),y8,y9,_,rs',?_,F5 F2,⟨ll,hr'⟩,g3.set hkF,λi hi hik hiF=>?_,?_⟩
 ·unfold fBody
  simp! [rg,e2,ap]
 ·rw [AJ hiF.symm,g4 i hik (by ext),f1.keep i hik,Av hi]
 ·rw [List.length_set]
  ext
structure WY (ts:List Tb) (gs:List (List (List Str))):Prop where
 len:gs.length=ts.length
 ok:∀ (j:Nat) rs t,gs[j]? = some rs->ts[j]? = some t->UK t rs
theorem QW (gs:List (List (List Str))):EE 0 (.tup (gs.map flD))=true:=by
 have hs:∀ ss:List Str,FE 0 (ss.map D.str)=true:=λss=>by
  rw [Lg]
  intro d hd
  obtain ⟨x,_,rfl⟩:=Aw.mp hd
  rfl
 have hr:∀ rs:List (List Str),FE 0 (rs.map rwD)=true:=λrs=>by
  rw [Lg]
  intro d hd
  obtain ⟨x,_,rfl⟩:=Aw.mp hd
  simpa [rwD,EE] using hs x
 simp only [EE]
 rw [Lg]
 intro d hd
 obtain ⟨x,_,rfl⟩:=Aw.mp hd
 simpa [flD,EE] using hr x
theorem M8 {k n:Nat}{ts:List Tb}(hS:SOk ts)(hfl:Flat mu)(h:HandOk mu k (n+100)):Run (DZ [.ref k,.tup (ts.map tbD),.int 1] mu) k n mu λd=>∃ gs,d=.tup (gs.map flD)∧WY ts gs:=by
 have hkl:=h.lt
 have s4:=hS.l4
 obtain ⟨ro',m5,e5,⟨_,_,_,_,_,_,rfl⟩,⟨gs,b1,b2,b3⟩,b6,b7,b8⟩:=E7 (m0:=mu++[MO.lst []]) (tg:=(gTp 3 (Cf (gNm 4) (Cf (gNm 5) (Cf (gNm 6) Dd))))) (body:=fBody) (λi ro m=>(∃ y4 y5 y6 y7 y8 y9,ro=[some (.ref k),some (.tup (ts.map tbD)),some (.int 1),some (.ref mu.length),y4,y5,y6,y7,y8,y9]) ∧
   (∃ gs:List (List (List Str)),m[mu.length]? = some (.lst (gs.map flD))∧gs.length=i∧∀ (j:Nat) rs t,gs[j]? = some rs->ts[j]? = some t->UK t rs)∧HandOk m k (n+25*(ts.length-i))∧(∀ j,j<mu.length->j≠k->m[j]? = mu[j]?)∧mu.length<m.length) (ts.map tbD) 0
   [some (.ref k),some (.tup (ts.map tbD)),some (.int 1),some (.ref mu.length),none,none,none,none,none,none] (mu++[MO.lst []])
   ⟨⟨_,_,_,_,_,_,rfl⟩,⟨[],by simp,rfl,λj rs t e=>by simp at e⟩,(h.app).mono (by ext),λj hj _=>Av hj,by simp⟩ λj d ro m ed hi=>by
  obtain ⟨⟨y4,y5,y6,y7,y8,y9,rfl⟩,⟨gs,hF,gl,gk⟩,hh,hkeep,hlen⟩:=hi
  rw [Ap] at ed
  cases q:ts[j]? with
  | none=>rw [q] at ed;cases ed
  | some t =>
   rw [q] at ed
   have ed':tbD t=d:=AI ed
   subst ed'
   have hj:=(Af.mp q).1
   obtain ⟨z7,z8,z9,m',rs,g1,g2,g3,g4,g5,g6⟩:=UX (n:=n+25*(ts.length-(0+j+1))) (hS.ok t (Al q)) (sc:=.tup (ts.map tbD)) (x7:=y7) (x8:=y8) (x9:=y9) hF (by rw [Ac];ext) (by ext) (hh.mono (by ext))
   refine ⟨[some (.ref k),some (.tup (ts.map tbD)),some (.int 1),some (.ref mu.length),some (.str t.nm),some (.tup (t.cs.map clD)),some (.int t.ks),y7,y8,y9],m,_,m',rfl,g1,⟨_,_,_,_,_,_,rfl⟩,⟨gs++[rs],by rw [g2,AM];rfl,by simp [gl],λi r t' hr ht'=>?_⟩,g4,λi hi hik=>?_,by ext⟩
   ·by_cases c:i<gs.length
    ·rw [Av c] at hr
     exact gk i r t' hr ht'
    ·have hil:=(Af.mp hr).1
     simp only [Ag,List.length_cons,List.length_nil] at hil
     have:i=gs.length:=by ext
     subst this
     rw [Bt (Aj _),Nat.sub_self] at hr
     cases hr
     rw [gl,Bs,q] at ht'
     cases ht'
     exact g3
   ·rw [g5 i (by ext) hik (by ext),hkeep i hi hik]
 rw [Ac,Bs] at b2 b6
 have f5:Fr k n mu (m5.take mu.length):=by
  refine ⟨?_,λj hj=>?_,by rw [AZ];ext⟩
  ·obtain ⟨x,y,z,q,r1,r2,r3⟩:=b6
   exact ⟨x,y,z,by rw [Bp (by ext)];exact q,r1,r2,by ext⟩
  ·by_cases hj':j<mu.length
   ·rw [Bp hj',b7 j hj' hj]
   ·rw [List.getElem?_eq_none (by rw [AZ];ext),List.getElem?_eq_none (by ext)]
 refine ⟨.tup (gs.map flD),m5.take mu.length,?_,f5,gs,rfl,⟨b2,b3⟩⟩
 unfold fBody MK at e5
 simp! [DZ,FT,e5,N4 b1]
 exact Ll (QW gs) (f5.flat hfl)
end PG
namespace PV
open PySem L2 PyProof.Rows
noncomputable def jb:List (List Nat)->List Nat
 | []=>[]
 | [x]=>x
 | x::y::r=>x++32::jb (y::r)
theorem SQ {x r:List Nat}(h:∀ c∈x,c≠32):(x++32::r).takeWhile (· != 32)=x:=by
 induction x with
 | nil=>rfl
 | cons a x ih =>
  have ha:(a != 32)=true:=by simpa using h a (.head _)
  rw [List.cons_append,List.takeWhile_cons,if_pos ha,ih λc hc=>h c (.tail _ hc)]
theorem Q6:∀ (xs ys:List (List Nat)),xs≠[]->ys≠[]->(∀ x∈xs,∀ c∈x,c≠32)->(∀ x∈ys,∀ c∈x,c≠32)->jb xs=jb ys->xs=ys
 | [],_,h,_,_,_,_=>(h rfl).elim
 | _::_,[],_,h,_,_,_=>(h rfl).elim
 | [x],[y],_,_,_,_,e=>by rw [show x=y from e]
 | [x],y::y'::ys,_,_,hx,hy,e=>by
  have e':x=y++32::jb (y'::ys):=e
  exact absurd rfl (hx x (.head _) 32 (by rw [e'];simp))
 | x::x'::xs,[y],_,_,hx,hy,e=>by
  have e':x++32::jb (x'::xs)=y:=e
  exact absurd rfl (hy y (.head _) 32 (by rw [← e'];simp))
 | x::x'::xs,y::y'::ys,_,_,hx,hy,e=>by
  have e':x++32::jb (x'::xs)=y++32::jb (y'::ys):=e
  have ex:x=y:=by
   have:=congrArg (List.takeWhile (· != 32)) e'
   rw [SQ (hx x (.head _)),SQ (hy y (.head _))] at this
   exact this
  subst ex
  have e2:=List.append_cancel_left e'
  injection e2 with _ e2
  rw [Q6 (x'::xs) (y'::ys) (by simp) (by simp) (λz hz=>hx z (.tail _ hz)) (λz hz=>hy z (.tail _ hz)) e2]
theorem JN:∀ (xs ys:List (List Nat)),xs≠[]->ys≠[]->jb (xs++ys)=jb xs++32::jb ys
 | [],_,h,_=>(h rfl).elim
 | [x],y::ys,_,_=>rfl
 | [x],[],_,h=>(h rfl).elim
 | x::x'::xs,ys,_,hy=>by
  show x++32::jb (x'::xs++ys)=(x++32::jb (x'::xs))++32::jb ys
  rw [JN (x'::xs) ys (by simp) hy]
  simp
theorem Jn:∀ ws:List Str,(Str.join " " ws).cps.toList=jb (ws.map λx=>x.cps.toList)
 | []=>rfl
 | [x]=>rfl
 | x::y::r=>by
  have ih:=Jn (y::r)
  show ((x++(" ":Str))++Str.join " " (y::r)).cps.toList=x.cps.toList++32::jb ((y::r).map λx=>x.cps.toList)
  rw [Str.cps_append,Str.cps_append,BP,BP,ih]
  simp
  rfl
theorem Rr {xs ys:List Str}(h:xs.map (λx=>x.cps.toList)=ys.map λx=>x.cps.toList):xs=ys:=by
 refine (List.map_inj_right λa b e=>?_).mp h
 obtain ⟨a⟩:=a
 obtain ⟨b⟩:=b
 have e':a.toList=b.toList:=e
 rw [Array.toList_inj.mp e']
theorem Nc {ws:List Str}(h0:ws≠[])(hf:∀ w∈ws,∀ c∈w.cps.toList,c≠32):Txt.split (Txt.join " " ws) " "=ws:=by
 have eb:(" ":Str)=⟨#[32]⟩:=rfl
 have ej:Txt.join " " ws=Str.join " " ws:=StrLaws.glued_eq_join _ _
 rw [ej]
 have j:=StrLaws.join_split (Str.join " " ws) " "
 have ff:=StrLaws.split_free (Str.join " " ws) 32
 have ps:=split_pos (Str.join " " ws) " "
 rw [← eb] at ff
 have e2:=congrArg (λx:Str=>x.cps.toList) j
 rw [Jn,Jn] at e2
 refine Rr (Q6 _ _ (λz=>?_) (λz=>h0 (List.map_eq_nil_iff.mp z)) (λx hx c hc e=>?_) (λx hx c hc=>?_) e2)
 ·rw [List.map_eq_nil_iff.mp z] at ps
  simp at ps
 ·obtain ⟨w,hw,rfl⟩:=Aw.mp hx
  subst e
  exact absurd hc (by have:=ff w hw;simpa using this)
 ·obtain ⟨w,hw,rfl⟩:=Aw.mp hx
  exact hf w hw c hc
end PV
namespace PV
open PySem L2 PyProof.Rows K1
variable {mu:Sto}
theorem L4 (x:Str)(ss:List Str):((CC (ss.map D.str)).any λy=>PyData.eqv y (toPy (.str x)))=decide (x∈ss):=by
 induction ss with
 | nil=>simp [CC]
 | cons y ys ih =>
  rw [AO,CC,List.any_cons,ih]
  simp only [toPy,PyData.eqv,Ah]
  by_cases c:x=y
  ·subst c;simp
  ·have:(y==x)=false:=by simpa using λe:y=x=>c e.symm
   simp [c,this]
theorem OD {x:Str}{ss:List Str}{s:D}(hs:s=.tup (ss.map D.str)∨s=.lst (ss.map D.str)):inB mu (.str x) s=some (decide (x∈ss)):=by
 have p:=K3 ss
 have d:=J2 ss
 rcases hs with rfl|rfl
 ·simp only [inB,seen,CY,p,Bool.and_self,Bool.true_and]
  rw [if_pos (by rw [Ak];ext),L4]
 ·simp only [inB,seen,CY,p,Bool.and_self,Bool.true_and]
  rw [if_pos (by rw [Ak];ext),L4]
theorem MI {x:Str}{ss:List Str}:inG (.str x) (.tup (ss.map D.str)) mu=some (.bl (decide (x∈ss)),mu):=by simp only [inG,inD,OD (.inl rfl),Option.map_some]
theorem R6 {x a b:Str}:inG (.str x) (.tup [.str a,.str b]) mu=some (.bl (decide (x∈[a,b])),mu):=MI (ss:=[a,b])
theorem Ds (x:Str):DQ (.str x)=true:=by simp [DQ,hsh,dpt]
noncomputable def isN:D->Bool
 | .non=>true
 | _=>false
theorem M7 {d:D}:isD d .non mu=some (.bl (isN d),mu):=by cases d<;>rfl
noncomputable def prD (p:Str×Str):D:=.tup [.str p.1,.str p.2]
theorem E5 {xs ys:List D}(h:xs.length+ys.length≤sizeLine):Ck (.lst xs) (.lst ys) mu=some (.lst (xs++ys),mu):=by
 simp only [Ck,Dg,h,if_true]
theorem Sz {xs ys:List D}(h:xs.length+ys.length≤sizeLine):Ck (.tup xs) (.tup ys) mu=some (.tup (xs++ys),mu):=by
 simp only [Ck,h,if_true]
theorem XH {β:Type}{i:Ix}{nc:Nat}{fvs:List Nat}{tg:Gx}{tt:Tx}{st:Mx β}{b0:β}{fin:β->Sto->D×Sto}{ro:Ro}:eCo i nc fvs tg tt st b0 fin ro mu=bM (i ro mu) λp m1=>bM (cGo p.2 m1 tg tt st (r0 nc fvs ro) p.1 b0 m1) λb m2=>some (fin b m2):=rfl
theorem OS {m0:Sto}{ro:Ro}{x0:Option D}{r:List (Option D)}:∀ (ds b:List D),b.length+ds.length≤10000000->cGo none m0 (gNm 1) tY (stL (BX 1)) (x0::none::r) ds b mu=some (b++ds,mu)
 | [],b,_=>by rw [List.append_nil];rfl
 | d::ds,b,l=>by
  rw [List.length_cons] at l
  have ih:=OS (m0:=m0) (ro:=ro) (x0:=x0) (r:=r) ds (b++[d]) (by rw [Ag,List.length_singleton];ext)
  unfold cGo
  have tg:gNm 1 d (x0::none::r) mu=some (x0::some d::r,mu):=rfl
  have st:stL (BX 1) b (x0::some d::r) mu=some (b++[d],mu):=by
   unfold stL
   rw [H0,CA,if_pos (by rw [As];ext)]
  rw [tg,CA,Tf,CA,if_pos rfl,st,CA,JX,ih,List.append_assoc]
  rfl
theorem JB {m0:Sto}{r:List (Option D)}:∀ (dss:List (List D)) (b:List D),b.length+dss.flatten.length≤10000000->cGo none m0 (gNm 0) tY (PV.stI (Ei (BX 0)) (gNm 1) tY (stL (BX 1))) (none::none::r) (dss.map D.tup) b mu=some (b++dss.flatten,mu)
 | [],b,_=>by simp [cGo]
 | ds::dss,b,l=>by
  rw [List.flatten_cons,Ag] at l
  have ih:=JB (m0:=m0) (r:=r) dss (b++ds) (by rw [Ag];ext)
  have c1:=OS (mu:=mu) (m0:=mu) (ro:=[]) (x0:=some (.tup ds)) (r:=r) ds b (by ext)
  have tg:gNm 0 (.tup ds) (none::none::r) mu=some (some (.tup ds)::none::r,mu):=rfl
  have st:PV.stI (Ei (BX 0)) (gNm 1) tY (stL (BX 1)) b (some (.tup ds)::none::r) mu=some (b++ds,mu):=by
   unfold PV.stI
   rw [XB,Hb,CA,Xn,CA]
   exact c1
  rw [AO]
  unfold cGo
  rw [tg,CA,Tf,CA,if_pos rfl,st,CA,JX,ih,List.flatten_cons,List.append_assoc]
end PV
namespace PG
open PySem L2 PV PyProof.Rows K1
variable {mu:Sto}
inductive Lo where
 | of (w:Str)
 | pr (p:Str) (a b:Lo)
 | ro (a:Lo) (ts:List (Str×Str×Str))
 | co (a:Lo) (ws:List Str)
 | ca (a:Lo) (ps:List (Str×Str))
noncomputable def t3D (t:Str×Str×Str):D:=.tup [.str t.1,.str t.2.1,.str t.2.2]
noncomputable def loD:Lo->D
 | .of w=>.tup [.str "of",.str w]
 | .pr p a b=>.tup [.str p,loD a,loD b]
 | .ro a ts=>.tup [.str "rows",loD a,.tup (ts.map t3D)]
 | .co a ws=>.tup [.str "columns",loD a,.tup (ws.map D.str)]
 | .ca a ps=>.tup [.str "called",loD a,.tup (ps.map prD)]
noncomputable def nS (n:Nat):Str:=Str.ofString (toString (n:Int))
noncomputable def loW:Lo->List Str
 | .of w=>["of",w]
 | .pr p a b=>p::(loW a++loW b)
 | .ro a ts=>"rows"::nS ts.length::((ts.flatMap λt=>[t.1,t.2.1,t.2.2])++loW a)
 | .co a ws=>"columns"::nS ws.length::(ws++loW a)
 | .ca a ps=>"called"::nS ps.length::((ps.flatMap λp=>[p.1,p.2])++loW a)
def OkL:Nat->Lo->Prop
 | 0,_=>False
 | _+1,.of w=>IsW w
 | n+1,.pr p a b=>p∈(["join","union","gap"]:List Str)∧OkL n a∧OkL n b
 | n+1,.ro a ts=>(1≤ts.length∧ts.length≤4)∧(∀ t∈ts,t.1∈(["is","not","like","unlike"]:List Str)∧IsW t.2.1∧IsW t.2.2)∧OkL n a
 | n+1,.co a ws=>(1≤ws.length∧ws.length≤99)∧(∀ w∈ws,IsW w)∧OkL n a
 | n+1,.ca a ps=>(1≤ps.length∧ps.length≤99)∧(∀ p∈ps,IsW p.1∧IsW p.2)∧OkL n a
theorem HA {n:Nat}(h:n≤99):GU [.int n] mu=some (.str (nS n),mu):=by
 have e:GU [.int n] mu=if (n:Int).natAbs.log2<1920∧(Str.ofString (toString (n:Int))).length≤sizeLine∧PyData.strOk (Str.ofString (toString (n:Int)))=true then some (.str (Str.ofString (toString (n:Int))),mu) else none:=rfl
 have key:∀ n:Nat,n<100->((n:Int).natAbs.log2<1920∧(Str.ofString (toString (n:Int))).length≤16777216∧PyData.strOk (Str.ofString (toString (n:Int)))=true):=by symm
 rw [e,if_pos (by rw [As];exact key n (by ext))]
 rfl
theorem Pr {w:Str}{b:Bool}(h:decide (w∈(["join","union","gap"]:List Str))=b):inG (.str w) (.tup [.str "join",.str "union",.str "gap"]) mu=some (.bl b,mu):=by rw [← h];exact MI (ss:=["join","union","gap"])
theorem IH:∀ (f n:Nat) (l:Lo) (mu:Sto),n≤f->OkL n l->(loW l).length≤1000000->Cv f [loD l] mu=some (.lst ((loW l).map D.str),mu)
 | 0,n,l,mu,hn,ok,_=>by cases (show n=0 by ext);exact ok.elim
 | f+1,0,l,mu,_,ok,_=>ok.elim
 | f+1,n+1,.of w,mu,hn,ok,hl=>by
  have d1:decide (Str.ofString "of"=Str.ofString "of")=true:=by simp
  have lf:Jb [.tup [.str "of",.str w]] mu=some (.lst [.str "of",.str w],mu):=rfl
  unfold loD
  simp! [Cv,Dc,d1,lf]
  rfl
 | f+1,n+1,.pr p a b,mu,hn,ok,hl=>by
  obtain ⟨hp,ha,hb⟩:=ok
  have hl':(loW a).length+(loW b).length+1≤1000000:=by simpa [loW,Nat.add_assoc] using hl
  have ea:=IH f n a mu (by ext) ha (by ext)
  have eb:=IH f n b mu (by ext) hb (by ext)
  have d1:decide (p=Str.ofString "of")=false:=by
   simp only [Ah,Au,AY] at hp
   rcases hp with rfl|rfl|rfl<;>symm
  have d2:=Pr (mu:=mu) (w:=p) (b:=true) (A9 hp)
  have a1:Ck (.lst [.str p]) (.lst ((loW a).map D.str)) mu=some (.lst (.str p::(loW a).map D.str),mu):=E5 (by rw [As];simp;ext)
  have a2:Ck (.lst (.str p::(loW a).map D.str)) (.lst ((loW b).map D.str)) mu=some (.lst (.str p::(loW a).map D.str++(loW b).map D.str),mu):=E5 (by rw [As];simp;ext)
  have el:D.str p::(loW a).map D.str++(loW b).map D.str=(loW (.pr p a b)).map D.str:=by simp [loW]
  rw [el] at a2
  unfold loD
  simp! [Cv,Dc,d1,d2,ea,eb,a1,a2]
 | f+1,n+1,.ro a ts,mu,hn,ok,hl=>by
  obtain ⟨⟨h1,h4⟩,ht,ha⟩:=ok
  have hl':(ts.flatMap λt=>[t.1,t.2.1,t.2.2]).length+(loW a).length+2≤1000000:=by
   have:(loW (.ro a ts)).length=(ts.flatMap λt=>[t.1,t.2.1,t.2.2]).length+(loW a).length+2:=by simp [loW]
   ext
  have ea:=IH f n a mu (by ext) ha (by ext)
  have d1:decide (Str.ofString "rows"=Str.ofString "of")=false:=by symm
  have d2:=Pr (mu:=mu) (w:="rows") (b:=false) (by symm)
  have d3:decide (Str.ofString "rows"=Str.ofString "columns")=false:=by symm
  have fl:(ts.map λt=>[D.str t.1,.str t.2.1,.str t.2.2]).flatten=(ts.flatMap λt=>[t.1,t.2.1,t.2.2]).map D.str:=by rw [List.map_flatMap];rfl
  have cg:=JB (mu:=mu) (m0:=mu) (r:=[]) (ts.map λt=>[D.str t.1,.str t.2.1,.str t.2.2]) [] (by rw [fl,Ac,List.length_nil];ext)
  rw [AQ,List.nil_append,fl] at cg
  have cg':cGo none mu (gNm 0) tY (PV.stI (Ei (BX 0)) (gNm 1) tY (stL (BX 1))) [none,none] (ts.map t3D) [] mu=some ((ts.flatMap λt=>[t.1,t.2.1,t.2.2]).map D.str,mu):=cg
  have ns:=HA (mu:=mu) (n:=ts.length) (by ext)
  have a1:Ck (.lst [.str "rows",.str (nS ts.length)]) (.lst ((ts.flatMap λt=>[t.1,t.2.1,t.2.2]).map D.str)) mu=some (.lst (.str "rows"::.str (nS ts.length)::(ts.flatMap λt=>[t.1,t.2.1,t.2.2]).map D.str),mu):=E5 (by rw [As,Ac];simp only [List.length_cons,List.length_nil];ext)
  have a2:Ck (.lst (.str "rows"::.str (nS ts.length)::(ts.flatMap λt=>[t.1,t.2.1,t.2.2]).map D.str)) (.lst ((loW a).map D.str)) mu=some (.lst ((loW (.ro a ts)).map D.str),mu):=by
   rw [E5 (by rw [As];simp only [List.length_cons,Ac];ext)]
   simp [loW]
  unfold loD
  simp! [Cv,Dc,d1,d2,d3,XH,cg',P7,Ac,ns,ea,a1,a2]
 | f+1,n+1,.co a ws,mu,hn,ok,hl=>by
  obtain ⟨⟨h1,h4⟩,ht,ha⟩:=ok
  have hl':ws.length+(loW a).length+2≤1000000:=by
   have:(loW (.co a ws)).length=ws.length+(loW a).length+2:=by simp [loW]
   ext
  have ea:=IH f n a mu (by ext) ha (by ext)
  have d1:decide (Str.ofString "columns"=Str.ofString "of")=false:=by symm
  have d2:=Pr (mu:=mu) (w:="columns") (b:=false) (by symm)
  have d3:decide (Str.ofString "columns"=Str.ofString "columns")=true:=by simp
  have ns:=HA (mu:=mu) (n:=ws.length) (by ext)
  have a1:Ck (.lst [.str "columns",.str (nS ws.length)]) (.lst (ws.map D.str)) mu=some (.lst (.str "columns"::.str (nS ws.length)::ws.map D.str),mu):=E5 (by rw [As,Ac];simp only [List.length_cons,List.length_nil];ext)
  have a2:Ck (.lst (.str "columns"::.str (nS ws.length)::ws.map D.str)) (.lst ((loW a).map D.str)) mu=some (.lst ((loW (.co a ws)).map D.str),mu):=by
   rw [E5 (by rw [As];simp only [List.length_cons,Ac];ext)]
   simp [loW]
  unfold loD
  simp! [Cv,Dc,d1,d2,d3,Ac,ns,ea,a1,a2]
 | f+1,n+1,.ca a ps,mu,hn,ok,hl=>by
  obtain ⟨⟨h1,h4⟩,ht,ha⟩:=ok
  have hl':(ps.flatMap λp=>[p.1,p.2]).length+(loW a).length+2≤1000000:=by
   have:(loW (.ca a ps)).length=(ps.flatMap λp=>[p.1,p.2]).length+(loW a).length+2:=by simp [loW]
   ext
  have ea:=IH f n a mu (by ext) ha (by ext)
  have d1:decide (Str.ofString "called"=Str.ofString "of")=false:=by symm
  have d2:=Pr (mu:=mu) (w:="called") (b:=false) (by symm)
  have d3:decide (Str.ofString "called"=Str.ofString "columns")=false:=by symm
  have fl:(ps.map λp=>[D.str p.1,.str p.2]).flatten=(ps.flatMap λp=>[p.1,p.2]).map D.str:=by rw [List.map_flatMap];rfl
  have cg:=JB (mu:=mu) (m0:=mu) (r:=[]) (ps.map λp=>[D.str p.1,.str p.2]) [] (by rw [fl,Ac,List.length_nil];ext)
  rw [AQ,List.nil_append,fl] at cg
  have cg':cGo none mu (gNm 0) tY (PV.stI (Ei (BX 0)) (gNm 1) tY (stL (BX 1))) [none,none] (ps.map prD) [] mu=some ((ps.flatMap λp=>[p.1,p.2]).map D.str,mu):=cg
  have ns:=HA (mu:=mu) (n:=ps.length) (by ext)
  have a1:Ck (.lst [.str "called",.str (nS ps.length)]) (.lst ((ps.flatMap λp=>[p.1,p.2]).map D.str)) mu=some (.lst (.str "called"::.str (nS ps.length)::(ps.flatMap λp=>[p.1,p.2]).map D.str),mu):=E5 (by rw [As,Ac];simp only [List.length_cons,List.length_nil];ext)
  have a2:Ck (.lst (.str "called"::.str (nS ps.length)::(ps.flatMap λp=>[p.1,p.2]).map D.str)) (.lst ((loW a).map D.str)) mu=some (.lst ((loW (.ca a ps)).map D.str),mu):=by
   rw [E5 (by rw [As];simp only [List.length_cons,Ac];ext)]
   simp [loW]
  unfold loD
  simp! [Cv,Dc,d1,d2,d3,XH,cg',P7,Ac,ns,ea,a1,a2]
theorem PB:∀ n:Nat,n<100->1≤n->((nS n).length≤2∧(nS n).cps.toList[0]?.any (λc=>c != 48)=true∧(nS n).cps.toList.all (λc=>decide (c∈(Str.ofString "0123456789").cps.toList))=true∧PySem.intText? (nS n)=some (n:Int)):=by symm
theorem N1 {n:Nat}(h1:1≤n)(h:n≤99):Dr [.str (nS n)] mu=some (.int n,mu):=by
 obtain ⟨k1,k2,k3,k4⟩:=PB n (by ext) h1
 have d1:decide ((2:Int)<((nS n).length:Int))=false:=by rw [BA];ext
 obtain ⟨c,e0,hc⟩:∃ c,(nS n).cps.toList[0]? = some c∧c≠48:=by
  cases q:(nS n).cps.toList[0]? with
  | none=>rw [q] at k2;cases k2
  | some c=>rw [q] at k2;exact ⟨c,rfl,by simpa using k2⟩
 have ix:ixG (.str (nS n)) (.int 0) mu=some (.str ⟨#[c]⟩,mu):=by
  have e:ixD (.str (nS n)) (.int 0) mu=some (.str ⟨#[c]⟩,mu):=by
   unfold ixD
   dsimp only
   have il:0<(nS n).cps.toList.length:=(Af.mp e0).1
   have e2:ixN (nS n).cps.toList.length 0=some 0:=by unfold ixN;rw [if_pos (Int.le_refl _),if_pos (by ext)];rfl
   unfold atI
   rw [e2,Option.bind_some,e0]
   rfl
  unfold ixG
  rw [e]
 have d2:decide ((⟨#[c]⟩:Str)=Str.ofString "0")=false:=by
  rw [BA]
  intro e
  have:=congrArg (λx:Str=>x.cps.toList) e
  have e':[c]=[48]:=this
  injection e' with e'
  exact hc e'
 have al:=MU (m0:=mu) (tg:=gNm 0) (el:=B2 inG (BX 0) (eC (.str "0123456789"))) (ro:=[none]) (mu:=mu) (λd=>match d with|.str y=>y.cps.toList.all (λc=>decide (c∈(Str.ofString "0123456789").cps.toList))|_=>false) (chars (nS n)) (λd hd=>by
  unfold chars at hd
  obtain ⟨c,_,rfl⟩:=Aw.mp hd
  refine ⟨_,rfl,?_⟩
  have:=VB (mu:=mu) (x:=Str.ofString "0123456789") (n:=c)
  simp at this ⊢
  exact this)
 have ac:(chars (nS n)).all (λd=>match d with|.str y=>y.cps.toList.all (λc=>decide (c∈(Str.ofString "0123456789").cps.toList))|_=>false)=true:=by
  unfold chars
  rw [List.all_map,Ar]
  intro c hc
  have:=Ar.mp k3 c hc
  simpa using this
 have it:Q7 [.str (nS n)] mu=some (.int n,mu):=by
  unfold Q7
  simp only [Fh,k4]
  rw [if_pos (by ext)]
 simp! [Dr,ET,d1,ix,d2,al,ac,it]
theorem Ot {α:Type}{xs:List α}{i j:Nat}(h1:i≤j)(h:j≤xs.length):PV.cutD xs (some (i:Int)) (some (j:Int))=(xs.drop i).take (j-i):=by
 unfold PV.cutD
 rw [HT.HQ,HT.HQ,Nat.min_eq_left h,Nat.min_eq_left (by ext)]
theorem chunk {α:Type}(c:Nat):∀ (xs:List (List α)),(∀ x∈xs,x.length=c)->(List.range xs.length).map (λi=>(xs.flatten.drop (i*c)).take c)=xs
 | [],_=>rfl
 | x::xs,h=>by
  have hx:=h x (.head _)
  have ih:=chunk c xs λy hy=>h y (.tail _ hy)
  rw [List.length_cons,List.range_succ_eq_map,AO,AQ,List.flatten_cons]
  congr 1
  ·rw [Nat.zero_mul,List.drop_zero,List.take_left' hx]
  ·refine Eq.trans (List.map_congr_left λi _=>?_) ih
   show ((x++xs.flatten).drop ((i+1)*c)).take c=_
   rw [Nat.succ_mul,Nat.add_comm,List.drop_append,hx,List.drop_eq_nil_of_le (by ext),List.nil_append,Nat.add_sub_cancel_left]
theorem Nk:∀ n:Nat,n<100->(Builtin.divisionGoesByPylong ((n*3:Nat)-0:Int) 3=false∧Builtin.Range.small 0 ((n*3:Nat):Int) 3=true∧Builtin.Range.rangeSize 0 ((n*3:Nat):Int) 3=(n:Int)):=by symm
theorem Nn:∀ n:Nat,n<100->(Builtin.divisionGoesByPylong ((n*2:Nat)-0:Int) 2=false∧Builtin.Range.small 0 ((n*2:Nat):Int) 2=true∧Builtin.Range.rangeSize 0 ((n*2:Nat):Int) 2=(n:Int)):=by symm
theorem rg3 {a:Exs}{ro:Ro}{n c:Nat}(hn:n≤99)(hc:c=2∨c=3)(h:a ro mu=some ([.int 0,.int ((n*c:Nat):Int),.int (c:Nat)],mu)):NS a ro mu=some ((Jf 0 (c:Nat) n,none),mu):=by
 have f:(c:Int)≠0∧Builtin.divisionGoesByPylong (((n*c:Nat):Int)-0) (c:Nat)=false∧Builtin.Range.small 0 ((n*c:Nat):Int) (c:Nat)=true∧Builtin.Range.rangeSize 0 ((n*c:Nat):Int) (c:Nat)=(n:Int):=by
  rcases hc with rfl|rfl
  ·exact ⟨by decide,Nn n (by ext)⟩
  ·exact ⟨by decide,Nk n (by ext)⟩
 have i3:ints3 [.int 0,.int ((n*c:Nat):Int),.int (c:Nat)]=some (0,((n*c:Nat):Int),((c:Nat):Int)):=rfl
 unfold NS
 rw [h,CA,i3]
 dsimp only
 rw [f.2.2.2,if_pos ⟨f.1,f.2.1,f.2.2.1,by ext,by rw [As];ext⟩,Int.toNat_natCast]
theorem pieces {c n:Nat}{xs:List (List D)}(hx:∀ x∈xs,x.length=c)(hn:xs.length=n){m0:Sto}:EM none m0 (gNm 0) tY (eSl (BX 1) (De (BX 0)) (De (B2 Ck (BX 0) (BX 2)))) [none,some (.tup xs.flatten),some (.int (c:Nat))] (Jf 0 (c:Nat) n) mu=some (xs.map D.tup,mu):=by
 have fl:xs.flatten.length=n*c:=by
  rw [List.length_flatten,← hn]
  clear hn
  induction xs with
  | nil=>simp
  | cons x xs ih =>
   rw [AO,List.sum_cons,List.length_cons,Nat.succ_mul,ih λy hy=>hx y (.tail _ hy),hx x (.head _)]
   ext
 have lc:=G3 (m0:=m0) (tg:=gNm 0) (el:=(eSl (BX 1) (De (BX 0)) (De (B2 Ck (BX 0) (BX 2))))) (ro:=[none,some (.tup xs.flatten),some (.int (c:Nat))]) (mu:=mu) (λd=>match d with|.int i=>.tup ((xs.flatten.drop i.toNat).take c)|_=>.non) (Jf 0 (c:Nat) n) (λd hd=>by
  unfold Jf at hd
  obtain ⟨i,hi,rfl⟩:=Aw.mp hd
  rw [BC] at hi
  refine ⟨_,rfl,?_⟩
  have e1:(0:Int)+(i:Int)*(c:Nat)=((i*c:Nat):Int):=by push_cast;ext
  have e2:((i*c:Nat):Int)+(c:Nat)=((i*c+c:Nat):Int):=by push_cast;ext
  have le:i*c+c≤xs.flatten.length:=by
   rw [fl,← Nat.succ_mul]
   exact Nat.mul_le_mul_right c hi
  have cm:=Ot (xs:=xs.flatten) (i:=i*c) (j:=i*c+c) (by ext) le
  rw [Nat.add_sub_cancel_left] at cm
  rw [e1]
  simp! [e2,cm,Int.toNat_natCast])
 rw [lc]
 congr 2
 unfold Jf
 rw [AQ]
 have ch:=chunk c xs hx
 rw [hn] at ch
 refine Eq.trans ?_ (congrArg (List.map D.tup) ch)
 rw [AQ]
 refine List.map_congr_left λi _=>?_
 have e1:(0:Int)+(i:Int)*(c:Nat)=((i*c:Nat):Int):=by push_cast;ext
 show D.tup ((xs.flatten.drop ((0:Int)+(i:Int)*(c:Nat)).toNat).take c)=D.tup ((xs.flatten.drop (i*c)).take c)
 rw [e1,Int.toNat_natCast]
theorem NH {m:Ex}{ro:Ro}(h:m ro mu=some (.str "columns",mu)):Ke ["rows","columns","called"] m ro mu=some (.bl false,mu):=by
 have hk:=Ds (Str.ofString "columns")
 have dm:decide (D.str "columns"∈(["rows","columns","called"]:List Str).map D.str)=true:=by rw [Ak];simp
 unfold Ke
 rw [h,CA,if_pos hk,dm]
 rfl
theorem Np {m:Ex}{ro:Ro}(h:m ro mu=some (.str "columns",mu)):Kb ["rows","columns","called"] [3,1,2] m ro mu=some (.int 1,mu):=by
 have hk:=Ds (Str.ofString "columns")
 have ne1:¬ Str.ofString "rows"=Str.ofString "columns":=by symm
 have ne2:¬ Str.ofString "rows"=Str.ofString "called":=by symm
 have ne3:¬ Str.ofString "columns"=Str.ofString "called":=by symm
 have dg:Ey (D.str "columns") ((["rows","columns","called"]:List Str).map D.str) (([3,1,2]:List Int).map D.int)=some (.int 1):=by simp [Ey,ne1,ne2,ne3]
 unfold Kb
 rw [h,CA,if_pos hk,dg]
 rfl
theorem Qr {m:Ex}{ro:Ro}(h:m ro mu=some (.str "called",mu)):Ke ["rows","columns","called"] m ro mu=some (.bl false,mu):=by
 have hk:=Ds (Str.ofString "called")
 have dm:decide (D.str "called"∈(["rows","columns","called"]:List Str).map D.str)=true:=by rw [Ak];simp
 unfold Ke
 rw [h,CA,if_pos hk,dm]
 rfl
theorem Qd {m:Ex}{ro:Ro}(h:m ro mu=some (.str "called",mu)):Kb ["rows","columns","called"] [3,1,2] m ro mu=some (.int 2,mu):=by
 have hk:=Ds (Str.ofString "called")
 have ne1:¬ Str.ofString "rows"=Str.ofString "columns":=by symm
 have ne2:¬ Str.ofString "rows"=Str.ofString "called":=by symm
 have ne3:¬ Str.ofString "columns"=Str.ofString "called":=by symm
 have dg:Ey (D.str "called") ((["rows","columns","called"]:List Str).map D.str) (([3,1,2]:List Int).map D.int)=some (.int 2):=by simp [Ey,ne1,ne2,ne3]
 unfold Kb
 rw [h,CA,if_pos hk,dg]
 rfl
theorem Th {m:Ex}{ro:Ro}(h:m ro mu=some (.str "rows",mu)):Ke ["rows","columns","called"] m ro mu=some (.bl false,mu):=by
 have hk:=Ds (Str.ofString "rows")
 have dm:decide (D.str "rows"∈(["rows","columns","called"]:List Str).map D.str)=true:=by rw [Ak];simp
 unfold Ke
 rw [h,CA,if_pos hk,dm]
 rfl
theorem U9 {m:Ex}{ro:Ro}(h:m ro mu=some (.str "rows",mu)):Kb ["rows","columns","called"] [3,1,2] m ro mu=some (.int 3,mu):=by
 have hk:=Ds (Str.ofString "rows")
 have ne1:¬ Str.ofString "rows"=Str.ofString "columns":=by symm
 have ne2:¬ Str.ofString "rows"=Str.ofString "called":=by symm
 have ne3:¬ Str.ofString "columns"=Str.ofString "called":=by symm
 have dg:Ey (D.str "rows") ((["rows","columns","called"]:List Str).map D.str) (([3,1,2]:List Int).map D.int)=some (.int 3):=by simp [Ey,ne1,ne2,ne3]
 unfold Kb
 rw [h,CA,if_pos hk,dg]
 rfl
def pT:Sx:=(Ce (sIf (tV (B2 eqD (BX 2) (eC (.str "columns")))) (sRt (Cq (BW (BX 6) (BW (BX 5) B0)))) (sNx)) (Ce (Ci (B1 D8 (BW (eLC (NS (BW (eC (.int 0)) (BW (B1 D0 (BW (BX 6) B0)) (BW (BX 4) B0)))) 1 [6,4] (gNm 0) (tY) (eSl (BX 1) (De (BX 0)) (De (B2 Ck (BX 0) (BX 2))))) B0)) (gNm 7)) (Ce (sIf (tAn (tV (B2 eqD (BX 2) (eC (.str "rows")))) (tO (tV (B2 gtD (BX 3) (eC (.int 4)))) (tNt (tV (B1 IZ (BW (eLC (Ei (BX 7)) 1 [] (gNm 0) (tY) (B2 inG (B2 ixG (BX 0) (eC (.int 0))) (eC (.tup ((["is","not","like","unlike"]:List Str).map D.str))))) B0)))))) (sRt (Cq (BW (eC .non) (BW (eC .non) B0)))) (sNx)) (sRt (Cq (BW (BX 7) (BW (BX 5) B0)))))))
theorem CH {s t:Sx}{ro ro':Ro}{m:Sto}(h:s ro mu=some ((.nx,ro'),m)):Ce s t ro mu=t ro' m:=by rw [Ss,h,B5,R0]
theorem JZ {Wl:List Str}{at0 n wd:Nat}{w:Str}{cs:List Str}(h0:Wl[at0]? = some w)(h1:Wl[at0+1]? = some (nS n))(n1:1≤n)(n9:n≤99)(w3:wd≤3)(hl:at0+2+n*wd≤Wl.length)(hcs:(Wl.drop (at0+2)).take (n*wd)=cs)
  (hng:Ke ["rows","columns","called"] (BX 2) [some (.lst (Wl.map D.str)),some (.int (at0:Nat)),some (.str w),some (.int n),none,none,none,none] mu=some (.bl false,mu))
  (hig:Kb ["rows","columns","called"] [3,1,2] (BX 2) [some (.lst (Wl.map D.str)),some (.int (at0:Nat)),some (.str w),some (.int n),none,none,none,none] mu=some (.int (wd:Nat),mu)) :
  DH [.lst (Wl.map D.str),.int (at0:Nat)] mu=bM (pT [some (.lst (Wl.map D.str)),some (.int (at0:Nat)),some (.str w),some (.int n),some (.int (wd:Nat)),some (.int ((at0+2+n*wd:Nat):Int)),some (.tup (cs.map D.str)),none] mu) J3:=by
 have i0:ixG (.lst (Wl.map D.str)) (.int (at0:Nat)) mu=some (.str w,mu):=NQ _ (.inl rfl) (by rw [Ap,h0,Option.map_some])
 have i1:ixG (.lst (Wl.map D.str)) (.int ((at0:Int)+1)) mu=some (.str (nS n),mu):=by
  rw [show (at0:Int)+1=((at0+1:Nat):Int) by ext]
  exact NQ _ (.inl rfl) (by rw [Ap,h1,Option.map_some])
 have nr:=N1 (mu:=mu) n1 n9
 have dz:decide ((n:Int)=0)=false:=by rw [BA];ext
 have cm:CMul (n:Int) (wd:Nat):=by
  have:wd=0∨wd=1∨wd=2∨wd=3:=by ext
  rcases this with rfl|rfl|rfl|rfl<;>exact .inr ⟨by decide,by decide⟩
 have eb:(at0:Int)+2+(n:Int)*(wd:Nat)=((at0+2+n*wd:Nat):Int):=by push_cast;ext
 have ea:(at0:Int)+2=((at0+2:Nat):Int):=by push_cast;ext
 have ct:PV.cutD (Wl.map D.str) (some ((at0:Int)+2)) (some ((at0+2+n*wd:Nat):Int))=cs.map D.str:=by
  rw [ea,Ot (by ext) (by rw [Ac];exact hl),← List.map_drop,← List.map_take,← hcs]
  congr 2
  ext
 have s1:Ci (B2 ixG (BX 0) (BX 1)) (gNm 2) [some (.lst (Wl.map D.str)),some (.int (at0:Nat)),none,none,none,none,none,none] mu=some ((.nx,[some (.lst (Wl.map D.str)),some (.int (at0:Nat)),some (.str w),none,none,none,none,none]),mu):=by
  rw [FN,CV,Hb,B5,H0,B5,i0,B5]
  rfl
 have s2:Ci (B1 Dr (BW (B2 ixG (BX 0) (B2 Ck (BX 1) (eC (.int 1)))) B0)) (gNm 3) [some (.lst (Wl.map D.str)),some (.int (at0:Nat)),some (.str w),none,none,none,none,none] mu=some ((.nx,[some (.lst (Wl.map D.str)),some (.int (at0:Nat)),some (.str w),some (.int n),none,none,none,none]),mu):=by
  rw [FN,Ek,D3,CV,Hb,B5,CV,H0,B5,z_C,B5,Gn,B5,i1,B5,Fw,B5,B5,nr,B5]
  rfl
 have s3:(sIf (tO (tV (Ke ["rows","columns","called"] (BX 2))) (tV (B2 eqD (BX 3) (eC (.int 0))))) (sRt (Cq (BW (eC .non) (BW (eC .non) B0)))) (sNx)) [some (.lst (Wl.map D.str)),some (.int (at0:Nat)),some (.str w),some (.int n),none,none,none,none] mu=some ((.nx,[some (.lst (Wl.map D.str)),some (.int (at0:Nat)),some (.str w),some (.int n),none,none,none,none]),mu):=by
  rw [FD,To,Fy,hng,B5,Ea,Option.map_some,B5,if_neg Am,Fy,CV,LU,B5,z_C,B5,Ow,B5,Ea,Option.map_some,dz,B5,if_neg Am,ML]
 have s4:Ci (Kb ["rows","columns","called"] [3,1,2] (BX 2)) (gNm 4) [some (.lst (Wl.map D.str)),some (.int (at0:Nat)),some (.str w),some (.int n),none,none,none,none] mu=some ((.nx,[some (.lst (Wl.map D.str)),some (.int (at0:Nat)),some (.str w),some (.int n),some (.int (wd:Nat)),none,none,none]),mu):=by
  rw [FN,hig,B5]
  rfl
 have s5:Ci (B2 Ck (B2 Ck (BX 1) (eC (.int 2))) (B2 Fu (BX 3) (BX 4))) (gNm 5) [some (.lst (Wl.map D.str)),some (.int (at0:Nat)),some (.str w),some (.int n),some (.int (wd:Nat)),none,none,none] mu=some ((.nx,[some (.lst (Wl.map D.str)),some (.int (at0:Nat)),some (.str w),some (.int n),some (.int (wd:Nat)),some (.int ((at0+2+n*wd:Nat):Int)),none,none]),mu):=by
  rw [FN,CV,CV,H0,B5,z_C,B5,Gn,B5,CV,LU,B5,PC,B5,Nz cm,B5,Gn,B5,eb]
  rfl
 have s6:Ci (B1 D8 (BW (eSl (BX 0) (De (B2 Ck (BX 1) (eC (.int 2)))) (De (BX 5))) B0)) (gNm 6) [some (.lst (Wl.map D.str)),some (.int (at0:Nat)),some (.str w),some (.int n),some (.int (wd:Nat)),some (.int ((at0+2+n*wd:Nat):Int)),none,none] mu=some ((.nx,[some (.lst (Wl.map D.str)),some (.int (at0:Nat)),some (.str w),some (.int n),some (.int (wd:Nat)),some (.int ((at0+2+n*wd:Nat):Int)),some (.tup (cs.map D.str)),none]),mu):=by
  rw [FN,Ek,D3,Zb,Hb,B5,Wa,CV,H0,B5,z_C,B5,Gn,B5,Xq,B5,Wa,VT,B5,Xq,B5,Vi,ct,B5,Fw,B5,B5,LI,B5]
  rfl
 unfold DH
 rw [KO]
 unfold Ip
 show bM (Ce _ _ [some (.lst (Wl.map D.str)),some (.int (at0:Nat)),none,none,none,none,none,none] mu) J3=_
 rw [CH s1,CH s2,CH s3,CH s4,CH s5,CH s6]
 rfl
theorem Gs {s t:Sx}{ro ro':Ro}{m:Sto}{d:D}(h:s ro mu=some ((.rt d,ro'),m)):Ce s t ro mu=some ((.rt d,ro'),m):=by rw [Ss,h,B5,RY]
theorem Vd {Wl:List Str}{at0 n:Nat}{cs:List Str}(h0:Wl[at0]? = some (Str.ofString "columns"))(h1:Wl[at0+1]? = some (nS n))(n1:1≤n)(n9:n≤99)(hl:at0+2+n*1≤Wl.length)(hcs:(Wl.drop (at0+2)).take (n*1)=cs):DH [.lst (Wl.map D.str),.int (at0:Nat)] mu=some (.tup [.tup (cs.map D.str),.int ((at0+2+n*1:Nat):Int)],mu):=by
 rw [JZ h0 h1 n1 n9 (by decide) hl hcs (NH rfl) (Np rfl)]
 have d1:decide (Str.ofString "columns"=Str.ofString "columns")=true:=by simp
 unfold pT
 rw [Gs (d:=.tup [.tup (cs.map D.str),.int ((at0+2+n*1:Nat):Int)]) (by rw [FD,Fy,CV,J8,B5,z_C,B5,HZ,B5,Ea,Option.map_some,d1,B5,if_pos rfl];rfl),B5,E4]
theorem Ts {Wl:List Str}{at0 n:Nat}{cs:List Str}(h0:Wl[at0]? = some (Str.ofString "called"))(h1:Wl[at0+1]? = some (nS n))(n1:1≤n)(n9:n≤99)(hl:at0+2+n*2≤Wl.length)(hcs:(Wl.drop (at0+2)).take (n*2)=cs){ps:List (Str×Str)}(hp:ps.length=n)(hf:cs=ps.flatMap λp=>[p.1,p.2]):DH [.lst (Wl.map D.str),.int (at0:Nat)] mu=some (.tup [.tup (ps.map prD),.int ((at0+2+n*2:Nat):Int)],mu):=by
 rw [JZ h0 h1 n1 n9 (by decide) hl hcs (Qr rfl) (Qd rfl)]
 have d1:decide (Str.ofString "called"=Str.ofString "columns")=false:=by symm
 have d2:decide (Str.ofString "called"=Str.ofString "rows")=false:=by symm
 have fl:cs.map D.str=(ps.map λp=>[D.str p.1,.str p.2]).flatten:=by rw [hf,List.map_flatMap];rfl
 have cl:(cs.map D.str).length=n*2:=by
  rw [Ac,← hcs,AZ,BR]
  ext
 have pc:=pieces (mu:=mu) (m0:=mu) (c:=2) (n:=n) (xs:=ps.map λp=>[D.str p.1,.str p.2]) (λx hx=>by obtain ⟨p,_,rfl⟩:=Aw.mp hx;rfl) (by rw [Ac];exact hp)
 rw [← fl,AQ] at pc
 have pc':EM none mu (gNm 0) tY (eSl (BX 1) (De (BX 0)) (De (B2 Ck (BX 0) (BX 2)))) [none,some (.tup (cs.map D.str)),some (.int (2:Nat))] (Jf 0 (2:Nat) n) mu=some (ps.map prD,mu):=pc
 have rg:=rg3 (mu:=mu) (n:=n) (c:=2) (a:=(BW (eC (.int 0)) (BW (B1 D0 (BW (BX 6) B0)) (BW (BX 4) B0)))) (ro:=[some (.lst (Wl.map D.str)),some (.int (at0:Nat)),some (.str "called"),some (.int n),some (.int (2:Nat)),some (.int ((at0+2+n*2:Nat):Int)),some (.tup (cs.map D.str)),none]) n9 (.inl rfl) (by
  rw [D3,z_C,B5,D3,Ek,D3,UR,B5,Fw,B5,B5,N5,B5,D3,PC,B5,Fw,B5,B5,B5,cl])
 have l1:eLC (NS (BW (eC (.int 0)) (BW (B1 D0 (BW (BX 6) B0)) (BW (BX 4) B0)))) 1 [6,4] (gNm 0) (tY) (eSl (BX 1) (De (BX 0)) (De (B2 Ck (BX 0) (BX 2)))) [some (.lst (Wl.map D.str)),some (.int (at0:Nat)),some (.str "called"),some (.int n),some (.int (2:Nat)),some (.int ((at0+2+n*2:Nat):Int)),some (.tup (cs.map D.str)),none] mu=some (.lst (ps.map prD),mu):=by
  rw [UA,rg,B5]
  have r:r0 1 [6,4] [some (.lst (Wl.map D.str)),some (.int (at0:Nat)),some (.str "called"),some (.int n),some (.int (2:Nat)),some (.int ((at0+2+n*2:Nat):Int)),some (.tup (cs.map D.str)),none]=[none,some (.tup (cs.map D.str)),some (.int (2:Nat))]:=rfl
  dsimp only
  rw [r,pc',B5]
 unfold pT
 rw [CH (ro':=[some (.lst (Wl.map D.str)),some (.int (at0:Nat)),some (.str "called"),some (.int n),some (.int (2:Nat)),some (.int ((at0+2+n*2:Nat):Int)),some (.tup (cs.map D.str)),none]) (by rw [FD,Fy,CV,J8,B5,z_C,B5,HZ,B5,Ea,Option.map_some,d1,B5,if_neg Am];rfl),
  CH (ro':=[some (.lst (Wl.map D.str)),some (.int (at0:Nat)),some (.str "called"),some (.int n),some (.int (2:Nat)),some (.int ((at0+2+n*2:Nat):Int)),some (.tup (cs.map D.str)),some (.tup (ps.map prD))]) (by rw [FN,Ek,D3,l1,B5,Fw,B5,B5,LI,B5];rfl),
  CH (ro':=[some (.lst (Wl.map D.str)),some (.int (at0:Nat)),some (.str "called"),some (.int n),some (.int (2:Nat)),some (.int ((at0+2+n*2:Nat):Int)),some (.tup (cs.map D.str)),some (.tup (ps.map prD))]) (by rw [FD,SA,Fy,CV,J8,B5,z_C,B5,HZ,B5,Ea,Option.map_some,d2,B5,if_neg Am,B5,if_neg Am];rfl)]
 rfl
theorem Te {Wl:List Str}{at0 n:Nat}{cs:List Str}(h0:Wl[at0]? = some (Str.ofString "rows"))(h1:Wl[at0+1]? = some (nS n))(n1:1≤n)(n9:n≤99)(hl:at0+2+n*3≤Wl.length)(hcs:(Wl.drop (at0+2)).take (n*3)=cs)(n4:n≤4){ps:List (Str×Str×Str)}(hp:ps.length=n)(hf:cs=ps.flatMap λp=>[p.1,p.2.1,p.2.2])(ht:∀ t∈ps,t.1∈(["is","not","like","unlike"]:List Str)):DH [.lst (Wl.map D.str),.int (at0:Nat)] mu=some (.tup [.tup (ps.map t3D),.int ((at0+2+n*3:Nat):Int)],mu):=by
 rw [JZ h0 h1 n1 n9 (by decide) hl hcs (Th rfl) (U9 rfl)]
 have d1:decide (Str.ofString "rows"=Str.ofString "columns")=false:=by symm
 have d2:decide (Str.ofString "rows"=Str.ofString "rows")=true:=by simp
 have d4:decide ((4:Int)<(n:Int))=false:=by rw [BA];ext
 have al:=MU (m0:=mu) (tg:=gNm 0) (el:=(B2 inG (B2 ixG (BX 0) (eC (.int 0))) (eC (.tup ((["is","not","like","unlike"]:List Str).map D.str))))) (ro:=[none]) (mu:=mu) (λ_=>true) (ps.map t3D) (λd hd=>by
  obtain ⟨t,ht',rfl⟩:=Aw.mp hd
  refine ⟨[some (t3D t)],rfl,?_⟩
  have i:ixG (t3D t) (.int 0) mu=some (.str t.1,mu):=NQ (j:=0) _ (.inr rfl) rfl
  have inn:=MI (mu:=mu) (x:=t.1) (ss:=["is","not","like","unlike"])
  rw [A9 (ht t ht')] at inn
  rw [CV,CV,Hb,B5,z_C,B5,i,B5,z_C,B5]
  exact inn)
 have ac:IZ [.lst (((ps.map t3D).map λ_=>true).map D.bl)] mu=some (.bl true,mu):=by
  rw [NN]
  simp
 have fl:cs.map D.str=(ps.map λp=>[D.str p.1,.str p.2.1,.str p.2.2]).flatten:=by rw [hf,List.map_flatMap];rfl
 have cl:(cs.map D.str).length=n*3:=by
  rw [Ac,← hcs,AZ,BR]
  ext
 have pc:=pieces (mu:=mu) (m0:=mu) (c:=3) (n:=n) (xs:=ps.map λp=>[D.str p.1,.str p.2.1,.str p.2.2]) (λx hx=>by obtain ⟨p,_,rfl⟩:=Aw.mp hx;rfl) (by rw [Ac];exact hp)
 rw [← fl,AQ] at pc
 have pc':EM none mu (gNm 0) tY (eSl (BX 1) (De (BX 0)) (De (B2 Ck (BX 0) (BX 2)))) [none,some (.tup (cs.map D.str)),some (.int (3:Nat))] (Jf 0 (3:Nat) n) mu=some (ps.map t3D,mu):=pc
 have rg:=rg3 (mu:=mu) (n:=n) (c:=3) (a:=(BW (eC (.int 0)) (BW (B1 D0 (BW (BX 6) B0)) (BW (BX 4) B0)))) (ro:=[some (.lst (Wl.map D.str)),some (.int (at0:Nat)),some (.str "rows"),some (.int n),some (.int (3:Nat)),some (.int ((at0+2+n*3:Nat):Int)),some (.tup (cs.map D.str)),none]) n9 (.inr rfl) (by
  rw [D3,z_C,B5,D3,Ek,D3,UR,B5,Fw,B5,B5,N5,B5,D3,PC,B5,Fw,B5,B5,B5,cl])
 have l1:eLC (NS (BW (eC (.int 0)) (BW (B1 D0 (BW (BX 6) B0)) (BW (BX 4) B0)))) 1 [6,4] (gNm 0) (tY) (eSl (BX 1) (De (BX 0)) (De (B2 Ck (BX 0) (BX 2)))) [some (.lst (Wl.map D.str)),some (.int (at0:Nat)),some (.str "rows"),some (.int n),some (.int (3:Nat)),some (.int ((at0+2+n*3:Nat):Int)),some (.tup (cs.map D.str)),none] mu=some (.lst (ps.map t3D),mu):=by
  rw [UA,rg,B5]
  have r:r0 1 [6,4] [some (.lst (Wl.map D.str)),some (.int (at0:Nat)),some (.str "rows"),some (.int n),some (.int (3:Nat)),some (.int ((at0+2+n*3:Nat):Int)),some (.tup (cs.map D.str)),none]=[none,some (.tup (cs.map D.str)),some (.int (3:Nat))]:=rfl
  dsimp only
  rw [r,pc',B5]
 unfold pT
 rw [CH (ro':=[some (.lst (Wl.map D.str)),some (.int (at0:Nat)),some (.str "rows"),some (.int n),some (.int (3:Nat)),some (.int ((at0+2+n*3:Nat):Int)),some (.tup (cs.map D.str)),none]) (by rw [FD,Fy,CV,J8,B5,z_C,B5,HZ,B5,Ea,Option.map_some,d1,B5,if_neg Am];rfl),
  CH (ro':=[some (.lst (Wl.map D.str)),some (.int (at0:Nat)),some (.str "rows"),some (.int n),some (.int (3:Nat)),some (.int ((at0+2+n*3:Nat):Int)),some (.tup (cs.map D.str)),some (.tup (ps.map t3D))]) (by rw [FN,Ek,D3,l1,B5,Fw,B5,B5,LI,B5];rfl),
  CH (ro':=[some (.lst (Wl.map D.str)),some (.int (at0:Nat)),some (.str "rows"),some (.int n),some (.int (3:Nat)),some (.int ((at0+2+n*3:Nat):Int)),some (.tup (cs.map D.str)),some (.tup (ps.map t3D))]) (by
   rw [FD,SA,Fy,CV,J8,B5,z_C,B5,HZ,B5,Ea,Option.map_some,d2,B5,if_pos rfl,To,Fy,CV,LU,B5,z_C,B5,VE,B5,Ea,Option.map_some,d4,B5,if_neg Am,VF,Fy,Ek,D3,UA,XB,Yf,B5,Xn,B5]
   dsimp only
   have r:r0 1 [] [some (.lst (Wl.map D.str)),some (.int (at0:Nat)),some (.str "rows"),some (.int n),some (.int (3:Nat)),some (.int ((at0+2+n*3:Nat):Int)),some (.tup (cs.map D.str)),some (.tup (ps.map t3D))]=[none]:=rfl
   rw [r,al,B5,B5,Fw,B5,B5,ac,B5,Ea,Option.map_some,B5,B5]
   rfl)]
 rfl
def qT (f:Fn):Sx:=(Ce (Ci (B1 DH (BW (BX 0) (BW (BX 1) B0))) (gTp 2 (Cf (gNm 8) (Cf (gNm 9) Dd)))) (Ce (Ci (eIf (tV (B2 isD (BX 8) (eC .non))) (Cq (BW (eC .non) (BW (eC .non) B0))) (B1 f (BW (BX 0) (BW (BX 9) (BW (B2 F9 (BX 2) (eC (.int 1))) B0))))) (gTp 2 (Cf (gNm 4) (Cf (gNm 7) Dd)))) (sRt (eIf (tV (B2 isD (BX 4) (eC .non))) (Cq (BW (eC .non) (BW (eC .non) B0))) (Cq (BW (Cq (BW (BX 3) (BW (BX 4) (BW (BX 8) B0)))) (BW (BX 7) B0)))))))
def qP (f:Fn):Sx:=(Ce (Ci (B1 f (BW (BX 0) (BW (B2 Ck (BX 1) (eC (.int 1))) (BW (B2 F9 (BX 2) (eC (.int 1))) B0)))) (gTp 2 (Cf (gNm 4) (Cf (gNm 5) Dd)))) (Ce (Ci (eIf (tV (B2 isD (BX 4) (eC .non))) (Cq (BW (eC .non) (BW (eC .non) B0))) (B1 f (BW (BX 0) (BW (BX 5) (BW (B2 F9 (BX 2) (eC (.int 1))) B0))))) (gTp 2 (Cf (gNm 6) (Cf (gNm 7) Dd)))) (sRt (eIf (tV (B2 isD (BX 6) (eC .non))) (Cq (BW (eC .non) (BW (eC .non) B0))) (Cq (BW (Cq (BW (BX 3) (BW (BX 4) (BW (BX 6) B0)))) (BW (BX 7) B0)))))))
def qO:Sx:=(sRt (Cq (BW (Cq (BW (eC (.str "of")) (BW (B2 ixG (BX 0) (B2 Ck (BX 1) (eC (.int 1)))) B0))) (BW (B2 Ck (BX 1) (eC (.int 2))) B0))))
theorem Nx {f:Nat}{Wl:List Str}{at0 dp:Nat}{w:Str}(h0:Wl[at0]? = some w)(hl:at0+2≤Wl.length)(hd:1≤dp) :
  CD (f+1) [.lst (Wl.map D.str),.int (at0:Nat),.int (dp:Nat)] mu=bM ((Ce (sIf (tV (B2 eqD (BX 3) (eC (.str "of")))) qO (sNx)) (Ce (sIf (tV (B2 inG (BX 3) (eC (.tup ((["join","union","gap"]:List Str).map D.str))))) (qP (CD f)) (sNx)) (qT (CD f)))) [some (.lst (Wl.map D.str)),some (.int (at0:Nat)),some (.int (dp:Nat)),some (.str w),none,none,none,none,none,none] mu) J3:=by
 have i0:ixG (.lst (Wl.map D.str)) (.int (at0:Nat)) mu=some (.str w,mu):=NQ _ (.inl rfl) (by rw [Ap,h0,Option.map_some])
 have dz:decide ((dp:Int)=0)=false:=by rw [BA];ext
 have dg:decide (((Wl.map D.str).length:Int)≤(at0:Int)+1)=false:=by rw [BA,Ac];ext
 have s1:(sIf (tO (tV (B2 eqD (BX 2) (eC (.int 0)))) (tV (B2 geD (B2 Ck (BX 1) (eC (.int 1))) (B1 D0 (BW (BX 0) B0))))) (sRt (Cq (BW (eC .non) (BW (eC .non) B0)))) (sNx)) [some (.lst (Wl.map D.str)),some (.int (at0:Nat)),some (.int (dp:Nat)),none,none,none,none,none,none,none] mu=some ((.nx,[some (.lst (Wl.map D.str)),some (.int (at0:Nat)),some (.int (dp:Nat)),none,none,none,none,none,none,none]),mu):=by
  rw [FD,To,Fy,CV,J8,B5,z_C,B5,Ow,B5,Ea,Option.map_some,dz,B5,if_neg Am,Fy,CV,CV,H0,B5,z_C,B5,Gn,B5,Ek,D3,Hb,B5,Fw,B5,B5,RX,B5,Vw,B5,Ea,Option.map_some,dg,B5,if_neg Am]
  rfl
 have s2:Ci (B2 ixG (BX 0) (BX 1)) (gNm 3) [some (.lst (Wl.map D.str)),some (.int (at0:Nat)),some (.int (dp:Nat)),none,none,none,none,none,none,none] mu=some ((.nx,[some (.lst (Wl.map D.str)),some (.int (at0:Nat)),some (.int (dp:Nat)),some (.str w),none,none,none,none,none,none]),mu):=by
  rw [FN,CV,Hb,B5,H0,B5,i0,B5]
  rfl
 show fnB 10 (Gm (CD f)) _ _=_
 rw [KO]
 unfold Gm
 show bM (Ce _ _ [some (.lst (Wl.map D.str)),some (.int (at0:Nat)),some (.int (dp:Nat)),none,none,none,none,none,none,none] mu) J3=_
 rw [CH s1,CH s2]
 rfl
theorem YH {f:Nat}{Wl:List Str}{at0 dp:Nat}{x:Str}(h0:Wl[at0]? = some (Str.ofString "of"))(h1:Wl[at0+1]? = some x)(hl:at0+2≤Wl.length)(hd:1≤dp):CD (f+1) [.lst (Wl.map D.str),.int (at0:Nat),.int (dp:Nat)] mu=some (.tup [.tup [.str "of",.str x],.int ((at0+2:Nat):Int)],mu):=by
 have i1:ixG (.lst (Wl.map D.str)) (.int ((at0:Int)+1)) mu=some (.str x,mu):=by
  rw [show (at0:Int)+1=((at0+1:Nat):Int) by ext]
  exact NQ _ (.inl rfl) (by rw [Ap,h1,Option.map_some])
 have d1:decide (Str.ofString "of"=Str.ofString "of")=true:=by simp
 rw [Nx h0 hl hd,Gs (d:=.tup [.tup [.str "of",.str x],.int ((at0+2:Nat):Int)]) (ro':=[some (.lst (Wl.map D.str)),some (.int (at0:Nat)),some (.int (dp:Nat)),some (.str "of"),none,none,none,none,none,none]) (m:=mu) (by
  rw [FD,Fy,CV,LU,B5,z_C,B5,HZ,B5,Ea,Option.map_some,d1,B5,if_pos rfl]
  unfold qO
  rw [PY,QP,D3,QP,D3,z_C,B5,D3,CV,Hb,B5,CV,H0,B5,z_C,B5,Gn,B5,i1,B5,Fw,B5,B5,B5,B5,D3,CV,H0,B5,z_C,B5,Gn,B5,Fw,B5,B5,B5,B5]
  rfl),B5,E4]
theorem UW {f:Nat}{Wl:List Str}{at0 dp:Nat}{w:Str}{e1 e2:D}{a1 a2:Int}(h0:Wl[at0]? = some w)(hw:w∈(["join","union","gap"]:List Str))(hl:at0+2≤Wl.length)(hd:1≤dp)(n1:isN e1=false)(n2:isN e2=false)
  (r1:CD f [.lst (Wl.map D.str),.int ((at0:Int)+1),.int ((dp:Int)-1)] mu=some (.tup [e1,.int a1],mu)) (r2:CD f [.lst (Wl.map D.str),.int a1,.int ((dp:Int)-1)] mu=some (.tup [e2,.int a2],mu)) :
  CD (f+1) [.lst (Wl.map D.str),.int (at0:Nat),.int (dp:Nat)] mu=some (.tup [.tup [.str w,e1,e2],.int a2],mu):=by
 have d1:decide (w=Str.ofString "of")=false:=by
  simp only [Ah,Au,AY] at hw
  rcases hw with rfl|rfl|rfl<;>symm
 have d2:=MI (mu:=mu) (x:=w) (ss:=["join","union","gap"])
 rw [A9 hw] at d2
 have s1:(Ci (B1 (CD f) (BW (BX 0) (BW (B2 Ck (BX 1) (eC (.int 1))) (BW (B2 F9 (BX 2) (eC (.int 1))) B0)))) (gTp 2 (Cf (gNm 4) (Cf (gNm 5) Dd)))) [some (.lst (Wl.map D.str)),some (.int (at0:Nat)),some (.int (dp:Nat)),some (.str w),none,none,none,none,none,none] mu=some ((.nx,[some (.lst (Wl.map D.str)),some (.int (at0:Nat)),some (.int (dp:Nat)),some (.str w),some e1,some (.int a1),none,none,none,none]),mu):=by
  rw [FN,Ek,D3,Hb,B5,D3,CV,H0,B5,z_C,B5,Gn,B5,D3,CV,J8,B5,z_C,B5,Lm,B5,Fw,B5,B5,B5,B5,r1,B5]
  rfl
 have s2:(Ci (eIf (tV (B2 isD (BX 4) (eC .non))) (Cq (BW (eC .non) (BW (eC .non) B0))) (B1 (CD f) (BW (BX 0) (BW (BX 5) (BW (B2 F9 (BX 2) (eC (.int 1))) B0))))) (gTp 2 (Cf (gNm 6) (Cf (gNm 7) Dd)))) [some (.lst (Wl.map D.str)),some (.int (at0:Nat)),some (.int (dp:Nat)),some (.str w),some e1,some (.int a1),none,none,none,none] mu=some ((.nx,[some (.lst (Wl.map D.str)),some (.int (at0:Nat)),some (.int (dp:Nat)),some (.str w),some e1,some (.int a1),some e2,some (.int a2),none,none]),mu):=by
  rw [FN,Qa,Fy,CV,PC,B5,z_C,B5,M7,B5,Ea,Option.map_some,n1,B5,if_neg Am,Ek,D3,Hb,B5,D3,VT,B5,D3,CV,J8,B5,z_C,B5,Lm,B5,Fw,B5,B5,B5,B5,r2,B5]
  rfl
 have s3:(sRt (eIf (tV (B2 isD (BX 6) (eC .non))) (Cq (BW (eC .non) (BW (eC .non) B0))) (Cq (BW (Cq (BW (BX 3) (BW (BX 4) (BW (BX 6) B0)))) (BW (BX 7) B0))))) [some (.lst (Wl.map D.str)),some (.int (at0:Nat)),some (.int (dp:Nat)),some (.str w),some e1,some (.int a1),some e2,some (.int a2),none,none] mu=some ((.rt (.tup [.tup [.str w,e1,e2],.int a2]),[some (.lst (Wl.map D.str)),some (.int (at0:Nat)),some (.int (dp:Nat)),some (.str w),some e1,some (.int a1),some e2,some (.int a2),none,none]),mu):=by
  rw [PY,Qa,Fy,CV,UR,B5,z_C,B5,M7,B5,Ea,Option.map_some,n2,B5,if_neg Am]
  rfl
 rw [Nx h0 hl hd,CH (ro':=[some (.lst (Wl.map D.str)),some (.int (at0:Nat)),some (.int (dp:Nat)),some (.str w),none,none,none,none,none,none]) (m:=mu) (by
  rw [FD,Fy,CV,LU,B5,z_C,B5,HZ,B5,Ea,Option.map_some,d1,B5,if_neg Am,ML]),
  Gs (d:=.tup [.tup [.str w,e1,e2],.int a2]) (ro':=[some (.lst (Wl.map D.str)),some (.int (at0:Nat)),some (.int (dp:Nat)),some (.str w),some e1,some (.int a1),some e2,some (.int a2),none,none]) (m:=mu) (by
  rw [FD,Fy,CV,LU,B5,z_C,B5,d2,B5,Ea,Option.map_some,B5,if_pos rfl]
  unfold qP
  rw [CH s1,CH s2,s3]),B5,E4]
theorem Ir {f:Nat}{Wl:List Str}{at0 dp:Nat}{w:Str}{e1 pt:D}{a1 a2:Int}(h0:Wl[at0]? = some w)(hw:w∉(["join","union","gap"]:List Str))(ho:w≠"of")(hl:at0+2≤Wl.length)(hd:1≤dp)(n1:isN e1=false)(n2:isN pt=false)
  (rp:DH [.lst (Wl.map D.str),.int (at0:Nat)] mu=some (.tup [pt,.int a1],mu)) (r1:CD f [.lst (Wl.map D.str),.int a1,.int ((dp:Int)-1)] mu=some (.tup [e1,.int a2],mu)) :
  CD (f+1) [.lst (Wl.map D.str),.int (at0:Nat),.int (dp:Nat)] mu=some (.tup [.tup [.str w,e1,pt],.int a2],mu):=by
 have d1:decide (w=Str.ofString "of")=false:=AX ho
 have d2:=MI (mu:=mu) (x:=w) (ss:=["join","union","gap"])
 rw [AX hw] at d2
 have s1:(Ci (B1 DH (BW (BX 0) (BW (BX 1) B0))) (gTp 2 (Cf (gNm 8) (Cf (gNm 9) Dd)))) [some (.lst (Wl.map D.str)),some (.int (at0:Nat)),some (.int (dp:Nat)),some (.str w),none,none,none,none,none,none] mu=some ((.nx,[some (.lst (Wl.map D.str)),some (.int (at0:Nat)),some (.int (dp:Nat)),some (.str w),none,none,none,none,some pt,some (.int a1)]),mu):=by
  rw [FN,Ek,D3,Hb,B5,D3,H0,B5,Fw,B5,B5,B5,rp,B5]
  rfl
 have s2:(Ci (eIf (tV (B2 isD (BX 8) (eC .non))) (Cq (BW (eC .non) (BW (eC .non) B0))) (B1 (CD f) (BW (BX 0) (BW (BX 9) (BW (B2 F9 (BX 2) (eC (.int 1))) B0))))) (gTp 2 (Cf (gNm 4) (Cf (gNm 7) Dd)))) [some (.lst (Wl.map D.str)),some (.int (at0:Nat)),some (.int (dp:Nat)),some (.str w),none,none,none,none,some pt,some (.int a1)] mu=some ((.nx,[some (.lst (Wl.map D.str)),some (.int (at0:Nat)),some (.int (dp:Nat)),some (.str w),some e1,none,none,some (.int a2),some pt,some (.int a1)]),mu):=by
  rw [FN,Qa,Fy,CV,Zn,B5,z_C,B5,M7,B5,Ea,Option.map_some,n2,B5,if_neg Am,Ek,D3,Hb,B5,D3,Y6,B5,D3,CV,J8,B5,z_C,B5,Lm,B5,Fw,B5,B5,B5,B5,r1,B5]
  rfl
 have s3:(sRt (eIf (tV (B2 isD (BX 4) (eC .non))) (Cq (BW (eC .non) (BW (eC .non) B0))) (Cq (BW (Cq (BW (BX 3) (BW (BX 4) (BW (BX 8) B0)))) (BW (BX 7) B0))))) [some (.lst (Wl.map D.str)),some (.int (at0:Nat)),some (.int (dp:Nat)),some (.str w),some e1,none,none,some (.int a2),some pt,some (.int a1)] mu=some ((.rt (.tup [.tup [.str w,e1,pt],.int a2]),[some (.lst (Wl.map D.str)),some (.int (at0:Nat)),some (.int (dp:Nat)),some (.str w),some e1,none,none,some (.int a2),some pt,some (.int a1)]),mu):=by
  rw [PY,Qa,Fy,CV,PC,B5,z_C,B5,M7,B5,Ea,Option.map_some,n1,B5,if_neg Am]
  rfl
 rw [Nx h0 hl hd,CH (ro':=[some (.lst (Wl.map D.str)),some (.int (at0:Nat)),some (.int (dp:Nat)),some (.str w),none,none,none,none,none,none]) (m:=mu) (by
  rw [FD,Fy,CV,LU,B5,z_C,B5,HZ,B5,Ea,Option.map_some,d1,B5,if_neg Am,ML]),
  CH (ro':=[some (.lst (Wl.map D.str)),some (.int (at0:Nat)),some (.int (dp:Nat)),some (.str w),none,none,none,none,none,none]) (m:=mu) (by
  rw [FD,Fy,CV,LU,B5,z_C,B5,d2,B5,Ea,Option.map_some,B5,if_neg Am,ML])]
 unfold qT
 rw [CH s1,CH s2,s3,B5,E4]
theorem Iy (l:Lo):isN (loD l)=false:=by cases l<;>rfl
theorem WK (l:Lo):2≤(loW l).length:=by
 induction l with
 | of w=>simp [loW]
 | pr p a b iha ihb=>simp [loW];ext
 | ro a ts ih=>simp [loW]
 | co a ws ih=>simp [loW]
 | ca a ps ih=>simp [loW]
theorem Il:∀ (f n:Nat) (l:Lo) (mu:Sto) (pre post W:List Str) (dp:Nat),n≤f->n≤dp->OkL n l->W=pre++(loW l++post)->CD f [.lst (W.map D.str),.int (pre.length:Nat),.int (dp:Nat)] mu=some (.tup [loD l,.int ((pre.length+(loW l).length:Nat):Int)],mu)
 | 0,n,l,mu,pre,post,W,dp,hn,hd,ok,_=>by cases (show n=0 by ext);exact ok.elim
 | f+1,0,l,mu,pre,post,W,dp,hn,hd,ok,_=>ok.elim
 | f+1,n+1,.of w,mu,pre,post,W,dp,hn,hd,ok,hW=>by
  subst hW
  have h:=YH (f:=f) (mu:=mu) (Wl:=pre++(loW (.of w)++post)) (at0:=pre.length) (dp:=dp) (x:=w) (by simp [loW]) (by simp [loW]) (by simp [loW]) (by ext)
  exact h
 | f+1,n+1,.pr p a b,mu,pre,post,W,dp,hn,hd,ok,hW=>by
  obtain ⟨hp,ha,hb⟩:=ok
  have r1:=Il f n a mu (pre++[p]) (loW b++post) W (dp-1) (by ext) (by ext) ha (by rw [hW];simp [loW])
  have r2:=Il f n b mu (pre++[p]++loW a) post W (dp-1) (by ext) (by ext) hb (by rw [hW];simp [loW])
  have e1:((pre++[p]).length:Int)=(pre.length:Int)+1:=by simp
  have e2:((dp-1:Nat):Int)=(dp:Int)-1:=by ext
  have e3:(((pre++[p]++loW a).length:Nat):Int)=(((pre++[p]).length+(loW a).length:Nat):Int):=by rw [Ag]
  rw [e1,e2] at r1
  rw [e2,e3] at r2
  have h:=UW (f:=f) (mu:=mu) (Wl:=W) (at0:=pre.length) (dp:=dp) (w:=p) (by rw [hW];simp [loW]) hp (by rw [hW];have:=WK a;simp [loW];ext) (by ext) (Iy a) (Iy b) r1 r2
  rw [h]
  congr 4
  simp [loW]
  ext
 | f+1,n+1,.co a ws,mu,pre,post,W,dp,hn,hd,ok,hW=>by
  obtain ⟨⟨n1,n9⟩,hw,ha⟩:=ok
  have r1:=Il f n a mu (pre++([Str.ofString "columns",nS ws.length]++ws)) post W (dp-1) (by ext) (by ext) ha (by rw [hW];simp [loW])
  have e1:(((pre++([Str.ofString "columns",nS ws.length]++ws)).length:Nat):Int)=((pre.length+2+ws.length*1:Nat):Int):=by simp;ext
  have e2:((dp-1:Nat):Int)=(dp:Int)-1:=by ext
  have rp:=Vd (mu:=mu) (Wl:=W) (at0:=pre.length) (n:=ws.length) (cs:=ws) (by rw [hW];simp [loW]) (by rw [hW];simp [loW]) n1 n9 (by rw [hW];simp [loW];ext) (by rw [hW];simp [loW])
  rw [e1,e2] at r1
  have h:=Ir (f:=f) (mu:=mu) (Wl:=W) (at0:=pre.length) (dp:=dp) (w:="columns") (by rw [hW];simp [loW]) (by symm) (by symm) (by rw [hW];simp [loW]<;>ext) (by ext) (Iy a) rfl rp r1
  rw [h]
  congr 4
  simp [loW]
  ext
 | f+1,n+1,.ca a ps,mu,pre,post,W,dp,hn,hd,ok,hW=>by
  obtain ⟨⟨n1,n9⟩,hw,ha⟩:=ok
  have fl:(ps.flatMap λp=>[p.1,p.2]).length=ps.length*2:=by
   clear n1 n9 hw hW
   induction ps with
   | nil=>rfl
   | cons p ps ih=>rw [BE,Ag,ih,List.length_cons];simp;ext
  have r1:=Il f n a mu (pre++([Str.ofString "called",nS ps.length]++ps.flatMap λp=>[p.1,p.2])) post W (dp-1) (by ext) (by ext) ha (by rw [hW];simp [loW])
  have e1:(((pre++([Str.ofString "called",nS ps.length]++ps.flatMap λp=>[p.1,p.2])).length:Nat):Int)=((pre.length+2+ps.length*2:Nat):Int):=by rw [Ag,Ag,fl];simp;ext
  have e2:((dp-1:Nat):Int)=(dp:Int)-1:=by ext
  have wl:W.length=pre.length+(2+(ps.length*2+((loW a).length+post.length))):=by rw [hW];simp only [loW,Ag,List.length_cons,fl];ext
  have dr:W.drop (pre.length+2)=(ps.flatMap λp=>[p.1,p.2])++(loW a++post):=by rw [hW];simp [loW,List.drop_append]
  have rp:=Ts (mu:=mu) (Wl:=W) (at0:=pre.length) (n:=ps.length) (cs:=ps.flatMap λp=>[p.1,p.2]) (by rw [hW];simp [loW]) (by rw [hW];simp [loW]) n1 n9 (by ext) (by rw [dr,List.take_left' fl]) rfl rfl
  rw [e1,e2] at r1
  have h:=Ir (f:=f) (mu:=mu) (Wl:=W) (at0:=pre.length) (dp:=dp) (w:="called") (by rw [hW];simp [loW]) (by symm) (by symm) (by ext) (by ext) (Iy a) rfl rp r1
  have e4:(((pre++([Str.ofString "called",nS ps.length]++ps.flatMap λp=>[p.1,p.2])).length+(loW a).length:Nat):Int)=((pre.length+(loW (.ca a ps)).length:Nat):Int):=by
   simp only [loW,Ag,List.length_cons,List.length_nil,fl]
   ext
  rw [h,e4]
  rfl
 | f+1,n+1,.ro a ps,mu,pre,post,W,dp,hn,hd,ok,hW=>by
  obtain ⟨⟨n1,n4⟩,hw,ha⟩:=ok
  have fl:(ps.flatMap λp=>[p.1,p.2.1,p.2.2]).length=ps.length*3:=by
   clear n1 n4 hw hW
   induction ps with
   | nil=>rfl
   | cons p ps ih=>rw [BE,Ag,ih,List.length_cons];simp;ext
  have r1:=Il f n a mu (pre++([Str.ofString "rows",nS ps.length]++ps.flatMap λp=>[p.1,p.2.1,p.2.2])) post W (dp-1) (by ext) (by ext) ha (by rw [hW];simp [loW])
  have e1:(((pre++([Str.ofString "rows",nS ps.length]++ps.flatMap λp=>[p.1,p.2.1,p.2.2])).length:Nat):Int)=((pre.length+2+ps.length*3:Nat):Int):=by rw [Ag,Ag,fl];simp;ext
  have e2:((dp-1:Nat):Int)=(dp:Int)-1:=by ext
  have wl:W.length=pre.length+(2+(ps.length*3+((loW a).length+post.length))):=by rw [hW];simp only [loW,Ag,List.length_cons,fl];ext
  have dr:W.drop (pre.length+2)=(ps.flatMap λp=>[p.1,p.2.1,p.2.2])++(loW a++post):=by rw [hW];simp [loW,List.drop_append]
  have rp:=Te (mu:=mu) (Wl:=W) (at0:=pre.length) (n:=ps.length) (cs:=ps.flatMap λp=>[p.1,p.2.1,p.2.2]) (by rw [hW];simp [loW]) (by rw [hW];simp [loW]) n1 (by ext) (by ext) (by rw [dr,List.take_left' fl]) n4 rfl rfl (λt ht=>(hw t ht).1)
  rw [e1,e2] at r1
  have h:=Ir (f:=f) (mu:=mu) (Wl:=W) (at0:=pre.length) (dp:=dp) (w:="rows") (by rw [hW];simp [loW]) (by symm) (by symm) (by ext) (by ext) (Iy a) rfl rp r1
  have e4:(((pre++([Str.ofString "rows",nS ps.length]++ps.flatMap λp=>[p.1,p.2.1,p.2.2])).length+(loW a).length:Nat):Int)=((pre.length+(loW (.ro a ps)).length:Nat):Int):=by
   simp only [loW,Ag,List.length_cons,List.length_nil,fl]
   ext
  rw [h,e4]
  rfl
theorem L3:∀ n:Nat,n<100->wB (nS n)=true:=by symm
theorem Zz:∀ w∈(["of","rows","columns","called","join","union","gap","is","not","like","unlike"]:List Str),wB w=true:=by symm
theorem kw {w:Str}(h:w∈(["of","rows","columns","called","join","union","gap","is","not","like","unlike"]:List Str)):IsW w:=D5.mp (Zz w h)
theorem Nr:∀ (n:Nat) (l:Lo),OkL n l->∀ w∈loW l,IsW w
 | 0,l,ok=>ok.elim
 | n+1,.of w,ok=>λx hx=>by
  simp only [loW,Ah,Au,AY] at hx
  rcases hx with rfl|rfl
  ·exact kw (by simp)
  ·exact ok
 | n+1,.pr p a b,ok=>λx hx=>by
  obtain ⟨hp,ha,hb⟩:=ok
  simp only [loW,Ah,AE] at hx
  rcases hx with rfl|hx|hx
  ·simp only [Ah,Au,AY] at hp
   exact kw (by rcases hp with rfl|rfl|rfl<;>simp)
  ·exact Nr n a ha x hx
  ·exact Nr n b hb x hx
 | n+1,.ro a ts,ok=>λx hx=>by
  obtain ⟨⟨n1,n4⟩,ht,ha⟩:=ok
  simp only [loW,Ah,AE,List.mem_flatMap] at hx
  rcases hx with rfl|rfl|⟨t,h1,h2⟩|hx
  ·exact kw (by simp)
  ·exact D5.mp (L3 _ (by ext))
  ·obtain ⟨q1,q2,q3⟩:=ht t h1
   simp only [Au,AY] at h2
   rcases h2 with rfl|rfl|rfl
   ·simp only [Ah,Au,AY] at q1
    exact kw (by rcases q1 with q|q|q|q<;>rw [q]<;>simp)
   ·exact q2
   ·exact q3
  ·exact Nr n a ha x hx
 | n+1,.co a ws,ok=>λx hx=>by
  obtain ⟨⟨n1,n9⟩,hw,ha⟩:=ok
  simp only [loW,Ah,AE] at hx
  rcases hx with rfl|rfl|hx|hx
  ·exact kw (by simp)
  ·exact D5.mp (L3 _ (by ext))
  ·exact hw x hx
  ·exact Nr n a ha x hx
 | n+1,.ca a ps,ok=>λx hx=>by
  obtain ⟨⟨n1,n9⟩,hp,ha⟩:=ok
  simp only [loW,Ah,AE,List.mem_flatMap] at hx
  rcases hx with rfl|rfl|⟨p,h1,h2⟩|hx
  ·exact kw (by simp)
  ·exact D5.mp (L3 _ (by ext))
  ·simp only [Au,AY] at h2
   rcases h2 with rfl|rfl
   ·exact (hp p h1).1
   ·exact (hp p h1).2
  ·exact Nr n a ha x hx
theorem Uy {w:Str}(h:IsW w):∀ c∈w.cps.toList,c≠32:=λc hc e=>by
 have:=h.al c hc
 rw [e] at this
 exact absurd this (by symm)
theorem RH {n:Nat}{l:Lo}(hn:n≤16)(ok:OkL n l):Dx [.lst ((loW l).map D.str)] mu=some (loD l,mu):=by
 have al:=MU (m0:=mu) (tg:=gNm 0) (el:=(B1 EV (BW (BX 0) B0))) (ro:=[none]) (mu:=mu) (λ_=>true) ((loW l).map D.str) (λd hd=>by
  obtain ⟨w,hw,rfl⟩:=Aw.mp hd
  refine ⟨[some (.str w)],rfl,?_⟩
  have iw:=T8 (mu:=mu) (.str w) rfl
  have e:GP (.str w)=true:=D5.mpr (Nr n l ok w hw)
  rw [e] at iw
  rw [Ek,D3,Hb,B5,Fw,B5,B5,iw])
 have ac:IZ [.lst ((((loW l).map D.str).map λ_=>true).map D.bl)] mu=some (.bl true,mu):=by
  rw [NN]
  simp
 have la:=Il 18 n l mu [] [] (loW l) 16 (by ext) hn ok (by simp)
 have la':CD 18 [.lst ((loW l).map D.str),.int 0,.int 16] mu=some (.tup [loD l,.int ((loW l).length:Int)],mu):=by
  rw [List.length_nil,Bs] at la
  exact la
 have dl:decide (((loW l).length:Int)=(((loW l).map D.str).length:Int))=true:=by rw [Ac];simp
 simp! [Dx,Fg,al,ac,la',dl]
end PG
namespace PV
open PySem L2 PyProof.Rows K1
theorem QX:∀ (xs:List (List Nat)) (c:Nat),c∈jb xs->c=32∨∃ x∈xs,c∈x
 | [],c,h=>nomatch h
 | [x],c,h=>.inr ⟨x,.head _,h⟩
 | x::y::r,c,h=>by
  have h':c∈x++32::jb (y::r):=h
  rcases AE.mp h' with h|h
  ·exact .inr ⟨x,.head _,h⟩
  ·rcases Ah.mp h with h|h
   ·exact .inl h
   ·rcases QX (y::r) c h with h|⟨z,h1,h2⟩
    ·exact .inl h
    ·exact .inr ⟨z,.tail _ h1,h2⟩
theorem Su:∀ (xs:List (List Nat)),(jb xs).length≤(xs.map List.length).sum+xs.length
 | []=>by simp [jb]
 | [x]=>by simp [jb]
 | x::y::r=>by
  have ih:=Su (y::r)
  show (x++32::jb (y::r)).length≤_
  rw [Ag,List.length_cons,AO,List.sum_cons,List.length_cons (a:=x)]
  ext
end PV
namespace PG
open PySem L2 PV PyProof.Rows K1
variable {mu:Sto}
structure TxOk (ws:List Str):Prop where
 ne:ws≠[]
 len:ws.length≤20000
 w:∀ x∈ws,IsW x
theorem RM {ws:List Str}(h:∀ x∈ws,IsW x):(ws.map (·.length)).sum≤ws.length*8:=by
 induction ws with
 | nil=>simp
 | cons x xs ih =>
  have:=ih λy hy=>h y (.tail _ hy)
  have:=(h x (.head _)).hi
  rw [AO,List.sum_cons,List.length_cons,Nat.succ_mul]
  ext
theorem join_eq (ws:List Str):(Txt.join " " ws).cps.toList=jb (ws.map λx=>x.cps.toList):=by
 rw [show Txt.join " " ws=Str.join " " ws from StrLaws.glued_eq_join _ _,Jn]
theorem Fs {ws:List Str}(h:TxOk ws):(Txt.join " " ws).length≤200000:=by
 have e:(Txt.join " " ws).length=(Txt.join " " ws).cps.toList.length:=(Array.length_toList).symm
 have l:=Su (ws.map λx=>x.cps.toList)
 have s:=RM h.w
 have e2:((ws.map λx=>x.cps.toList).map List.length)=ws.map (·.length):=by
  rw [AQ]
  exact List.map_congr_left λx _=>Array.length_toList
 have hl:=h.len
 rw [e2,Ac] at l
 rw [e,join_eq]
 ext
theorem LA {ws:List Str}(h:TxOk ws):PyData.strOk (Txt.join " " ws)=true:=by
 unfold PyData.strOk
 rw [← Array.all_toList,Ar,join_eq]
 intro c hc
 rcases QX _ c hc with rfl|⟨x,hx,hc⟩
 ·decide
 ·obtain ⟨w,hw,rfl⟩:=Aw.mp hx
  exact MZ c ((h.w w hw).al c hc)
theorem Um {ws:List Str}(h:TxOk ws):Jc (.str " ") [.lst (ws.map D.str)] mu=some (.str (Txt.join " " ws),mu):=by
 have s:=RM h.w
 have hl:=h.len
 have jl:=Fs h
 unfold Jc
 simp only [Fh,Dg,JU]
 rw [if_pos ⟨by symm,by ext,by rw [As];ext,LA h⟩]
theorem Rz {n:Nat}{l:Lo}(hn:n≤18)(ok:OkL n l)(h:TxOk (loW l)):DN [loD l] mu=some (.str (Txt.join " " (loW l)),mu):=by
 have lw:=IH 18 n l mu hn ok (by have:=h.len;ext)
 have jr:=Um (mu:=mu) h
 have e:L8 (eC (.str " ")) (BW (B1 (Cv 18) (BW (BX 0) B0)) B0) [some (loD l)] mu=some (.str (Txt.join " " (loW l)),mu):=by
  unfold L8
  rw [z_C,B5]
  dsimp only
  rw [D3,Ek,D3,Hb,B5,Fw,B5,B5,lw,B5,Fw,B5,B5]
  exact jr
 unfold DN
 rw [KO]
 unfold Hi
 show bM (sRt _ [some (loD l)] mu) J3=_
 rw [PY,e,B5,B5,E4]
theorem TN {ws:List Str}(h:TxOk ws):Q2 (.str (Txt.join " " ws)) [.str " "] mu=some (.lst (ws.map D.str),mu):=by
 have sj:=Nc h.ne λw hw=>Uy (h.w w hw)
 have hl:=h.len
 have jl:=Fs h
 have pb:(Builtin.Str.partsBetween (Txt.join " " ws) (Builtin.Str.occurrences (Txt.join " " ws) " " 0 (Txt.join " " ws).length ((Txt.join " " ws).length+1)) (" ":Str).length).length≤sizeLine:=by
  rw [len_partsBetween,As]
  have:=StrLaws.occ_length_le (Txt.join " " ws) " " 0 (Txt.join " " ws).length ((Txt.join " " ws).length+1)
  ext
 have al:ws.all (λz=>decide (z.length≤sizeLine)&&PyData.strOk z)=true:=by
  rw [Ar]
  intro z hz
  have:=(h.w z hz).hi
  rw [Ae,Ak]
  exact ⟨by rw [As];ext,HN (h.w z hz).al⟩
 unfold Q2
 simp only [Fh]
 rw [sj,if_pos ⟨by symm,al,pb,by rw [As];ext⟩]
theorem QZ {n:Nat}{l:Lo}(hn:n≤16)(ok:OkL n l)(h:TxOk (loW l)):DM [.str (Txt.join " " (loW l))] mu=some (loD l,mu):=by
 have sr:=TN (mu:=mu) h
 have ow:=RH (mu:=mu) hn ok
 have e:Sj (BX 0) (BW (eC (.str " ")) B0) [some (.str (Txt.join " " (loW l))),none] mu=some (.lst ((loW l).map D.str),mu):=by
  unfold Sj
  rw [Hb,B5]
  dsimp only
  rw [D3,z_C,B5,Fw,B5,B5]
  exact sr
 have nn:=Iy l
 have ss:("str"=="str")=true:=rfl
 have s1:Ci (eIf (tV (Jy "str" (BX 0))) (B1 Dx (BW (Sj (BX 0) (BW (eC (.str " ")) B0)) B0)) (eC .non)) (gNm 1) [some (.str (Txt.join " " (loW l))),none] mu=some ((.nx,[some (.str (Txt.join " " (loW l))),some (loD l)]),mu):=by
  rw [FN,Qa,Fy,Vh,Hb,B5,Vt,B5,Ea,Option.map_some,ss,B5,if_pos rfl,Ek,D3,e,B5,Fw,B5,B5,ow,B5]
  rfl
 have s2:(sIf (tV (B2 isD (BX 1) (eC .non))) Ri (sNx)) [some (.str (Txt.join " " (loW l))),some (loD l)] mu=some ((.nx,[some (.str (Txt.join " " (loW l))),some (loD l)]),mu):=by
  rw [FD,Fy,CV,H0,B5,z_C,B5,M7,B5,Ea,Option.map_some,nn,B5,if_neg Am]
  rfl
 unfold DM
 rw [KO]
 unfold Hg
 show bM (Ce _ _ [some (.str (Txt.join " " (loW l))),none] mu) J3=_
 rw [CH s1,CH s2,PY,H0,B5,B5,E4]
end PG
namespace PV
open PySem L2 PyProof.Rows K1
variable {mu:Sto}
theorem Uh {mu xs:Sto}{o:MO}(i:Nat):(mu++xs).set (mu.length+i) o=mu++xs.set i o:=by
 rw [List.set_append_right _ _ (by ext),Nat.add_sub_cancel_left]
theorem Iz:∀ (ps:List (Str×D)) (L:List Str) (vs:List D),L.Nodup->∃ (L':List Str) (vs':List D),putAll (L.map D.str,vs) (ps.map λp=>(.str p.1,p.2))=(L'.map D.str,vs')∧L'.Nodup∧∀ x,x∈L' ↔ x∈L∨x∈ps.map (·.1)
 | [],L,vs,n=>⟨L,vs,rfl,n,λx=>by simp⟩
 | p::ps,L,vs,n=>by
  have mi:(D.str p.1∈L.map D.str) ↔ p.1∈L:=by simp
  have st:putAll (L.map D.str,vs) ((p::ps).map λp=>(.str p.1,p.2))=putAll (D2 (.str p.1) p.2 (L.map D.str) vs) (ps.map λp=>(.str p.1,p.2)):=rfl
  by_cases h:p.1∈L
  ·have e:D2 (.str p.1) p.2 (L.map D.str) vs=(L.map D.str,HM (.str p.1) p.2 (L.map D.str) vs):=if_pos (mi.mpr h)
   obtain ⟨L',vs',e',n',m'⟩:=Iz ps L (HM (.str p.1) p.2 (L.map D.str) vs) n
   refine ⟨L',vs',by rw [st,e,e'],n',λx=>?_⟩
   rw [m' x,AO,Ah]
   constructor
   ·rintro (a|a)
    ·exact .inl a
    ·exact .inr (.inr a)
   ·rintro (a|a|a)
    ·exact .inl a
    ·rw [a];exact .inl h
    ·exact .inr a
  ·have e:D2 (.str p.1) p.2 (L.map D.str) vs=((L++[p.1]).map D.str,vs++[p.2]):=by
    rw [AM]
    exact if_neg λz=>h (mi.mp z)
   obtain ⟨L',vs',e',n',m'⟩:=Iz ps (L++[p.1]) (vs++[p.2]) (BL.mpr ⟨n,by simp,λa ha b hb=>by rw [Ao.mp hb];exact λz=>h (z▸ha)⟩)
   refine ⟨L',vs',by rw [st,e,e'],n',λx=>?_⟩
   rw [m' x,AO,Ah,AE,Ao,or_assoc]
noncomputable def twD (x:Str):D:=.tup [.str x,.bl true]
theorem N7 (xs:List Str):pairsOf (xs.map twD)=some (xs.map λx=>(.str x,.bl true)):=by
 induction xs with
 | nil=>rfl
 | cons p ps ih =>
  rw [AO,AO]
  unfold twD
  rw [pairsOf,if_pos (Ds _)]
  unfold twD at ih
  rw [ih]
  rfl
theorem Tn {r:Nat}{ss:List Str}{vs:List D}(g:mu[r]? = some (.dct (ss.map D.str) vs))(h:ss.length<64):NM [.ref r] mu=some (.lst (Fz (ss.map D.str)),mu):=by
 have u:L6 [.ref r] mu=none:=by simp only [L6,Fh,QV,Hy,Dg,g]
 unfold NM
 rw [u]
 simp only [RQ,Fh,DR,g,Pb h,if_true]
theorem N3:∀ {ss cs:List Str},ss.Nodup->(∀ x∈ss,x∈cs)->ss.length≤cs.length
 | [],_,_,_=>A0 _
 | x::ss,cs,n,h=>by
  rw [Bx] at n
  have hx:x∈cs:=h x (.head _)
  have ih:=N3 (ss:=ss) (cs:=cs.erase x) n.2 (λy hy=>(List.mem_erase_of_ne (λe:y=x=>n.1 (by rw [← e];exact hy))).mpr (h y (.tail _ hy)))
  rw [List.length_erase_of_mem hx] at ih
  have:=List.length_pos_of_mem hx
  rw [List.length_cons]
  ext
end PV
namespace PG
open PySem L2 PV PyProof.Rows K1
variable {mu:Sto}
noncomputable def csD (cs:List Str):D:=.tup (cs.map D.str)
theorem Mt {d:D}(h:GP d=true):∃ x,d=.str x∧IsW x:=by
 cases d with
 | str x=>exact ⟨x,rfl,D5.mp h⟩
 | _=>cases h
structure TbK (t:Tb):Prop where
 ok:Pg t
 nw:IsW t.nm
 cw:∀ p∈t.cs,IsW p.1
 cn:(t.cs.map (·.1)).Nodup
 vw:∀ p∈t.cs,∀ x∈p.2,IsW x
theorem Nj {d:D}(h:HK d=true):∃ ss:List Str,d=.tup (ss.map D.str)∧ss≠[]∧ss.length≤4∧∀ x∈ss,IsW x:=by
 unfold HK at h
 rw [Ae,Ae] at h
 cases d with
 | tup ds =>
  obtain ⟨ss,rfl,hw⟩:=PR (show ds.all GP=true from h.2.1)
  have:=h.1
  simp only [GS,Ac,Ae,Ak] at this
  exact ⟨ss,rfl,λe=>by rw [e] at this;simp at this,by ext,hw⟩
 | _=>simp [GS] at h
theorem Qy {ds:List D}(h:ds.all MC=true):∃ cs:List (Str×List Str),ds=cs.map clD∧∀ p∈cs,(p.2≠[]∧p.2.length≤4)∧IsW p.1∧∀ x∈p.2,IsW x:=by
 induction ds with
 | nil=>exact ⟨[],rfl,λ_ h=>nomatch h⟩
 | cons d ds ih =>
  rw [List.all_cons,Ae] at h
  obtain ⟨cs,rfl,hc⟩:=ih h.2
  have h1:=h.1
  unfold MC at h1
  split at h1
  ·rename_i a b
   rw [Ae] at h1
   obtain ⟨ss,rfl,l1,l2,l3⟩:=Nj h1.2
   obtain ⟨x,rfl,hx⟩:=Mt h1.1
   refine ⟨(x,ss)::cs,rfl,λq hq=>?_⟩
   rcases Ah.mp hq with rfl|hq
   ·exact ⟨⟨l1,l2⟩,hx,l3⟩
   ·exact hc q hq
  ·cases h1
theorem S8 {d:D}(h:Lu d=true):∃ t,d=tbD t∧TbK t:=by
 unfold Lu at h
 split at h
 ·rename_i n c k
  rw [Ae,Ae] at h
  obtain ⟨⟨h1,h2⟩,h3⟩:=h
  obtain ⟨x,rfl,hx⟩:=Mt h1
  cases c with
  | tup ds =>
   have h2':((GS 1 4 (.tup ds)&&ds.all MC)&&ndB (ds.map Jg))=true:=h2
   rw [Ae,Ae] at h2'
   obtain ⟨cs,rfl,hv⟩:=Qy h2'.1.2
   have hl:=h2'.1.1
   simp only [GS,Ac,Ae,Ak] at hl
   cases k with
   | int i =>
    simp only [Xa,Y1,Ac,Ae,Ak] at h3
    have nd:=h2'.2
    have e:(cs.map clD).map Jg=(cs.map (·.1)).map D.str:=by
     rw [AQ,AQ]
     rfl
    rw [e] at nd
    simp only [ndB,Ak] at nd
    refine ⟨⟨x,cs,i.toNat⟩,?_,⟨⟨by show 1≤cs.length;ext,by show cs.length≤4;ext,by show 1≤i.toNat;ext,by show i.toNat≤cs.length;ext,λp hp=>(hv p hp).1⟩,hx,λp hp=>(hv p hp).2.1,Hj.mp nd,λp hp=>(hv p hp).2.2⟩⟩
    unfold tbD
    rw [Int.toNat_of_nonneg (by ext)]
   | _=>simp [Xa] at h3
  | _=>simp [Vs] at h2
 ·cases h
theorem Ph {ds:List D}(h:ds.all Lu=true):∃ ts:List Tb,ds=ts.map tbD∧∀ t∈ts,TbK t:=by
 induction ds with
 | nil=>exact ⟨[],rfl,λ_ h=>nomatch h⟩
 | cons d ds ih =>
  rw [List.all_cons,Ae] at h
  obtain ⟨ts,rfl,hc⟩:=ih h.2
  obtain ⟨t,rfl,h1⟩:=S8 h.1
  refine ⟨t::ts,rfl,λq hq=>?_⟩
  rcases Ah.mp hq with rfl|hq
  ·exact h1
  ·exact hc q hq
structure SK (ts:List Tb):Prop where
 l1:1≤ts.length
 l4:ts.length≤4
 ok:∀ t∈ts,TbK t
 nd:(ts.map Tb.nm).Nodup
def scD (ts:List Tb):D:=.tup (ts.map tbD)
theorem S6 {d:D}(h:Tp d=true):∃ ts,d=scD ts∧SK ts:=by
 cases d with
 | tup ds =>
  have h':((GS 1 4 (.tup ds)&&ds.all Lu)&&Kh (ds.map Jg))=true:=h
  rw [Ae,Ae] at h'
  obtain ⟨ts,rfl,ho⟩:=Ph h'.1.2
  have hl:=h'.1.1
  simp only [GS,Ac,Ae,Ak] at hl
  refine ⟨ts,rfl,by ext,by ext,ho,?_⟩
  have e:(ts.map tbD).map Jg=(ts.map Tb.nm).map D.str:=by
   rw [AQ,AQ]
   rfl
  have r:=h'.2
  rw [e,NU] at r
  exact S5 r
 | _=>simp [Tp] at h
noncomputable def tcs (t:Tb):List Str:=t.cs.map (·.1)
def StO (ts:List Tb):Prop:=∃ st:List Str,st.length≤5∧∀ t∈ts,∀ p∈t.cs,∀ x∈p.2,x∈st
theorem SS {st:List Str}{ts:List Tb}(h:(ts.map tbD).all (tabS st)=true):∀ t∈ts,∀ p∈t.cs,∀ x∈p.2,x∈st:=by
 rw [List.all_map,Ar] at h
 intro t ht p hp x hx
 have h1:(t.cs.map clD).all (QG st)=true:=h t ht
 rw [List.all_map,Ar] at h1
 have h2:(p.2.map D.str).all (inS st)=true:=h1 p hp
 rw [List.all_map,Ar] at h2
 simpa [inS] using h2 x hx
def Ku:Sx:=(sEx (Uk (BX 1) (BW (eLC (Ei (BX 6)) 1 [] (gNm 0) (tY) (Cq (BW (BX 0) (BW (eC (.bl true)) B0)))) B0)))
theorem Xp {r:Nat}{L:List Str}{vs:List D}(xs:List Str)(g:mu[r]? = some (.dct (L.map D.str) vs))(n:L.Nodup)(hL:L.length≤1000)(hx:xs.length≤8){sc a b c d:D}:∃ (L':List Str) (vs':List D),Ku [some sc,some (.ref r),some a,some b,some c,some d,some (.tup (xs.map D.str))] mu=some ((.nx,[some sc,some (.ref r),some a,some b,some c,some d,some (.tup (xs.map D.str))]),mu.set r (.dct (L'.map D.str) vs'))∧L'.Nodup∧∀ x,x∈L' ↔ x∈L∨x∈xs:=by
 obtain ⟨L',vs',e2,n2,m2⟩:=Iz (xs.map λx=>(x,D.bl true)) L vs n
 have e0:(xs.map λx=>((x,D.bl true):Str×D)).map (λp=>((.str p.1,p.2):D×D))=xs.map λx=>(.str x,.bl true):=by rw [AQ];rfl
 rw [e0] at e2
 have k1:(xs.map λx=>((.str x,.bl true):D×D)).map (·.1)=xs.map D.str:=by rw [AQ];rfl
 refine ⟨L',vs',?_,n2,λx=>by rw [m2 x,AQ];simp⟩
 have lc:EM none mu (gNm 0) tY (Cq (BW (BX 0) (BW (eC (.bl true)) B0))) [none] (xs.map D.str) mu=some (xs.map twD,mu):=by
  have:xs.map twD=(xs.map D.str).map λd=>.tup [d,.bl true]:=by
   rw [AQ]
   rfl
  rw [this]
  exact G3 _ _ λd hd=>⟨_,rfl,rfl⟩
 have up:QD (.ref r) [.lst (xs.map twD)] mu=some (.non,mu.set r (.dct (L'.map D.str) vs')):=by
  have c:(strsOf (L.map D.str)).isSome=true∧(strsOf ((xs.map λx=>((.str x,.bl true):D×D)).map (·.1))).isSome=true∧(L.map D.str).length+(xs.map λx=>((.str x,.bl true):D×D)).length≤sizeLine:=⟨by rw [PV.strs_map];rfl,by rw [k1,PV.strs_map];rfl,by simp only [Ac,As];ext⟩
  simp only [QD,g,Dg,N7,if_pos c,e2]
 have dk:(DR mu (.ref r)).isSome=true:=by simp only [DR,g];rfl
 unfold Ku
 simp! [Uk,dk,lc,up]
theorem QU {t:Tb}{st:List Str}(hk:TbK t)(s5:st.length≤5)(hs:∀ p∈t.cs,∀ x∈p.2,x∈st){m0:Sto}{sc a b c:D}{x5 x6:Option D}{L:List Str}{vs:List D}(hn:L.Nodup)(hLs:∀ x∈L,x∈st∧IsW x) :
  ∃ y5 y6,∃ (L':List Str) (vs':List D),EH none m0 (gTp 2 (Cf (gNm 5) (Cf (gNm 6) Dd))) Ku (t.cs.map clD) [some sc,some (.ref mu.length),some a,some b,some c,x5,x6] (mu++[.dct (L.map D.str) vs])=some ((.nx,[some sc,some (.ref mu.length),some a,some b,some c,y5,y6]),mu++[.dct (L'.map D.str) vs'])∧L'.Nodup∧(∀ x∈L',x∈st∧IsW x)∧L'≠[]:=by
 obtain ⟨ro',m',e,⟨y5,y6,rfl⟩,L',vs',rfl,b1,b2,b3⟩:=E7 (m0:=m0) (tg:=gTp 2 (Cf (gNm 5) (Cf (gNm 6) Dd))) (body:=Ku) (λi ro m=>(∃ y5 y6,ro=[some sc,some (.ref mu.length),some a,some b,some c,y5,y6])∧∃ (L':List Str) (vs':List D),m=mu++[.dct (L'.map D.str) vs']∧L'.Nodup∧(∀ x∈L',x∈st∧IsW x)∧(i≠0->L'≠[])) (t.cs.map clD) 0 _ _
  ⟨⟨x5,x6,rfl⟩,L,vs,rfl,hn,hLs,λh=>absurd rfl h⟩ λj d ro m ed hi=>by
   obtain ⟨⟨y5,y6,rfl⟩,L',vs',rfl,b1,b2,b3⟩:=hi
   rw [Ap] at ed
   cases q:t.cs[j]? with
   | none=>rw [q] at ed;cases ed
   | some p =>
    rw [q] at ed
    have ed':clD p=d:=AI ed
    subst ed'
    have hm:p∈t.cs:=Al q
    have v4:=hk.ok.vs p hm
    have L5:L'.length≤5:=AN (N3 b1 λx hx=>(b2 x hx).1) s5
    obtain ⟨M,ws,e1,n1,m1⟩:=Xp (mu:=mu++[.dct (L'.map D.str) vs']) (r:=mu.length) (L:=L') (vs:=vs') p.2 (by simp) b1 (by ext) (by ext) (sc:=sc) (a:=a) (b:=b) (c:=c) (d:=.str p.1)
    have sa:(mu++[MO.dct (L'.map D.str) vs']).set mu.length (.dct (M.map D.str) ws)=mu++[.dct (M.map D.str) ws]:=Uh (mu:=mu) (xs:=[MO.dct (L'.map D.str) vs']) 0
    rw [sa] at e1
    refine ⟨[some sc,some (.ref mu.length),some a,some b,some c,some (.str p.1),some (.tup (p.2.map D.str))],mu++[.dct (L'.map D.str) vs'],_,_,?_,e1,⟨some (.str p.1),some (.tup (p.2.map D.str)),rfl⟩,M,ws,rfl,n1,?_,?_⟩
    ·simp! [clD]
    ·intro x hx
     rcases (m1 x).mp hx with hx|hx
     ·exact b2 x hx
     ·exact ⟨hs p hm x hx,hk.vw p hm x hx⟩
    ·intro _ z
     obtain ⟨x,hx⟩:=List.exists_mem_of_ne_nil _ v4.1
     have:=(m1 x).mpr (.inr hx)
     rw [z] at this
     cases this
 have c1:=hk.ok.c1
 rw [Ac] at b3
 exact ⟨y5,y6,L',vs',e,b1,b2,b3 (by ext)⟩
theorem Qq {ts:List Tb}(H:SK ts)(S:StO ts)(hf:Flat mu):∃ ws:List Str,D6 [scD ts] mu=some (.lst (ws.map D.str),mu)∧ws≠[]∧ws.length≤64∧∀ x∈ws,IsW x:=by
 obtain ⟨st,s5,hs⟩:=S
 obtain ⟨ro',m',e,⟨y2,y3,y4,y5,y6,rfl⟩,L,vs,rfl,b1,b2,b3⟩:=E7 (m0:=mu++[.dct [] []]) (tg:=gTp 3 (Cf (gNm 2) (Cf (gNm 3) (Cf (gNm 4) Dd)))) (body:=Hu (Ei (BX 3)) (gTp 2 (Cf (gNm 5) (Cf (gNm 6) Dd))) Ku) (λi ro m=>(∃ y2 y3 y4 y5 y6,ro=[some (scD ts),some (.ref mu.length),y2,y3,y4,y5,y6])∧∃ (L:List Str) (vs:List D),m=mu++[.dct (L.map D.str) vs]∧L.Nodup∧(∀ x∈L,x∈st∧IsW x)∧(i≠0->L≠[])) (ts.map tbD) 0 [some (scD ts),some (.ref mu.length),none,none,none,none,none] (mu++[.dct [] []])
  ⟨⟨_,_,_,_,_,rfl⟩,[],[],rfl,List.nodup_nil,(λ_ h=>nomatch h),λh=>absurd rfl h⟩ λj d ro m ed hi=>by
   obtain ⟨⟨y2,y3,y4,y5,y6,rfl⟩,L,vs,rfl,b1,b2,b3⟩:=hi
   rw [Ap] at ed
   cases q:ts[j]? with
   | none=>rw [q] at ed;cases ed
   | some t =>
    rw [q] at ed
    have ed':tbD t=d:=AI ed
    subst ed'
    have ht:t∈ts:=Al q
    obtain ⟨z5,z6,L',vs',e,l1,l2,l3⟩:=QU (mu:=mu) (H.ok t ht) s5 (hs t ht) (m0:=mu++[.dct (L.map D.str) vs]) (sc:=scD ts) (a:=.str t.nm) (b:=.tup (t.cs.map clD)) (c:=.int t.ks) (x5:=y5) (x6:=y6) (L:=L) (vs:=vs) b1 b2
    refine ⟨[some (scD ts),some (.ref mu.length),some (.str t.nm),some (.tup (t.cs.map clD)),some (.int t.ks),y5,y6],mu++[.dct (L.map D.str) vs],[some (scD ts),some (.ref mu.length),some (.str t.nm),some (.tup (t.cs.map clD)),some (.int t.ks),z5,z6],mu++[.dct (L'.map D.str) vs'],?_,?_,⟨_,_,_,_,_,rfl⟩,L',vs',rfl,l1,l2,λ_=>l3⟩
    ·simp! [tbD]
    ·simp! [e]
 have l1:=H.l1
 rw [Ac] at b3
 have l5:L.length≤5:=AN (N3 b1 λx hx=>(b2 x hx).1) s5
 obtain ⟨us,ue,up⟩:=K2 (DF (L.map D.str))
 refine ⟨us,?_,λz=>?_,by rw [up.length_eq];ext,λx hx=>(b2 x (up.mem_iff.mp hx)).2⟩
 ·have so:=Tn (mu:=mu++[.dct (L.map D.str) vs]) (r:=mu.length) (ss:=L) (vs:=vs) (by simp) (by ext)
  unfold scD at e ⊢
  unfold Ku at e
  simp! [D6,G6,e,so,ue]
  have ok:EE 0 (.lst (us.map D.str))=true:=by
   simp only [EE]
   exact GI (Oo us)
  have ft:Flat ((mu++[MO.dct (L.map D.str) vs]).take mu.length):=by
   rw [List.take_left']
   ·exact hf
   ·rfl
  rw [Ll ok ft,List.take_left']
  rfl
 ·have:L=[]:=by
   cases L with
   | nil=>rfl
   | cons x r =>
    have:x∈us:=up.mem_iff.mpr (.head _)
    rw [z] at this
    cases this
  exact b3 (by ext) this
theorem Xf {x:Str}{ss:List Str}:Kc (.str x) (.tup (ss.map D.str)) mu=some (.bl (!decide (x∈ss)),mu):=by simp only [Kc,UB,OD (.inl rfl),Option.map_some]
theorem F1 {k n:Nat}{s:D}{ss:List Str}(hs:s=.lst (ss.map D.str)∨s=.tup (ss.map D.str))(hn:ss≠[])(hl:ss.length<5000)(h:HandOk mu k (n+1)):∃ x mu',Cg [.ref k,s] mu=some (.str x,mu')∧Fr k n mu mu'∧x∈ss:=by
 obtain ⟨d,mu',e,fr,hd⟩:=pick_run (ds:=ss.map D.str) hs (by simpa using hn) (by rw [Ac];ext) h
 obtain ⟨x,hx,rfl⟩:=Aw.mp hd
 exact ⟨x,mu',e,fr,hx⟩
structure Wds (cs:List Str):Prop where
 ne:cs≠[]
 len:cs.length≤64
 w:∀ x∈cs,IsW x
def LR (t:Str×Str×Str):Prop:=t.1∈(["is","not","like","unlike"]:List Str)∧IsW t.2.1∧IsW t.2.2
theorem L7 {k n:Nat}{cs ws:List Str}(hc:Wds cs)(hw:Wds ws)(h:HandOk mu k (n+3)):∃ t mu',Du [.ref k,csD cs,.lst (ws.map D.str)] mu=some (t3D t,mu')∧Fr k n mu mu'∧LR t:=by
 have c64:=hc.len
 have w64:=hw.len
 obtain ⟨a,m1,e1,f1,ha⟩:=F1 (s:=.lst ((["is","not","like","unlike","is"]:List Str).map D.str)) (n:=n+2) (.inl rfl) (by simp) (by decide) h
 obtain ⟨b,m2,e2,f2,hb⟩:=F1 (s:=csD cs) (n:=n+1) (.inr rfl) hc.ne (by ext) f1.hand
 have e1':Cg [.ref k,.lst [.str "is",.str "not",.str "like",.str "unlike",.str "is"]] mu=some (.str a,m1):=e1
 have ha':a∈(["is","not","like","unlike"]:List Str):=by
  simp only [Ah,Au,AY] at ha ⊢
  rcases ha with h|h|h|h|h<;>simp [h]
 by_cases c1:a∈(["is","not"]:List Str)
 ·obtain ⟨c,m3,e3,f3,hc3⟩:=F1 (s:=.lst (ws.map D.str)) (n:=n) (.inl rfl) hw.ne (by ext) f2.hand
  refine ⟨(a,b,c),m3,?_,(f1.trans f2).trans f3,ha',hc.w b hb,hw.w c hc3⟩
  simp! [Du,Gp,e1',e2,R6,c1,e3]
  rfl
 ·obtain ⟨c,m3,e3,f3,hc3⟩:=F1 (s:=csD cs) (n:=n) (.inr rfl) hc.ne (by ext) f2.hand
  refine ⟨(a,b,c),m3,?_,(f1.trans f2).trans f3,ha',hc.w b hb,hc.w c hc3⟩
  simp! [Du,Gp,e1',e2,R6,c1,e3]
  rfl
theorem M1 {ys:List D}(h:∀ (j:Nat) d,ys[j]? = some d->∃ t,d=t3D t∧LR t):∃ ts:List (Str×Str×Str),ys=ts.map t3D∧∀ t∈ts,LR t:=by
 induction ys with
 | nil=>exact ⟨[],rfl,λ_ h=>nomatch h⟩
 | cons d ys ih =>
  obtain ⟨t,rfl,ht⟩:=h 0 d rfl
  obtain ⟨ts,rfl,hs⟩:=ih λj d e=>h (j+1) d (by simpa using e)
  refine ⟨t::ts,rfl,λq hq=>?_⟩
  rcases Ah.mp hq with rfl|hq
  ·exact ht
  ·exact hs q hq
theorem Pp {k n:Nat}{cs ws:List Str}(hc:Wds cs)(hw:Wds ws){j:Nat}(hj:j≤2)(h:HandOk mu k (n+6)){m0:Sto}:∃ (ts:List (Str×Str×Str)) (mu':Sto),EM none m0 (gNm 0) tY (B1 Du (BW (BX 1) (BW (BX 2) (BW (BX 3) B0)))) [none,some (.ref k),some (csD cs),some (.lst (ws.map D.str))] (Ec 0 j) mu=some (ts.map t3D,mu')∧Fr k n mu mu'∧ts.length=j∧∀ t∈ts,LR t:=by
 obtain ⟨ys,mu',e,fr,l,hp⟩:=Iw (m0:=m0) (tg:=gNm 0) (el:=B1 Du (BW (BX 1) (BW (BX 2) (BW (BX 3) B0)))) (ro:=[none,some (.ref k),some (csD cs),some (.lst (ws.map D.str))]) (λi m=>Fr k (n+6-3*i) mu m) (λ_ d=>∃ t,d=t3D t∧LR t) (Ec 0 j) 0 mu (.refl h) λi d m ed fr=>by
  obtain ⟨rfl,hi⟩:=Hf ed
  obtain ⟨y,m1,e1,f1,hy⟩:=L7 (n:=n+6-3*(0+i+1)) hc hw (fr.hand.mono (by ext))
  exact ⟨_,_,m1,rfl,by simp! [e1],⟨y,rfl,hy⟩,fr.trans f1⟩
 rw [Fi] at l
 obtain ⟨ts,rfl,ht⟩:=M1 hp
 rw [Ac] at l
 exact ⟨ts,mu',e,fr.mono (by rw [Fi];ext),l,ht⟩
theorem OkL.up:∀ (n:Nat) (l:Lo),OkL n l->OkL (n+1) l
 | 0,_,h=>h.elim
 | n+1,.of w,h=>h
 | n+1,.pr p a b,h=>⟨h.1,OkL.up n a h.2.1,OkL.up n b h.2.2⟩
 | n+1,.ro a ts,h=>⟨h.1,h.2.1,OkL.up n a h.2.2⟩
 | n+1,.co a ws,h=>⟨h.1,h.2.1,OkL.up n a h.2.2⟩
 | n+1,.ca a ps,h=>⟨h.1,h.2.1,OkL.up n a h.2.2⟩
theorem OkL.le {n m:Nat}{l:Lo}(h:OkL n l)(q:n≤m):OkL m l:=by
 induction m with
 | zero=>cases (show n=0 by ext);exact h
 | succ m ih =>
  by_cases c:n=m+1
  ·subst c;exact h
  ·exact OkL.up m l (ih (by ext))
theorem Wf {m0:Sto}(t:Tb):EM none m0 (gTp 2 (Cf (gNm 0) (Cf (gNm 1) Dd))) tY (BX 0) [none,none] (t.cs.map clD) mu=some ((tcs t).map D.str,mu):=by
 have:=G3 (m0:=m0) (tg:=gTp 2 (Cf (gNm 0) (Cf (gNm 1) Dd))) (el:=BX 0) (ro:=[none,none]) (mu:=mu) Jg (t.cs.map clD) (λd hd=>by
  obtain ⟨p,_,rfl⟩:=Aw.mp hd
  exact ⟨_,rfl,rfl⟩)
 rw [this,AQ]
 unfold tcs
 rw [AQ]
 rfl
noncomputable def nmB (x:Str):D->Bool
 | .tup (.str n::_)=>decide (n=x)
 | _=>false
noncomputable def sec:D->D
 | .tup [_,c,_]=>c
 | _=>.non
theorem Yd {ts:List Tb}{x:Str}:EM none mu (gNm 0) (tV (B2 eqD (B2 ixG (BX 0) (eC (.int 0))) (B2 ixG (BX 1) (eC (.int 1))))) (B2 ixG (BX 0) (eC (.int 1))) [none,some (.tup [.str "of",.str x])] (ts.map tbD) mu=some (((ts.map tbD).filter (nmB x)).map sec,mu):=by
 refine Jt (m0:=mu) (nmB x) sec (ts.map tbD) λd hd=>?_
 obtain ⟨t,_,rfl⟩:=Aw.mp hd
 refine ⟨_,rfl,?_,λ_=>?_⟩
 ·simp! [tbD,nmB]
 ·simp! [tbD,sec]
theorem Tz {ts:List Tb}{t:Tb}(ht:t∈ts):∃ t'∈ts,∀ (m:Nat) (mu:Sto),Cd (m+1) [scD ts,.tup [.str "of",.str t.nm]] mu=some (csD (tcs t'),mu):=by
 have hm:tbD t∈(ts.map tbD).filter (nmB t.nm):=List.mem_filter.mpr ⟨List.mem_map_of_mem ht,by simp [tbD,nmB]⟩
 cases e:(ts.map tbD).filter (nmB t.nm) with
 | nil=>rw [e] at hm;cases hm
 | cons d r =>
  have hd:d∈(ts.map tbD).filter (nmB t.nm):=by rw [e];exact .head _
  obtain ⟨t',h',rfl⟩:=Aw.mp (List.mem_filter.mp hd).1
  refine ⟨t',h',λm mu=>?_⟩
  have lc:=Yd (mu:=mu) (ts:=ts) (x:=t.nm)
  rw [e] at lc
  have se:sec (tbD t')=.tup (t'.cs.map clD):=rfl
  rw [AO,se] at lc
  unfold scD
  simp! [Cd,Dv,lc,Wf,csD]
theorem Kp {ts:List Tb}{m:Nat}{w:Str}{d b:D}{cs:List Str}(hw:w∈(["rows","union","gap"]:List Str))(r:∀ mu,Cd m [scD ts,d] mu=some (csD cs,mu)):Cd (m+1) [scD ts,.tup [.str w,d,b]] mu=some (csD cs,mu):=by
 have n1:decide (w="of")=false:=by simp only [Ah,Au,AY] at hw;rcases hw with rfl|rfl|rfl<;>symm
 have n2:decide (w="columns")=false:=by simp only [Ah,Au,AY] at hw;rcases hw with rfl|rfl|rfl<;>symm
 have n3:decide (w="called")=false:=by simp only [Ah,Au,AY] at hw;rcases hw with rfl|rfl|rfl<;>symm
 have n4:decide (w="join")=false:=by simp only [Ah,Au,AY] at hw;rcases hw with rfl|rfl|rfl<;>symm
 simp! [Cd,Dv,n1,n2,n3,n4,r]
theorem QC {ts:List Tb}{m:Nat}{d:D}{cs ws:List Str}(r:∀ mu,Cd m [scD ts,d] mu=some (csD cs,mu)):Cd (m+1) [scD ts,.tup [.str "columns",d,csD ws]] mu=some (csD ws,mu):=by
 have n1:decide (Str.ofString "columns"=Str.ofString "of")=false:=by symm
 simp! [Cd,Dv,n1,r]
noncomputable def Mf (c w x:Str):Str:=if c=x then w else x
theorem RT {ts:List Tb}{m:Nat}{d:D}{cs:List Str}{c w:Str}(r:∀ mu,Cd m [scD ts,d] mu=some (csD cs,mu)):Cd (m+1) [scD ts,.tup [.str "called",d,.tup [prD (c,w)]]] mu=some (csD (cs.map (Mf c w)),mu):=by
 have n1:decide (Str.ofString "called"=Str.ofString "of")=false:=by symm
 have n2:decide (Str.ofString "called"=Str.ofString "columns")=false:=by symm
 have dc:dctP [.lst [prD (c,w)]] mu=some (.dct [.str c] [.str w],mu):=by
  have p:PV.pairsOf [prD (c,w)]=some [(.str c,.str w)]:=by
   unfold prD
   rw [PV.pairsOf,if_pos (Ds _)]
   rfl
  have q:PV.putAll ([],[]) [((.str c:D),(.str w:D))]=([.str c],[.str w]):=by
   unfold PV.putAll
   rw [List.foldl_cons,List.foldl_nil]
   unfold D2
   rw [if_neg (by simp)]
   rfl
  simp only [dctP,sq1,Fh,Hy,Dg,p,q]
 have ga:=G3 (m0:=mu) (tg:=gNm 0) (el:=O7 (BX 1) (BW (BX 0) (BW (BX 0) B0))) (ro:=[none,some (.dct [.str c] [.str w])]) (mu:=mu) (λd=>match d with|.str x=>.str (Mf c w x)|_=>.non) (cs.map D.str) (λd hd=>by
  obtain ⟨x,_,rfl⟩:=Aw.mp hd
  refine ⟨_,rfl,?_⟩
  have g:LZ (.dct [.str c] [.str w]) [.str x,.str x] mu=some (.str (Mf c w x),mu):=by
   simp only [LZ,DR,Ds,if_true,Ey,Mf]
   by_cases e:c=x
   ·simp [e]
   ·simp [e,Ey]
  simp! [O7,DR,Option.isSome_some,g])
 have e4:(cs.map D.str).map (λd=>match d with|.str x=>D.str (Mf c w x)|_=>.non)=(cs.map (Mf c w)).map D.str:=by
  rw [AQ,AQ]
  rfl
 rw [e4] at ga
 have zl:Jb [.tup [prD (c,w)]] mu=some (.lst [prD (c,w)],mu):=rfl
 simp! [Cd,Dv,n1,n2,r,zl,dc,csD,ga]
noncomputable def MN (one other:List Str):List Str:=one++other.filter λc=>!decide (c∈one)
theorem RP {m0:Sto}(one other:List Str):EM none m0 (gNm 0) (tV (B2 Kc (BX 0) (BX 1))) (BX 0) [none,some (csD one)] (other.map D.str) mu=some ((other.filter λc=>!decide (c∈one)).map D.str,mu):=by
 have:=Jt (m0:=m0) (tg:=gNm 0) (tt:=tV (B2 Kc (BX 0) (BX 1))) (el:=BX 0) (ro:=[none,some (csD one)]) (mu:=mu) (λd=>match d with|.str c=>!decide (c∈one)|_=>false) id (other.map D.str) (λd hd=>by
  obtain ⟨c,_,rfl⟩:=Aw.mp hd
  refine ⟨_,rfl,?_,λ_=>rfl⟩
  have i:Kc (.str c) (csD one) mu=some (.bl (!decide (c∈one)),mu):=Xf
  simp! [i])
 rw [this,List.map_id,List.filter_map]
 rfl
theorem Qn {ts:List Tb}{m:Nat}{d e:D}{one other:List Str}(h1:one.length≤64)(h2:other.length≤64)(r:∀ mu,Cd m [scD ts,d] mu=some (csD one,mu))(r':∀ mu,Cd m [scD ts,e] mu=some (csD other,mu)):Cd (m+1) [scD ts,.tup [.str "join",d,e]] mu=some (csD (MN one other),mu):=by
 have n1:decide (Str.ofString "join"=Str.ofString "of")=false:=by symm
 have n2:decide (Str.ofString "join"=Str.ofString "columns")=false:=by symm
 have n3:decide (Str.ofString "join"=Str.ofString "called")=false:=by symm
 have l:=List.length_filter_le (λc=>!decide (c∈one)) other
 have za:Ck (.tup (one.map D.str)) (.tup ((other.filter λc=>!decide (c∈one)).map D.str)) mu=some (csD (MN one other),mu):=by
  rw [Sz (by simp only [Ac,As];ext)]
  simp [csD,MN]
 have lc:=RP (m0:=mu) (mu:=mu) one other
 unfold csD at lc r r' za ⊢
 simp! [Cd,Dv,n1,n2,n3,r,r',lc,za]
structure Gd (ts:List Tb) (n:Nat) (l:Lo) (cs:List Str):Prop where
 ok:OkL n l
 len:(loW l).length+12≤12*2 ^ n
 run:∀ (m:Nat) (mu:Sto),n≤m->Cd m [scD ts,loD l] mu=some (csD cs,mu)
 ne:cs≠[]
 l7:cs.length≤7
 w:∀ x∈cs,IsW x
theorem Sy {n m:Nat}(l:n≤m):2 ^ n≤2 ^ m:=Nat.pow_le_pow_right (by decide) l
theorem Gd.up {ts:List Tb}{n m:Nat}{l:Lo}{cs:List Str}(h:Gd ts n l cs)(q:n≤m):Gd ts m l cs:=
 ⟨h.ok.le q,by have:=h.len;have:=Sy q;ext,λm' mu q'=>h.run m' mu (by ext),h.ne,h.l7,h.w⟩
theorem Gd.wds {ts:List Tb}{n:Nat}{l:Lo}{cs:List Str}(h:Gd ts n l cs):Wds cs:=⟨h.ne,by have:=h.l7;ext,h.w⟩
theorem XO {t:Tb}(h:TbK t):tcs t≠[]∧(tcs t).length≤7∧∀ x∈tcs t,IsW x:=by
 have c1:=h.ok.c1
 have c4:=h.ok.c4
 refine ⟨λe=>?_,by unfold tcs;rw [Ac];ext,λx hx=>?_⟩
 ·have:=congrArg List.length e
  simp [tcs] at this
  rw [this] at c1
  simp at c1
 ·obtain ⟨q,hq,rfl⟩:=Aw.mp hx
  exact h.cw q hq
theorem Zm {ts:List Tb}(H:SK ts){t:Tb}(ht:t∈ts):∃ cs,Gd ts 1 (.of t.nm) cs:=by
 obtain ⟨t',h',r'⟩:=Tz ht
 obtain ⟨w1,w2,w3⟩:=XO (H.ok t' h')
 refine ⟨tcs t',(H.ok t ht).nw,by simp [loW],λm mu q=>?_,w1,w2,w3⟩
 match m,q with
 | m+1,_=>exact r' m mu
theorem OP (n:Nat):2 ^ (n+1)=2*2 ^ n∧1≤2 ^ n:=⟨by rw [Nat.pow_succ];ext,Nat.one_le_two_pow⟩
theorem O9 (qs:List (Str×Str×Str)):(qs.flatMap λt=>[t.1,t.2.1,t.2.2]).length=qs.length*3:=by
 induction qs with
 | nil=>rfl
 | cons q qs ih =>
  rw [BE,Ag,ih,List.length_cons (a:=q)]
  simp only [List.length_cons,List.length_nil]
  ext
theorem Vl {ts:List Tb}{n:Nat}{l:Lo}{cs:List Str}{qs:List (Str×Str×Str)}(h:Gd ts n l cs)(h1:1≤qs.length)(h2:qs.length≤2)(hq:∀ t∈qs,LR t):Gd ts (n+1) (.ro l qs) cs:=by
 refine ⟨⟨⟨h1,by ext⟩,hq,h.ok⟩,?_,λm mu q=>?_,h.ne,h.l7,h.w⟩
 ·have:=h.len
  have:=OP n
  have e:(qs.flatMap λt=>[t.1,t.2.1,t.2.2]).length=qs.length*3:=O9 qs
  simp only [loW,List.length_cons,Ag,e]
  ext
 ·match m,q with
  | m+1,q=>exact Kp (by simp) λmu=>h.run m mu (by ext)
theorem YD {ts:List Tb}{n:Nat}{l:Lo}{cs ws:List Str}(h:Gd ts n l cs)(h1:ws≠[])(h2:ws.length≤7)(hq:∀ x∈ws,IsW x):Gd ts (n+1) (.co l ws) ws:=by
 have p:0<ws.length:=List.length_pos_iff.mpr h1
 refine ⟨⟨⟨p,by ext⟩,hq,h.ok⟩,?_,λm mu q=>?_,h1,h2,hq⟩
 ·have:=h.len
  have:=OP n
  simp only [loW,List.length_cons,Ag]
  ext
 ·match m,q with
  | m+1,q=>exact QC λmu=>h.run m mu (by ext)
theorem Yj {ts:List Tb}{n:Nat}{l:Lo}{cs:List Str}{c w:Str}(h:Gd ts n l cs)(hc:IsW c)(hw:IsW w):Gd ts (n+1) (.ca l [(c,w)]) (cs.map (Mf c w)):=by
 refine ⟨⟨⟨by simp,by simp⟩,λp hp=>?_,h.ok⟩,?_,λm mu q=>?_,by simpa using h.ne,by rw [Ac];exact h.l7,λx hx=>?_⟩
 ·rw [Ao.mp hp];exact ⟨hc,hw⟩
 ·have:=h.len
  have:=OP n
  simp only [loW,List.length_cons,Ag,BE,List.flatMap_nil,List.length_nil]
  ext
 ·match m,q with
  | m+1,q=>exact RT λmu=>h.run m mu (by ext)
 ·obtain ⟨y,hy,rfl⟩:=Aw.mp hx
  unfold Mf
  split
  ·exact hw
  ·exact h.w y hy
theorem RK {n:Nat}{a b:Lo}{p:Str}(ha:(loW a).length+12≤12*2 ^ n)(hb:(loW b).length+12≤12*2 ^ n):(loW (.pr p a b)).length+12≤12*2 ^ (n+1):=by
 have:=OP n
 simp only [loW,List.length_cons,Ag]
 ext
theorem NX {ts:List Tb}{n:Nat}{a b:Lo}{cs cs':List Str}{u:Str}(h:Gd ts n a cs)(h':Gd ts n b cs')(hu:u="union"∨u="gap"):Gd ts (n+1) (.pr u a b) cs:=by
 refine ⟨⟨by rcases hu with rfl|rfl<;>simp,h.ok,h'.ok⟩,RK h.len h'.len,λm mu q=>?_,h.ne,h.l7,h.w⟩
 match m,q with
 | m+1,q=>exact Kp (by rcases hu with rfl|rfl<;>simp) λmu=>h.run m mu (by ext)
theorem UT {ts:List Tb}{n:Nat}{a b:Lo}{cs cs':List Str}(h:Gd ts n a cs)(h':Gd ts n b cs'):OkL (n+1) (.pr "join" a b)∧(loW (.pr "join" a b)).length+12≤12*2 ^ (n+1)∧(∀ (m:Nat) (mu:Sto),n+1≤m->Cd m [scD ts,loD (.pr "join" a b)] mu=some (csD (MN cs cs'),mu))∧MN cs cs'≠[]∧∀ x∈MN cs cs',IsW x:=by
 refine ⟨⟨by simp,h.ok,h'.ok⟩,RK h.len h'.len,λm mu q=>?_,λz=>h.ne (List.append_eq_nil_iff.mp z).1,λx hx=>?_⟩
 ·match m,q with
  | m+1,q=>exact Qn (by have:=h.l7;ext) (by have:=h'.l7;ext) (λmu=>h.run m mu (by ext)) λmu=>h'.run m mu (by ext)
 ·rcases AE.mp hx with hx|hx
  ·exact h.w x hx
  ·exact h'.w x (List.mem_filter.mp hx).1
def lkF:Sx:=(sIf (tO (tV (B2 eqD (BX 5) (eC (.int 1)))) (tV (B2 eqD (BX 5) (eC (.int 2))))) (sRt (Cq (BW (eC (.str "rows")) (BW (BX 6) (BW (B1 D8 (BW (eLC (iRg (BW (B2 Ck (eC (.int 1)) (B1 B6 (BW (BX 0) (BW (eC (.int 2)) B0)))) B0)) 1 [0,7,4] (gNm 0) (tY) (B1 Du (BW (BX 1) (BW (BX 2) (BW (BX 3) B0))))) B0)) B0))))) (sNx))
def lkG:Sx:=(sIf (tV (B2 eqD (BX 5) (eC (.int 3)))) (Ce (Ci (B1 B6 (BW (BX 0) (BW (B1 D0 (BW (BX 7) B0)) B0))) (gNm 8)) (Ce (Ci (eSl (B2 Ck (eSl (BX 7) (De (BX 8)) (pNo)) (eSl (BX 7) (pNo) (De (BX 8)))) (pNo) (De (B2 Ck (eC (.int 1)) (B1 B6 (BW (BX 0) (BW (B1 D0 (BW (BX 7) B0)) B0)))))) (gNm 9)) (sRt (Cq (BW (eC (.str "columns")) (BW (BX 6) (BW (BX 9) B0))))))) (sNx))
def lkH:Sx:=(sIf (tV (B2 eqD (BX 5) (eC (.int 4)))) (Ce (Ci (B1 Cg (BW (BX 0) (BW (BX 7) B0))) (gNm 10)) (Ce (Ci (eLC (Ei (EL (BW (eC (.str "z9")) (BW (eC (.str "y8")) (BW (eC (.str "x7")) (BW (eC (.str "w6")) (BW (eC (.str "v5")) B0))))))) 1 [7] (gNm 0) (tV (B2 Kc (BX 0) (BX 1))) (BX 0)) (gNm 11)) (sRt (Cq (BW (eC (.str "called")) (BW (BX 6) (BW (Cq (BW (Cq (BW (BX 10) (BW (B1 Cg (BW (BX 0) (BW (B2 Ck (BX 11) (EL (BW (BX 10) B0))) B0))) B0))) B0)) B0))))))) (sNx))
def lkJ:Sx:=(sIf (tV (B2 eqD (BX 5) (eC (.int 5)))) (Ce (Ci (Cq (BW (eC (.str "join")) (BW (BX 6) (BW (BX 12) B0)))) (gNm 13)) (sRt (eIf (tV (B2 leD (B1 D0 (BW (B1 (Cd 10) (BW (BX 1) (BW (BX 13) B0))) B0)) (BX 3))) (BX 13) (BX 6)))) (sNx))
def lkK:Sx:=(sIf (tV (B2 neD (B1 (Cd 10) (BW (BX 1) (BW (BX 12) B0))) (BX 7))) (Ce (Ci (BX 6) (gNm 12)) (sIf (tAn (tV (B2 gtD (BX 2) (eC (.int 2)))) (tV (B2 neD (B2 ixG (BX 6) (eC (.int 0))) (eC (.str "rows"))))) (Ci (Cq (BW (eC (.str "rows")) (BW (BX 6) (BW (Cq (BW (B1 Du (BW (BX 0) (BW (BX 7) (BW (BX 4) B0)))) B0)) B0)))) (gNm 12)) (sNx))) (sNx))
def lkL:Sx:=sRt (Cq (BW (B2 ixG (EL (BW (eC (.str "union")) (BW (eC (.str "gap")) B0))) (B2 F9 (BX 5) (eC (.int 6)))) (BW (BX 6) (BW (BX 12) B0))))
theorem X1 (f:Fn):FJ f=Ce (Ci (B1 D6 (BW (BX 1) B0)) (gNm 4)) (Ce (Ci (B1 B6 (BW (BX 0) (BW (eC (.int 8)) B0))) (gNm 5)) (Ce (sIf (tO (tV (B2 ltG (BX 2) (eC (.int 2)))) (tV (B2 eqD (BX 5) (eC (.int 0))))) (sRt (Cq (BW (eC (.str "of")) (BW (B2 ixG (B1 Cg (BW (BX 0) (BW (BX 1) B0))) (eC (.int 0))) B0)))) (sNx)) (Ce (Ci (B1 f (BW (BX 0) (BW (BX 1) (BW (B2 F9 (BX 2) (eC (.int 1))) (BW (BX 3) B0))))) (gNm 6)) (Ce (Ci (B1 (Cd 10) (BW (BX 1) (BW (BX 6) B0))) (gNm 7)) (Ce lkF (Ce lkG (Ce lkH (Ce (Ci (B1 f (BW (BX 0) (BW (BX 1) (BW (B2 F9 (BX 2) (eC (.int 1))) (BW (BX 3) B0))))) (gNm 12)) (Ce lkJ (Ce lkK lkL)))))))))):=rfl
noncomputable def hdW:Lo->Str
 | .of _=>"of"
 | .pr p _ _=>p
 | .ro _ _=>"rows"
 | .co _ _=>"columns"
 | .ca _ _=>"called"
theorem VC (l:Lo):ixG (loD l) (.int 0) mu=some (.str (hdW l),mu):=by cases l<;>simp! [loD,hdW]
noncomputable def dB (deep:Nat):Nat:=if deep≤2 then deep else 2*deep-2
noncomputable def frees:List Str:=["z9","y8","x7","w6","v5"]
theorem UE:∀ x∈frees,IsW x:=by
 intro x hx
 have:frees.all wB=true:=by symm
 exact D5.mp (Ar.mp this x hx)
section
variable {ts:List Tb} {k deep most:Nat} {way:Int} {one:Lo} {cs ws:List Str} {x8 x9 x10 x11 x12 x13:Option D}
theorem V3 (h1:¬ way=1)(h2:¬ way=2){a b c d e g h:Option D}:lkF [a,b,c,d,e,some (.int way),g,h,x8,x9,x10,x11,x12,x13] mu=some ((.nx,[a,b,c,d,e,some (.int way),g,h,x8,x9,x10,x11,x12,x13]),mu):=by
 unfold lkF
 simp! [h1,h2]
theorem VM (h1:¬ way=3){a b c d e g h:Option D}:lkG [a,b,c,d,e,some (.int way),g,h,x8,x9,x10,x11,x12,x13] mu=some ((.nx,[a,b,c,d,e,some (.int way),g,h,x8,x9,x10,x11,x12,x13]),mu):=by
 unfold lkG
 simp! [h1]
theorem V0 (h1:¬ way=4){a b c d e g h:Option D}:lkH [a,b,c,d,e,some (.int way),g,h,x8,x9,x10,x11,x12,x13] mu=some ((.nx,[a,b,c,d,e,some (.int way),g,h,x8,x9,x10,x11,x12,x13]),mu):=by
 unfold lkH
 simp! [h1]
theorem Xo (h1:¬ way=5){a b c d e g h:Option D}:lkJ [a,b,c,d,e,some (.int way),g,h,x8,x9,x10,x11,x12,x13] mu=some ((.nx,[a,b,c,d,e,some (.int way),g,h,x8,x9,x10,x11,x12,x13]),mu):=by
 unfold lkJ
 simp! [h1]
theorem UM {n:Nat}(hw:way=1∨way=2)(hc:Wds cs)(hs:Wds ws){b c d:Option D}(h:HandOk mu k (n+7)):∃ (qs:List (Str×Str×Str)) (ro':Ro) (mu':Sto),lkF [some (.ref k),b,c,d,some (.lst (ws.map D.str)),some (.int way),some (loD one),some (csD cs),x8,x9,x10,x11,x12,x13] mu=some ((.rt (loD (.ro one qs)),ro'),mu')∧Fr k n mu mu'∧1≤qs.length∧qs.length≤2∧∀ t∈qs,LR t:=by
 obtain ⟨_,m3,e3,f3,t3,rfl,b0,b1⟩:=CS (m:=2) (n:=n+6) h (by decide) (by decide)
 obtain ⟨j,hj⟩:∃ j:Nat,1+t3=(j:Int):=⟨(1+t3).toNat,by ext⟩
 obtain ⟨qs,m4,e4,f4,l4,hy⟩:=Pp (m0:=m3) (n:=n) (k:=k) (mu:=m3) (j:=j) hc hs (by ext) f3.hand
 refine ⟨qs,[some (.ref k),b,c,d,some (.lst (ws.map D.str)),some (.int way),some (loD one),some (csD cs),x8,x9,x10,x11,x12,x13],m4,?_,f3.trans f4,by ext,by ext,hy⟩
 ·have rg:=Kf (mu:=mu) (ro:=[some (.ref k),b,c,d,some (.lst (ws.map D.str)),some (.int way),some (loD one),some (csD cs),x8,x9,x10,x11,x12,x13]) (r:=BW (B2 Ck (eC (.int 1)) (B1 B6 (BW (BX 0) (BW (eC (.int 2)) B0)))) B0) (n:=j) (m:=m3) (by simp! [e3,hj]) (by ext) (by rw [As];ext)
  rw [Int.toNat_natCast] at rg
  unfold lkF
  rcases hw with rfl|rfl
  ·simp! [rg,e4,loD]
  ·have n1:decide ((2:Int)=1)=false:=rfl
   simp! [n1,rg,e4,loD]
theorem Ul {n:Nat}(hc:Wds cs){b c d e:Option D}(h:HandOk mu k (n+2)):∃ (us:List Str) (ro':Ro) (mu':Sto),lkG [some (.ref k),b,c,d,e,some (.int 3),some (loD one),some (csD cs),x8,x9,x10,x11,x12,x13] mu=some ((.rt (loD (.co one us)),ro'),mu')∧Fr k n mu mu'∧us≠[]∧us.length≤cs.length∧∀ x∈us,x∈cs:=by
 have cp:0<cs.length:=List.length_pos_iff.mpr hc.ne
 have c64:=hc.len
 obtain ⟨_,m3,e3,f3,at',rfl,b0,b1⟩:=CS (m:=cs.length) (n:=n+1) h (by ext) (by ext)
 obtain ⟨_,m4,e4,f4,t4,rfl,b2,b3⟩:=CS (m:=cs.length) (n:=n) f3.hand (by ext) (by ext)
 obtain ⟨a,ha⟩:∃ a:Nat,at'=(a:Int):=⟨at'.toNat,by ext⟩
 obtain ⟨j,hj⟩:∃ j:Nat,1+t4=(j:Int):=⟨(1+t4).toNat,by ext⟩
 subst ha
 have pm:(cs.drop a++cs.take a).Perm cs:=by
  have:=List.perm_append_comm (l₁:=cs.drop a) (l₂:=cs.take a)
  rw [List.take_append_drop] at this
  exact this
 have lenS:((cs.drop a++cs.take a).take j).length=j:=by
  rw [AZ,pm.length_eq]
  ext
 refine ⟨(cs.drop a++cs.take a).take j,[some (.ref k),b,c,d,e,some (.int 3),some (loD one),some (csD cs),some (.int a),some (csD ((cs.drop a++cs.take a).take j)),x10,x11,x12,x13],m4,?_,f3.trans f4,λz=>by rw [z] at lenS;simp at lenS;ext,by ext,λx hx=>pm.mem_iff.mp ((List.take_sublist _ _).subset hx)⟩
 ·have s1:cutD (cs.map D.str) (some (a:Int)) none=(cs.drop a).map D.str:=by rw [QY (by rw [Ac];ext),List.map_drop]
  have s2:cutD (cs.map D.str) none (some (a:Int))=(cs.take a).map D.str:=by rw [Nd (by rw [Ac];ext),List.map_take]
  have za:Ck (.tup ((cs.drop a).map D.str)) (.tup ((cs.take a).map D.str)) m3=some (.tup ((cs.drop a++cs.take a).map D.str),m3):=by
   have l1:(cs.drop a).length≤cs.length:=by rw [BR];ext
   have l2:(cs.take a).length≤cs.length:=by rw [AZ];ext
   rw [Sz (by simp only [Ac,As];ext),AM]
  have s3:cutD ((cs.drop a++cs.take a).map D.str) none (some (j:Int))=((cs.drop a++cs.take a).take j).map D.str:=by
   rw [Nd (by rw [Ac,pm.length_eq];ext),List.map_take]
  unfold lkG csD
  simp! [Ac,e3,s1,s2,za,e4,hj,s3,loD]
theorem Uq {n:Nat}(hc:Wds cs){b c d e:Option D}(h:HandOk mu k (n+2)):∃ p q ro' mu',lkH [some (.ref k),b,c,d,e,some (.int 4),some (loD one),some (csD cs),x8,x9,x10,x11,x12,x13] mu=some ((.rt (loD (.ca one [(p,q)])),ro'),mu')∧Fr k n mu mu'∧IsW p∧IsW q:=by
 have c64:=hc.len
 obtain ⟨p,m1,e1,f1,hp⟩:=F1 (s:=csD cs) (n:=n+1) (.inr rfl) hc.ne (by ext) h
 have lf:=RP (m0:=m1) (mu:=m1) cs frees
 have lf':EM none m1 (gNm 0) (tV (B2 Kc (BX 0) (BX 1))) (BX 0) [none,some (csD cs)] [.str "z9",.str "y8",.str "x7",.str "w6",.str "v5"] m1=some ((frees.filter λc=>!decide (c∈cs)).map D.str,m1):=lf
 have fl:(frees.filter λc=>!decide (c∈cs)).length≤5:=List.length_filter_le _ frees
 generalize eg:(frees.filter λc=>!decide (c∈cs))=fs at lf' fl
 have fw:∀ x∈fs,IsW x:=λx hx=>UE x (by rw [← eg] at hx;exact (List.mem_filter.mp hx).1)
 obtain ⟨q,m2,e2,f2,hq⟩:=F1 (s:=.lst ((fs++[p]).map D.str)) (n:=n) (.inl rfl) (by simp) (by rw [Ag];simp only [List.length_cons,List.length_nil];ext) f1.hand
 have za:Ck (.lst (fs.map D.str)) (.lst [.str p]) m1=some (.lst ((fs++[p]).map D.str),m1):=by
  rw [E5 (by simp only [Ac,As,List.length_cons,List.length_nil];ext),AM]
  rfl
 refine ⟨p,q,[some (.ref k),b,c,d,e,some (.int 4),some (loD one),some (csD cs),x8,x9,some (.str p),some (.lst (fs.map D.str)),x12,x13],m2,?_,f1.trans f2,hc.w p hp,?_⟩
 ·unfold lkH
  simp! [e1,lf',za,e2,loD]
  rfl
 ·rcases AE.mp hq with hq|hq
  ·exact fw q hq
  ·rw [Ao.mp hq];exact hc.w p hp
end set_option maxHeartbeats 1000000 in
theorem ID {ts:List Tb}(H:SK ts)(S:StO ts){k most:Nat}(hm:most≤7):∀ (f:Nat) {n deep:Nat} {mu:Sto},1≤deep->deep≤f->deep≤5->Flat mu->HandOk mu k (n+20*3 ^ deep)->∃ (l:Lo) (cs:List Str) (mu':Sto),Dj f [.ref k,scD ts,.int deep,.int most] mu=some (loD l,mu')∧Fr k n mu mu'∧Gd ts (dB deep) l cs
 | 0,n,deep,mu,h1,hf,_,_,_=>by ext
 | f+1,n,deep,mu,h1,hf,h5,hfl,hh=>by
  have p3:60≤20*3 ^ deep:=by
   have:=Nat.pow_le_pow_right (n:=3) (by decide) h1
   ext
  obtain ⟨ws,es,w1,w2,w3⟩:=Qq H S hfl
  have hws:Wds ws:=⟨w1,w2,w3⟩
  obtain ⟨_,m1,e1,f1,way,rfl,a0,a1⟩:=CS (m:=8) (n:=n+20*3 ^ deep-1) (hh.mono (by ext)) (by decide) (by decide)
  have dB1:1≤dB deep:=by unfold dB;split<;>ext
  have body:Dj (f+1) [.ref k,scD ts,.int deep,.int most] mu=bM (FJ (Dj f) [some (.ref k),some (scD ts),some (.int deep),some (.int most),none,none,none,none,none,none,none,none,none,none] mu) J3:=by
   rw [Dj,KO]
   rfl
  have s1:Ci (B1 D6 (BW (BX 1) B0)) (gNm 4) [some (.ref k),some (scD ts),some (.int deep),some (.int most),none,none,none,none,none,none,none,none,none,none] mu=some ((.nx,[some (.ref k),some (scD ts),some (.int deep),some (.int most),some (.lst (ws.map D.str)),none,none,none,none,none,none,none,none,none]),mu):=by simp! [es]
  have s2:Ci (B1 B6 (BW (BX 0) (BW (eC (.int 8)) B0))) (gNm 5) [some (.ref k),some (scD ts),some (.int deep),some (.int most),some (.lst (ws.map D.str)),none,none,none,none,none,none,none,none,none] mu=some ((.nx,[some (.ref k),some (scD ts),some (.int deep),some (.int most),some (.lst (ws.map D.str)),some (.int way),none,none,none,none,none,none,none,none]),m1):=by simp! [e1]
  rw [body,X1,CH s1,CH s2]
  by_cases c0:(deep:Int)<2∨way=0
  ·obtain ⟨d,m2,e2,f2,hd⟩:=pick_run (s:=scD ts) (ds:=ts.map tbD) (n:=n) (.inr rfl) (λz=>by have l:=congrArg List.length z;rw [Ac,List.length_nil] at l;have:=H.l1;ext) (by rw [Ac];have:=H.l4;ext) (f1.hand.mono (by ext))
   obtain ⟨t,ht,rfl⟩:=Aw.mp hd
   obtain ⟨cs,g⟩:=Zm H ht
   refine ⟨.of t.nm,cs,m2,?_,f1.trans f2,g.up dB1⟩
   have s3:∀ x:Bool,(tO (tV (B2 ltG (BX 2) (eC (.int 2)))) (tV (B2 eqD (BX 5) (eC (.int 0))))) [some (.ref k),some (scD ts),some (.int deep),some (.int most),some (.lst (ws.map D.str)),some (.int way),none,none,none,none,none,none,none,none] m1=some (true,m1):=λ_=>by
    by_cases c:(deep:Int)<2
    ·simp! [c]
    ·simp! [c,c0.resolve_left c]
   rw [Gs (d:=loD (.of t.nm)) (m:=m2) (ro':=[some (.ref k),some (scD ts),some (.int deep),some (.int most),some (.lst (ws.map D.str)),some (.int way),none,none,none,none,none,none,none,none]),B5,E4]
   rw [FD,s3 true,B5,if_pos rfl]
   simp! [e2,tbD,loD]
  ·rw [not_or] at c0
   obtain ⟨c1,c2⟩:=c0
   have d2:2≤deep:=by ext
   have dd:(deep:Int)-1=((deep-1:Nat):Int):=by ext
   have pw:3 ^ deep=3*3 ^ (deep-1):=by
    have:deep=(deep-1)+1:=by ext
    rw [this,Nat.pow_succ]
    simp
    ext
   have p1:1≤3 ^ (deep-1):=Nat.pos_of_ne_zero (by simp)
   obtain ⟨one,cs,m2,e2,f2,g1⟩:=ID H S hm f (n:=n+20*3 ^ (deep-1)+15) (deep:=deep-1) (mu:=m1) (by ext) (by ext) (by ext) (f1.flat hfl) (f1.hand.mono (by ext))
   have fr2:=f1.trans f2
   have dl:dB (deep-1)+1≤dB deep:=by unfold dB;split<;>split<;>ext
   have d7:dB (deep-1)≤6:=by unfold dB;split<;>ext
   have lc:=g1.run 10 m2 (by ext)
   have hcs:=g1.wds
   have c7:=g1.l7
   have s3:sIf (tO (tV (B2 ltG (BX 2) (eC (.int 2)))) (tV (B2 eqD (BX 5) (eC (.int 0))))) (sRt (Cq (BW (eC (.str "of")) (BW (B2 ixG (B1 Cg (BW (BX 0) (BW (BX 1) B0))) (eC (.int 0))) B0)))) (sNx) [some (.ref k),some (scD ts),some (.int deep),some (.int most),some (.lst (ws.map D.str)),some (.int way),none,none,none,none,none,none,none,none] m1=some ((.nx,[some (.ref k),some (scD ts),some (.int deep),some (.int most),some (.lst (ws.map D.str)),some (.int way),none,none,none,none,none,none,none,none]),m1):=by simp! [c1,c2]
   have s4:Ci (B1 (Dj f) (BW (BX 0) (BW (BX 1) (BW (B2 F9 (BX 2) (eC (.int 1))) (BW (BX 3) B0))))) (gNm 6) [some (.ref k),some (scD ts),some (.int deep),some (.int most),some (.lst (ws.map D.str)),some (.int way),none,none,none,none,none,none,none,none] m1=some ((.nx,[some (.ref k),some (scD ts),some (.int deep),some (.int most),some (.lst (ws.map D.str)),some (.int way),some (loD one),none,none,none,none,none,none,none]),m2):=by simp! [dd,e2]
   have s5:Ci (B1 (Cd 10) (BW (BX 1) (BW (BX 6) B0))) (gNm 7) [some (.ref k),some (scD ts),some (.int deep),some (.int most),some (.lst (ws.map D.str)),some (.int way),some (loD one),none,none,none,none,none,none,none] m2=some ((.nx,[some (.ref k),some (scD ts),some (.int deep),some (.int most),some (.lst (ws.map D.str)),some (.int way),some (loD one),some (csD cs),none,none,none,none,none,none]),m2):=by simp! [lc]
   rw [CH s3,CH s4,CH s5]
   by_cases w12:way=1∨way=2
   ·obtain ⟨qs,ro',m3,e3,f3,q1,q2,q3⟩:=UM (mu:=m2) (n:=n) (k:=k) (one:=one) (x8:=none) (x9:=none) (x10:=none) (x11:=none) (x12:=none) (x13:=none) (b:=some (scD ts)) (c:=some (.int deep)) (d:=some (.int most)) w12 hcs hws (f2.hand.mono (by ext))
    refine ⟨.ro one qs,cs,m3,?_,fr2.trans f3,(Vl g1 q1 q2 q3).up dl⟩
    rw [Gs e3,B5,E4]
   rw [not_or] at w12
   rw [CH (V3 w12.1 w12.2)]
   by_cases w3':way=3
   ·subst w3'
    obtain ⟨us,ro',m3,e3,f3,q1,q2,q3⟩:=Ul (mu:=m2) (n:=n) (k:=k) (one:=one) (x8:=none) (x9:=none) (x10:=none) (x11:=none) (x12:=none) (x13:=none) (b:=some (scD ts)) (c:=some (.int deep)) (d:=some (.int most)) (e:=some (.lst (ws.map D.str))) hcs (f2.hand.mono (by ext))
    refine ⟨.co one us,us,m3,?_,fr2.trans f3,(YD g1 q1 (by ext) λx hx=>g1.w x (q3 x hx)).up dl⟩
    rw [Gs e3,B5,E4]
   rw [CH (VM w3')]
   by_cases w4:way=4
   ·subst w4
    obtain ⟨p,q,ro',m3,e3,f3,q1,q2⟩:=Uq (mu:=m2) (n:=n) (k:=k) (one:=one) (x8:=none) (x9:=none) (x10:=none) (x11:=none) (x12:=none) (x13:=none) (b:=some (scD ts)) (c:=some (.int deep)) (d:=some (.int most)) (e:=some (.lst (ws.map D.str))) hcs (f2.hand.mono (by ext))
    refine ⟨.ca one [(p,q)],_,m3,?_,fr2.trans f3,(Yj g1 q1 q2).up dl⟩
    rw [Gs e3,B5,E4]
   rw [CH (V0 w4)]
   obtain ⟨other,cs2,m3,e3,f3,g2⟩:=ID H S hm f (n:=n+3) (deep:=deep-1) (mu:=m2) (by ext) (by ext) (by ext) (fr2.flat hfl) (f2.hand.mono (by ext))
   have fr3:=fr2.trans f3
   have s6:Ci (B1 (Dj f) (BW (BX 0) (BW (BX 1) (BW (B2 F9 (BX 2) (eC (.int 1))) (BW (BX 3) B0))))) (gNm 12) [some (.ref k),some (scD ts),some (.int deep),some (.int most),some (.lst (ws.map D.str)),some (.int way),some (loD one),some (csD cs),none,none,none,none,none,none] m2=some ((.nx,[some (.ref k),some (scD ts),some (.int deep),some (.int most),some (.lst (ws.map D.str)),some (.int way),some (loD one),some (csD cs),none,none,none,none,some (loD other),none]),m3):=by simp! [dd,e3]
   rw [CH s6]
   by_cases w5:way=5
   ·subst w5
    obtain ⟨j1,j2,j3,j4,j5⟩:=UT g1 g2
    have r:=j3 10 m3 (by ext)
    have jd:loD (.pr "join" one other)=.tup [.str "join",loD one,loD other]:=rfl
    rw [jd] at r
    by_cases lt:((MN cs cs2).length:Int)≤most
    ·refine ⟨.pr "join" one other,MN cs cs2,m3,?_,fr3.mono (by ext),Gd.up ⟨j1,j2,j3,j4,by ext,j5⟩ dl⟩
     have s7:lkJ [some (.ref k),some (scD ts),some (.int deep),some (.int most),some (.lst (ws.map D.str)),some (.int 5),some (loD one),some (csD cs),none,none,none,none,some (loD other),none] m3=some ((.rt (loD (.pr "join" one other)),[some (.ref k),some (scD ts),some (.int deep),some (.int most),some (.lst (ws.map D.str)),some (.int 5),some (loD one),some (csD cs),none,none,none,none,some (loD other),some (.tup [.str "join",loD one,loD other])]),m3):=by
      unfold lkJ
      unfold csD at r
      simp! [r,Ac,lt,jd]
     rw [Gs s7,B5,E4]
    ·refine ⟨one,cs,m3,?_,fr3.mono (by ext),g1.up (by ext)⟩
     have s7:lkJ [some (.ref k),some (scD ts),some (.int deep),some (.int most),some (.lst (ws.map D.str)),some (.int 5),some (loD one),some (csD cs),none,none,none,none,some (loD other),none] m3=some ((.rt (loD one),[some (.ref k),some (scD ts),some (.int deep),some (.int most),some (.lst (ws.map D.str)),some (.int 5),some (loD one),some (csD cs),none,none,none,none,some (loD other),some (.tup [.str "join",loD one,loD other])]),m3):=by
      unfold lkJ
      unfold csD at r
      simp! [r,Ac,lt]
     rw [Gs s7,B5,E4]
   rw [CH (Xo w5)]
   have lc3:=g2.run 10 m3 (by ext)
   have ne:neD (csD cs2) (csD cs) m3=some (.bl (!decide (csD cs2=csD cs)),m3):=OO (IC cs2) (IC cs)
   obtain ⟨u,hu,eu⟩:∃ u:Str,(u="union"∨u="gap")∧∀ m:Sto,ixG (.lst [.str "union",.str "gap"]) (.int (way-6)) m=some (.str u,m):=by
    have:way=6∨way=7:=by ext
    rcases this with rfl|rfl
    ·exact ⟨"union",.inl rfl,λm=>MH (ds:=[.str "union",.str "gap"]) _ (.inl rfl) (by decide) rfl⟩
    ·exact ⟨"gap",.inr rfl,λm=>MH (ds:=[.str "union",.str "gap"]) _ (.inl rfl) (by decide) rfl⟩
   have fin:∀ (b:Lo) (m:Sto),bM (lkL [some (.ref k),some (scD ts),some (.int deep),some (.int most),some (.lst (ws.map D.str)),some (.int way),some (loD one),some (csD cs),none,none,none,none,some (loD b),none] m) J3=some (loD (.pr u one b),m):=λb m=>by
    unfold lkL
    simp! [eu,loD]
   by_cases same:csD cs2=csD cs
   ·refine ⟨.pr u one other,cs,m3,?_,fr3.mono (by ext),(NX g1 g2 hu).up dl⟩
    have s7:lkK [some (.ref k),some (scD ts),some (.int deep),some (.int most),some (.lst (ws.map D.str)),some (.int way),some (loD one),some (csD cs),none,none,none,none,some (loD other),none] m3=some ((.nx,[some (.ref k),some (scD ts),some (.int deep),some (.int most),some (.lst (ws.map D.str)),some (.int way),some (loD one),some (csD cs),none,none,none,none,some (loD other),none]),m3):=by
     have ne':neD (csD cs2) (csD cs) m3=some (.bl false,m3):=by rw [ne,A9 same];rfl
     unfold lkK
     simp! [lc3,ne']
    rw [CH s7]
    exact fin other m3
   by_cases c3:(2:Int)<deep∧hdW one≠"rows"
   ·obtain ⟨t,m4,e4,f4,hy⟩:=L7 (n:=n) hcs hws (f3.hand.mono (by ext))
    have g3:=Vl (qs:=[t]) g1 (by simp) (by simp) λq hq=>by rw [Ao.mp hq];exact hy
    refine ⟨.pr u one (.ro one [t]),cs,m4,?_,fr3.trans f4,(NX (g1.up (Nat.le_succ _)) g3 hu).up (by unfold dB;split<;>split<;>ext)⟩
    have nr:neD (.str (hdW one)) (.str "rows") m3=some (.bl (!decide ((D.str (hdW one))=.str "rows")),m3):=OO (Ds _) (Ds _)
    have nr':¬ ((D.str (hdW one))=.str "rows"):=λz=>c3.2 (by injection z)
    have s7:lkK [some (.ref k),some (scD ts),some (.int deep),some (.int most),some (.lst (ws.map D.str)),some (.int way),some (loD one),some (csD cs),none,none,none,none,some (loD other),none] m3=some ((.nx,[some (.ref k),some (scD ts),some (.int deep),some (.int most),some (.lst (ws.map D.str)),some (.int way),some (loD one),some (csD cs),none,none,none,none,some (loD (.ro one [t])),none]),m4):=by
     unfold lkK
     simp! [lc3,ne,same,c3.1,VC,nr,nr',e4]
     rfl
    rw [CH s7]
    exact fin (.ro one [t]) m4
   ·refine ⟨.pr u one one,cs,m3,?_,fr3.mono (by ext),(NX g1 g1 hu).up dl⟩
    have s7:lkK [some (.ref k),some (scD ts),some (.int deep),some (.int most),some (.lst (ws.map D.str)),some (.int way),some (loD one),some (csD cs),none,none,none,none,some (loD other),none] m3=some ((.nx,[some (.ref k),some (scD ts),some (.int deep),some (.int most),some (.lst (ws.map D.str)),some (.int way),some (loD one),some (csD cs),none,none,none,none,some (loD one),none]),m3):=by
     unfold lkK
     by_cases c4:(2:Int)<deep
     ·have hr:hdW one="rows":=by
       cases Classical.em (hdW one="rows") with
       | inl h=>exact h
       | inr h=>exact (c3 ⟨c4,h⟩).elim
      have nr:neD (.str (hdW one)) (.str "rows") m3=some (.bl (!decide ((D.str (hdW one))=.str "rows")),m3):=OO (Ds _) (Ds _)
      have nr':neD (.str (hdW one)) (.str "rows") m3=some (.bl false,m3):=by rw [nr,hr];simp
      simp! [lc3,ne,same,c4,VC,nr']
     ·simp! [lc3,ne,same,c4]
    rw [CH s7]
    exact fin one m3
theorem SM {xs ys:List Str}(hx:xs≠[])(hy:ys≠[]):Txt.join " " (xs++[Txt.join " " ys])=Txt.join " " (xs++ys):=by
 refine Js ?_
 have x1:xs.map (λx=>x.cps.toList)≠[]:=by simpa using hx
 have y1:ys.map (λx=>x.cps.toList)≠[]:=by simpa using hy
 rw [join_eq,join_eq,AM,AM,JN _ _ x1 y1,JN _ _ x1 (by simp),AO,List.map_nil,join_eq]
 rfl
theorem HP (l:Lo):loW l≠[]:=by cases l<;>simp [loW]
theorem Pc {ss:List Str}{t:Str}(h1:(ss.map (·.length)).sum+ss.length≤1000000)(e:Txt.join " " ss=t)(h2:t.length≤1000000)(h3:PyData.strOk t=true):Jc (.str " ") [.lst (ss.map D.str)] mu=some (.str t,mu):=by
 unfold Jc
 simp only [Fh,Dg,JU]
 rw [e,if_pos ⟨by symm,by ext,by rw [As];ext,h3⟩]
theorem TxOk.sub {xs ys:List Str}(h:TxOk xs)(h0:ys≠[])(h1:ys.length≤xs.length)(h2:∀ x∈ys,x∈xs):TxOk ys:=⟨h0,AN h1 h.len,λx hx=>h.w x (h2 x hx)⟩
theorem T4 {ws vs:List Str}(h:TxOk (ws++vs))(h0:ws≠[])(h1:vs≠[]):Jc (.str " ") [.lst ((ws++[Txt.join " " vs]).map D.str)] mu=some (.str (Txt.join " " (ws++vs)),mu):=by
 have hv:TxOk vs:=h.sub h1 (by rw [Ag];ext) λx hx=>AE.mpr (.inr hx)
 have hw:TxOk ws:=h.sub h0 (by rw [Ag];ext) λx hx=>AE.mpr (.inl hx)
 have l1:=Fs hv
 have l2:=Fs h
 have s:=RM hw.w
 have hl:=hw.len
 refine Pc ?_ (SM h0 h1) (by ext) (LA h)
 simp only [AM,List.sum_append,AO,List.map_nil,List.sum_cons,List.sum_nil,Ag,List.length_cons,List.length_nil]
 ext
def G9:Sx:=(Ci (B2 Ck (BX 2) (eIf (tV (B2 eqD (BX 1) (eC (.str "columns")))) (EL (BW (BX 3) B0)) (B1 Jb (BW (BX 3) B0)))) (gNm 2))
theorem Jj {look:D}{w:Str}(g:D->List Str)(gs:List D)(hg:∀ (d:D) (acc:List Str) (mu:Sto) (x3:D),d∈gs->acc.length≤30000->G9 [some look,some (.str w),some (.lst (acc.map D.str)),some d] mu=some ((.nx,[some look,some (.str w),some (.lst ((acc++g d).map D.str)),some d]),mu)):∀ (ds:List D) (acc:List Str) (x3:Option D),(∀ d∈ds,d∈gs)->acc.length+(ds.flatMap g).length≤30000->∃ y3,EH none mu (gNm 3) G9 ds [some look,some (.str w),some (.lst (acc.map D.str)),x3] mu=some ((.nx,[some look,some (.str w),some (.lst ((acc++ds.flatMap g).map D.str)),y3]),mu)
 | [],acc,x3,_,_=>⟨x3,by rw [List.flatMap_nil,List.append_nil];rfl⟩
 | d::ds,acc,x3,h,hl=>by
  rw [BE,Ag] at hl
  obtain ⟨y3,ih⟩:=Jj g gs hg ds (acc++g d) (some d) (λd hd=>h d (.tail _ hd)) (by rw [Ag];ext)
  refine ⟨y3,?_⟩
  have b:=hg d acc mu d (h d (.head _)) (by ext)
  have tg:gNm 3 d [some look,some (.str w),some (.lst (acc.map D.str)),x3] mu=some ([some look,some (.str w),some (.lst (acc.map D.str)),some d],mu):=rfl
  unfold EH
  rw [tg,CA,b,CA]
  dsimp only
  rw [D9,if_pos (show gOk none mu mu from True.intro),ih,BE,List.append_assoc]
theorem Lp {f:Fn}{n:Nat}{w:Str}{a:Lo}{ps:List D}{us:List Str}(hw:w="rows"∨w="columns"∨w="called")(hn:ps.length≤99)
  (hf:∃ y3,EH none mu (gNm 3) G9 ps [some (.tup [.str w,loD a,.tup ps]),some (.str w),some (.lst (([w,nS ps.length]:List Str).map D.str)),none] mu=some ((.nx,[some (.tup [.str w,loD a,.tup ps]),some (.str w),some (.lst (((([w,nS ps.length]:List Str)++us)).map D.str)),y3]),mu))
  (ha:f [loD a] mu=some (.str (Txt.join " " (loW a)),mu)) (h:TxOk (w::nS ps.length::(us++loW a))):fnB 4 (CL f) [.tup [.str w,loD a,.tup ps]] mu=some (.str (Txt.join " " (w::nS ps.length::(us++loW a))),mu):=by
 obtain ⟨y3,hf⟩:=hf
 have d1:decide (w="of")=false:=by rcases hw with rfl|rfl|rfl<;>symm
 have d2:=Pr (mu:=mu) (w:=w) (b:=false) (by rcases hw with rfl|rfl|rfl<;>symm)
 have ns:=HA (mu:=mu) (n:=ps.length) hn
 have je:=T4 (mu:=mu) (ws:=w::nS ps.length::us) (vs:=loW a) (by simpa using h) (by simp) (HP a)
 have hl:=h.len
 have ad:Ck (.lst (((([w,nS ps.length]:List Str)++us)).map D.str)) (.lst [.str (Txt.join " " (loW a))]) mu=some (.lst ((w::nS ps.length::us++[Txt.join " " (loW a)]).map D.str),mu):=by
  rw [E5 (by simp only [Ac,Ag,List.length_cons,List.length_nil,As] at hl ⊢;ext)]
  simp
 have fe:EH none mu (gNm 3) G9 ps [some (.tup [.str w,loD a,.tup ps]),some (.str w),some (.lst [.str w,.str (nS ps.length)]),none] mu=_:=hf
 unfold G9 at fe
 have ej:∀ ro m,L8 (eC (.str " ")) (BW (B2 Ck (BX 2) (EL (BW (B1 f (BW (B2 ixG (BX 0) (eC (.int 1))) B0)) B0))) B0) ro m=bM ((BW (B2 Ck (BX 2) (EL (BW (B1 f (BW (B2 ixG (BX 0) (eC (.int 1))) B0)) B0))) B0) ro m) λxs m2=>Jc (.str " ") xs m2:=λ_ _=>rfl
 have je':Jc (.str " ") [.lst ((w::nS ps.length::us++[Txt.join " " (loW a)]).map D.str)] mu=some (.str (Txt.join " " (w::nS ps.length::(us++loW a))),mu):=je
 generalize (([w,nS ps.length]:List Str)++us).map D.str=A at fe ad
 generalize (w::nS ps.length::us++[Txt.join " " (loW a)]).map D.str=B at ad je'
 simp! [CL,d1,d2,ns,fe,ej,ha,ad,je']
theorem Tu (w:Str):(Str.ofString "of ")++w=Txt.join " " ["of",w]:=by
 refine Js ?_
 rw [join_eq,Str.cps_append,BP]
 rfl
theorem Tj {p:Str}{xs ys:List Str}(hx:xs≠[])(hy:ys≠[]):Txt.join " " [p,Txt.join " " xs,Txt.join " " ys]=Txt.join " " (p::(xs++ys)):=by
 refine Js ?_
 have x1:xs.map (λx=>x.cps.toList)≠[]:=by simpa using hx
 have y1:ys.map (λx=>x.cps.toList)≠[]:=by simpa using hy
 rw [join_eq,join_eq,AO,AO,AO,List.map_nil,join_eq,join_eq,AO,AM]
 have e:=JN [p.cps.toList] (xs.map (λx=>x.cps.toList)++ys.map (λx=>x.cps.toList)) (by simp) (by simp [hx])
 rw [JN _ _ x1 y1] at e
 exact e.symm
noncomputable def gP:D->List Str
 | .tup [.str a,.str b,.str c]=>[a,b,c]
 | .tup [.str a,.str b]=>[a,b]
 | .str a=>[a]
 | _=>[]
theorem Gf:∀ (f n:Nat) (l:Lo) (mu:Sto),n≤f->OkL n l->TxOk (loW l)->Cn f [loD l] mu=some (.str (Txt.join " " (loW l)),mu)
 | 0,n,l,mu,hn,ok,_=>by cases (show n=0 by ext);exact ok.elim
 | f+1,0,l,mu,_,ok,_=>ok.elim
 | f+1,n+1,.of w,mu,hn,ok,h=>by
  have d1:decide (Str.ofString "of"=Str.ofString "of")=true:=by simp
  have hw:IsW w:=ok
  have hh:=hw.hi
  have ad:Ck (.str "of ") (.str w) mu=some (.str (Txt.join " " ["of",w]),mu):=by
   rw [LB (by rw [As,show (Str.ofString "of ").length=3 from rfl];ext),Tu]
  unfold loD loW
  simp! [Cn,CL,d1,ad]
 | f+1,n+1,.pr p a b,mu,hn,ok,h=>by
  obtain ⟨hp,ha,hb⟩:=ok
  have sa:TxOk (loW a):=h.sub (HP a) (by simp [loW];ext) λx hx=>by simp [loW,hx]
  have sb:TxOk (loW b):=h.sub (HP b) (by simp [loW];ext) λx hx=>by simp [loW,hx]
  have ea:=Gf f n a mu (by ext) ha sa
  have eb:=Gf f n b mu (by ext) hb sb
  have d1:decide (p=Str.ofString "of")=false:=by
   simp only [Ah,Au,AY] at hp
   rcases hp with rfl|rfl|rfl<;>symm
  have d2:=Pr (mu:=mu) (w:=p) (b:=true) (A9 hp)
  have l1:=Fs sa
  have l2:=Fs sb
  have l3:=Fs h
  have lp:p.length≤8:=(h.w p (by simp [loW])).hi
  have jo:=Pc (mu:=mu) (ss:=[p,Txt.join " " (loW a),Txt.join " " (loW b)]) (t:=Txt.join " " (loW (.pr p a b))) (by simp only [AO,List.map_nil,List.sum_cons,List.sum_nil,List.length_cons,List.length_nil];ext) (Tj (HP a) (HP b)) (by ext) (LA h)
  have jo':Jc (.str " ") [.lst [.str p,.str (Txt.join " " (loW a)),.str (Txt.join " " (loW b))]] mu=_:=jo
  have ej:∀ (a:Exs) ro m,L8 (eC (.str " ")) a ro m=bM (a ro m) λxs m2=>Jc (.str " ") xs m2:=λ_ _ _=>rfl
  unfold loD
  simp! [Cn,CL,d1,d2,ej,ea,eb,jo']
 | f+1,n+1,.ro a ts,mu,hn,ok,h=>by
  obtain ⟨⟨h1,h4⟩,ht,ha⟩:=ok
  have sa:TxOk (loW a):=h.sub (HP a) (by simp [loW];ext) λx hx=>by simp [loW,hx]
  have ea:=Gf f n a mu (by ext) ha sa
  have d3:decide (Str.ofString "rows"=Str.ofString "columns")=false:=by symm
  have fm:(ts.map t3D).flatMap gP=ts.flatMap λt=>[t.1,t.2.1,t.2.2]:=by rw [List.flatMap_map];rfl
  have hl:=h.len
  have e:Cn (f+1) [loD (.ro a ts)] mu=fnB 4 (CL (Cn f)) [.tup [.str "rows",loD a,.tup (ts.map t3D)]] mu:=rfl
  have tp:=Lp (n:=n) (f:=Cn f) (w:="rows") (a:=a) (ps:=ts.map t3D) (us:=ts.flatMap λt=>[t.1,t.2.1,t.2.2]) (mu:=mu) (.inl rfl) (by rw [Ac];ext) (by
   have:=Jj (mu:=mu) (look:=.tup [.str "rows",loD a,.tup (ts.map t3D)]) (w:="rows") gP (ts.map t3D) (λd acc mu x3 hd hac=>by
    obtain ⟨t,_,rfl⟩:=Aw.mp hd
    have lf:Jb [t3D t] mu=some (.lst (([t.1,t.2.1,t.2.2]:List Str).map D.str),mu):=rfl
    have ad:Ck (.lst (acc.map D.str)) (.lst (([t.1,t.2.1,t.2.2]:List Str).map D.str)) mu=some (.lst ((acc++gP (t3D t)).map D.str),mu):=by
     rw [E5 (by simp only [Ac,List.length_cons,List.length_nil,As];ext),AM]
     rfl
    generalize (acc++gP (t3D t)).map D.str=A at ad ⊢
    generalize acc.map D.str=B at ad ⊢
    generalize ([t.1,t.2.1,t.2.2]:List Str).map D.str=C at ad lf
    unfold G9
    simp! [d3,lf,ad]) (ts.map t3D) ["rows",nS (ts.map t3D).length] none (λd hd=>hd) (by rw [fm];simp [loW] at hl ⊢;ext)
   rw [fm] at this
   exact this) ea (by rw [Ac];exact h)
  rw [e,tp,Ac]
  rfl
 | f+1,n+1,.co a ws,mu,hn,ok,h=>by
  obtain ⟨⟨h1,h4⟩,ht,ha⟩:=ok
  have sa:TxOk (loW a):=h.sub (HP a) (by simp [loW];ext) λx hx=>by simp [loW,hx]
  have ea:=Gf f n a mu (by ext) ha sa
  have d3:decide (Str.ofString "columns"=Str.ofString "columns")=true:=by simp
  have fm:(ws.map D.str).flatMap gP=ws:=by
   rw [List.flatMap_map]
   induction ws with
   | nil=>rfl
   | cons x xs _=>exact List.flatMap_singleton' (x::xs)
  have hl:=h.len
  have e:Cn (f+1) [loD (.co a ws)] mu=fnB 4 (CL (Cn f)) [.tup [.str "columns",loD a,.tup (ws.map D.str)]] mu:=rfl
  have tp:=Lp (n:=n) (f:=Cn f) (w:="columns") (a:=a) (ps:=ws.map D.str) (us:=ws) (mu:=mu) (.inr (.inl rfl)) (by rw [Ac];ext) (by
   have:=Jj (mu:=mu) (look:=.tup [.str "columns",loD a,.tup (ws.map D.str)]) (w:="columns") gP (ws.map D.str) (λd acc mu x3 hd hac=>by
    obtain ⟨t,_,rfl⟩:=Aw.mp hd
    have ad:Ck (.lst (acc.map D.str)) (.lst [.str t]) mu=some (.lst ((acc++gP (.str t)).map D.str),mu):=by
     rw [E5 (by simp only [Ac,List.length_cons,List.length_nil,As];ext),AM]
     rfl
    generalize (acc++gP (.str t)).map D.str=A at ad ⊢
    generalize acc.map D.str=B at ad ⊢
    unfold G9
    simp! [d3,ad]) (ws.map D.str) ["columns",nS (ws.map D.str).length] none (λd hd=>hd) (by rw [fm];simp [loW] at hl ⊢;ext)
   rw [fm] at this
   exact this) ea (by rw [Ac];exact h)
  rw [e,tp,Ac]
  rfl
 | f+1,n+1,.ca a ps,mu,hn,ok,h=>by
  obtain ⟨⟨h1,h4⟩,ht,ha⟩:=ok
  have sa:TxOk (loW a):=h.sub (HP a) (by simp [loW];ext) λx hx=>by simp [loW,hx]
  have ea:=Gf f n a mu (by ext) ha sa
  have d3:decide (Str.ofString "called"=Str.ofString "columns")=false:=by symm
  have fm:(ps.map prD).flatMap gP=ps.flatMap λt=>[t.1,t.2]:=by rw [List.flatMap_map];rfl
  have hl:=h.len
  have e:Cn (f+1) [loD (.ca a ps)] mu=fnB 4 (CL (Cn f)) [.tup [.str "called",loD a,.tup (ps.map prD)]] mu:=rfl
  have tp:=Lp (n:=n) (f:=Cn f) (w:="called") (a:=a) (ps:=ps.map prD) (us:=ps.flatMap λt=>[t.1,t.2]) (mu:=mu) (.inr (.inr rfl)) (by rw [Ac];ext) (by
   have:=Jj (mu:=mu) (look:=.tup [.str "called",loD a,.tup (ps.map prD)]) (w:="called") gP (ps.map prD) (λd acc mu x3 hd hac=>by
    obtain ⟨t,_,rfl⟩:=Aw.mp hd
    have lf:Jb [prD t] mu=some (.lst (([t.1,t.2]:List Str).map D.str),mu):=rfl
    have ad:Ck (.lst (acc.map D.str)) (.lst (([t.1,t.2]:List Str).map D.str)) mu=some (.lst ((acc++gP (prD t)).map D.str),mu):=by
     rw [E5 (by simp only [Ac,List.length_cons,List.length_nil,As];ext),AM]
     rfl
    generalize (acc++gP (prD t)).map D.str=A at ad ⊢
    generalize acc.map D.str=B at ad ⊢
    generalize ([t.1,t.2]:List Str).map D.str=C at ad lf
    unfold G9
    simp! [d3,lf,ad]) (ps.map prD) ["called",nS (ps.map prD).length] none (λd hd=>hd) (by rw [fm];simp [loW] at hl ⊢;ext)
   rw [fm] at this
   exact this) ea (by rw [Ac];exact h)
  rw [e,tp,Ac]
  rfl
noncomputable def Hh:Nat->D->Bool
 | 0,_=>false
 | _+1,.str _=>true
 | n+1,.tup ds=>ds.all (Hh n)
 | _,_=>false
theorem Hq:∀ (n:Nat) (l:Lo) (m:Nat),OkL n l->n+3≤m->Hh m (loD l)=true
 | 0,_,_,h,_=>h.elim
 | n+1,.of w,m,h,l=>by
  obtain ⟨m,rfl⟩:∃ q,m=q+2:=⟨m-2,by ext⟩
  rfl
 | n+1,.pr p a b,m,h,l=>by
  obtain ⟨m,rfl⟩:∃ q,m=q+2:=⟨m-2,by ext⟩
  have ha:=Hq n a (m+1) h.2.1 (by ext)
  have hb:=Hq n b (m+1) h.2.2 (by ext)
  simp only [loD,Hh,List.all_cons,List.all_nil,ha,hb,Bool.and_self]
 | n+1,.ro a ts,m,h,l=>by
  obtain ⟨m,rfl⟩:∃ q,m=q+4:=⟨m-4,by ext⟩
  have ha:=Hq n a (m+3) h.2.2 (by ext)
  have ht:(ts.map t3D).all (Hh (m+2))=true:=by
   rw [List.all_map,Ar]
   intro t _
   rfl
  simp only [loD,Hh,List.all_cons,List.all_nil,ha,ht,Bool.and_self]
 | n+1,.co a ws,m,h,l=>by
  obtain ⟨m,rfl⟩:∃ q,m=q+4:=⟨m-4,by ext⟩
  have ha:=Hq n a (m+3) h.2.2 (by ext)
  have ht:(ws.map D.str).all (Hh (m+2))=true:=by
   rw [List.all_map,Ar]
   intro t _
   rfl
  simp only [loD,Hh,List.all_cons,List.all_nil,ha,ht,Bool.and_self]
 | n+1,.ca a ps,m,h,l=>by
  obtain ⟨m,rfl⟩:∃ q,m=q+4:=⟨m-4,by ext⟩
  have ha:=Hq n a (m+3) h.2.2 (by ext)
  have ht:(ps.map prD).all (Hh (m+2))=true:=by
   rw [List.all_map,Ar]
   intro t _
   rfl
  simp only [loD,Hh,List.all_cons,List.all_nil,ha,ht,Bool.and_self]
theorem Mz:∀ (n:Nat) (d:D) (mu:Sto),Hh n d=true->CZ n [d,d] mu=some (.bl true,mu)
 | 0,_,_,h=>by cases h
 | n+1,.str x,mu,_=>by
  have t1:("str"=="tuple")=false:=by decide
  have t2:("str"=="int")=false:=by decide
  have t3:("str"=="str")=true:=by decide
  have t4:decide (x=x)=true:=by simp
  simp! [CZ,FL,t1,t2,t3,t4]
 | n+1,.tup ds,mu,h=>by
  have ha:∀ d∈ds,Hh n d=true:=Ar.mp h
  have t1:("tuple"=="tuple")=true:=by decide
  have ne:(!decide ((ds.length:Int)=(ds.length:Int)))=false:=by simp
  have zp:VS (BW (BX 0) (BW (BX 1) B0)) [some (.tup ds),some (.tup ds)] mu=some ((FV ds ds,none),mu):=rfl
  have lc:=MU (m0:=mu) (tg:=gTp 2 (Cf (gNm 0) (Cf (gNm 1) Dd))) (el:=B1 (CZ n) (BW (BX 0) (BW (BX 1) B0))) (ro:=[none,none]) (mu:=mu) (λ_=>true) (FV ds ds) (λd hd=>by
   unfold FV at hd
   obtain ⟨p,hp,rfl⟩:=Aw.mp hd
   obtain ⟨i,hi⟩:=A7.mp hp
   rw [List.getElem?_zip_eq_some] at hi
   have e:p.1=p.2:=AI (hi.1.symm.trans hi.2)
   have r:=Mz n p.1 mu (ha _ (Al hi.1))
   rw [← e]
   exact ⟨_,rfl,by simp! [r]⟩)
  have al:((FV ds ds).all λ_=>true)=true:=by simp
  simp! [CZ,FL,t1,ne,zp,lc,al]
 | n+1,.non,_,h=>by cases h
 | n+1,.bl _,_,h=>by cases h
 | n+1,.int _,_,h=>by cases h
 | n+1,.lst _,_,h=>by cases h
 | n+1,.ref _,_,h=>by cases h
 | n+1,.dct _ _,_,h=>by cases h
 | n+1,.set _,_,h=>by cases h
def cW (k:Nat):Str:=Str.ofString "c"++nS k
theorem X8:∀ n:Nat,n<100->wB (cW n)=true:=by symm
theorem Vu {q:Nat}(h:q<100):Ck (.str "c") (.str (nS q)) mu=some (.str (cW q),mu):=by
 have:=(D5.mp (L3 q h)).hi
 exact LB (by rw [As,show (Str.ofString "c").length=1 from rfl];ext)
theorem OE {j m:Int}(h0:0<m)(h1:m≤100):∃ q:Nat,j % m=(q:Int)∧q<100:=by
 have a:=Bf j (show m≠0 by ext)
 have b:=A6 j h0
 exact ⟨(j % m).toNat,by ext,by ext⟩
theorem QN {ys:List D}(h:∀ (j:Nat) d,ys[j]? = some d->∃ x,d=D.str x∧IsW x):∃ ws:List Str,ys=ws.map D.str∧∀ x∈ws,IsW x:=by
 induction ys with
 | nil=>exact ⟨[],rfl,λ_ h=>nomatch h⟩
 | cons d ys ih =>
  obtain ⟨x,rfl,hx⟩:=h 0 d rfl
  obtain ⟨ws,rfl,hw⟩:=ih λj d e=>h (j+1) d (by simpa using e)
  refine ⟨x::ws,rfl,λq hq=>?_⟩
  rcases Ah.mp hq with rfl|hq
  ·exact hx
  ·exact hw q hq
theorem UU {i j:Nat}(hi:i≤15){m0:Sto}:∃ ws:List Str,EM none m0 (gNm 0) tY (B2 Ck (eC (.str "c")) (B1 GU (BW (B2 Ew (BX 0) (B2 Ck (eC (.int 2)) (BX 1))) B0))) [none,some (.int i)] (Ec 0 j) mu=some (ws.map D.str,mu)∧ws.length=j∧∀ x∈ws,IsW x:=by
 obtain ⟨ys,mu',e,rfl,l,hp⟩:=Iw (m0:=m0) (tg:=gNm 0) (el:=B2 Ck (eC (.str "c")) (B1 GU (BW (B2 Ew (BX 0) (B2 Ck (eC (.int 2)) (BX 1))) B0))) (ro:=[none,some (.int i)]) (λ_ m=>m=mu) (λ_ d=>∃ x,d=D.str x∧IsW x) (Ec 0 j) 0 mu rfl λa d m ed hm=>by
  subst hm
  obtain ⟨rfl,hi⟩:=Hf ed
  have p:(0:Int)<2+(i:Int):=by ext
  obtain ⟨q,hq,h9⟩:=OE (j:=(a:Int)) p (by ext)
  have ns:=HA (mu:=m) (n:=q) (by ext)
  refine ⟨_,.str (cW q),m,rfl,?_,⟨_,rfl,D5.mp (X8 q h9)⟩,rfl⟩
  simp! [GK p,hq,ns,Vu h9]
 rw [Fi] at l
 obtain ⟨ws,rfl,hw⟩:=QN hp
 rw [Ac] at l
 exact ⟨ws,e,l,hw⟩
def IM:Sx:=(Ce (Ci (B1 B6 (BW (BX 0) (BW (eC (.int 4)) B0))) (gNm 4)) (Ce (Ci (B1 D8 (BW (eLC (iRg (BW (B2 Ck (eC (.int 1)) (B1 B6 (BW (BX 0) (BW (eC (.int 14)) B0)))) B0)) 1 [3] (gNm 0) (tY) (B2 Ck (eC (.str "c")) (B1 GU (BW (B2 Ew (BX 0) (B2 Ck (eC (.int 2)) (BX 1))) B0)))) B0)) (gNm 5)) (sIf (tV (B2 eqD (BX 4) (eC (.int 0)))) (Ci (Cq (BW (eC (.str "columns")) (BW (BX 1) (BW (BX 5) B0)))) (gNm 1)) (sIf (tV (B2 eqD (BX 4) (eC (.int 1)))) (Ci (Cq (BW (eC (.str "called")) (BW (BX 1) (BW (B1 D8 (BW (eLC (Ei (BX 5)) 1 [] (gNm 0) (tY) (Cq (BW (BX 0) (BW (eC (.str "d")) B0)))) B0)) B0)))) (gNm 1)) (sIf (tV (B2 eqD (BX 4) (eC (.int 2)))) (Ci (Cq (BW (eC (.str "rows")) (BW (BX 1) (BW (Cq (BW (Cq (BW (eC (.str "is")) (BW (eC (.str "of")) (BW (eC (.str "gap")) B0)))) (BW (Cq (BW (eC (.str "unlike")) (BW (eC (.str "rows")) (BW (eC (.str "9")) B0)))) B0))) B0)))) (gNm 1)) (Ci (B1 Cg (BW (BX 0) (BW (EL (BW (Cq (BW (eC (.str "join")) (BW (Cq (BW (eC (.str "of")) (BW (eC (.str "of")) B0))) (BW (BX 1) B0)))) (BW (Cq (BW (eC (.str "gap")) (BW (BX 1) (BW (Cq (BW (eC (.str "of")) (BW (eC (.str "rows")) B0))) B0)))) B0))) B0))) (gNm 1)))))))
theorem w_k:∀ w∈(["of","gap","rows","9","d","look"]:List Str),wB w=true:=by symm
theorem wk {w:Str}(h:w∈(["of","gap","rows","9","d","look"]:List Str)):IsW w:=D5.mp (w_k w h)
theorem UQ (qs:List (Str×Str)):(qs.flatMap λt=>[t.1,t.2]).length=qs.length*2:=by
 induction qs with
 | nil=>rfl
 | cons q qs ih =>
  rw [BE,Ag,ih,List.length_cons (a:=q)]
  simp only [List.length_cons,List.length_nil]
  ext
theorem Pn {k n i:Nat}{l:Lo}(hi:i<15)(ok:OkL (i+1) l){x4 x5:Option D}(h:HandOk mu k (n+3)):∃ (l':Lo) (y4 y5:Option D) (m':Sto),IM [some (.ref k),some (loD l),some (.int 16),some (.int i),x4,x5] mu=some ((.nx,[some (.ref k),some (loD l'),some (.int 16),some (.int i),y4,y5]),m')∧OkL (i+2) l'∧(loW l').length≤(loW l).length+31∧Fr k n mu m':=by
 obtain ⟨_,m1,e1,f1,way,rfl,a0,a1⟩:=CS (m:=4) (n:=n+2) h (by decide) (by decide)
 obtain ⟨_,m2,e2,f2,t2,rfl,b0,b1⟩:=CS (m:=14) (n:=n+1) f1.hand (by decide) (by decide)
 obtain ⟨j,hj⟩:∃ j:Nat,1+t2=(j:Int):=⟨(1+t2).toNat,by ext⟩
 obtain ⟨ws,ew,wl,ww⟩:=UU (mu:=m2) (m0:=m2) (i:=i) (j:=j) (by ext)
 have fr:=f1.trans f2
 have rg:=Kf (mu:=m1) (ro:=[some (.ref k),some (loD l),some (.int 16),some (.int i),some (.int way),x5]) (r:=BW (B2 Ck (eC (.int 1)) (B1 B6 (BW (BX 0) (BW (eC (.int 14)) B0)))) B0) (n:=j) (m:=m2) (by simp! [e2,hj]) (by ext) (by rw [As];ext)
 rw [Int.toNat_natCast] at rg
 by_cases w0:way=0
 ·subst w0
  refine ⟨.co l ws,some (.int 0),some (csD ws),m2,?_,⟨⟨by ext,by ext⟩,ww,ok⟩,?_,fr.mono (by ext)⟩
  ·unfold IM
   simp! [e1,rg,ew,loD,csD]
  ·simp only [loW,List.length_cons,Ag]
   ext
 by_cases w1:way=1
 ·subst w1
  have n0:decide ((1:Int)=0)=false:=rfl
  have lc:=G3 (m0:=m2) (tg:=gNm 0) (el:=Cq (BW (BX 0) (BW (eC (.str "d")) B0))) (ro:=[none]) (mu:=m2) (λd=>.tup [d,.str "d"]) (ws.map D.str) (λd hd=>⟨_,rfl,rfl⟩)
  have e4:(ws.map D.str).map (λd=>D.tup [d,.str "d"])=(ws.map λx=>(x,Str.ofString "d")).map prD:=by
   rw [AQ,AQ]
   rfl
  rw [e4] at lc
  refine ⟨.ca l (ws.map λx=>(x,Str.ofString "d")),some (.int 1),some (csD ws),m2,?_,⟨⟨by rw [Ac];ext,by rw [Ac];ext⟩,λp hp=>?_,ok⟩,?_,fr.mono (by ext)⟩
  ·unfold IM
   simp! [e1,n0,rg,ew,lc,loD,csD]
  ·obtain ⟨x,hx,rfl⟩:=Aw.mp hp
   exact ⟨ww x hx,wk (by simp)⟩
  ·simp only [loW,List.length_cons,Ag,UQ,Ac]
   ext
 by_cases w2:way=2
 ·subst w2
  have n0:decide ((2:Int)=0)=false:=rfl
  have n1:decide ((2:Int)=1)=false:=rfl
  refine ⟨.ro l [("is","of","gap"),("unlike","rows","9")],some (.int 2),some (csD ws),m2,?_,⟨⟨by simp,by simp⟩,λt ht=>?_,ok⟩,?_,fr.mono (by ext)⟩
  ·unfold IM
   simp! [e1,n0,n1,rg,ew,loD,csD,t3D,AO,List.map_nil]
  ·simp only [Ah,Au,AY] at ht
   rcases ht with rfl|rfl
   ·exact ⟨by simp,wk (by simp),wk (by simp)⟩
   ·exact ⟨by simp,wk (by simp),wk (by simp)⟩
  ·simp only [loW,List.length_cons,Ag,BE,List.flatMap_nil,List.length_nil]
   ext
 ·obtain ⟨d,m3,e3,f3,hd⟩:=pick_run (s:=.lst [.tup [.str "join",.tup [.str "of",.str "of"],loD l],.tup [.str "gap",loD l,.tup [.str "of",.str "rows"]]]) (n:=n) (.inl rfl) (by simp) (by simp) f2.hand
  obtain ⟨l',rfl,hl,hw⟩:∃ l',d=loD l'∧OkL (i+2) l'∧(loW l').length≤(loW l).length+31:=by
   simp only [Ah,Au,AY] at hd
   rcases hd with rfl|rfl
   ·refine ⟨.pr "join" (.of "of") l,rfl,⟨by simp,wk (by simp),ok⟩,?_⟩
    simp only [loW,List.length_cons,Ag,List.length_nil]
    ext
   ·refine ⟨.pr "gap" l (.of "rows"),rfl,⟨by simp,ok,wk (by simp)⟩,?_⟩
    simp only [loW,List.length_cons,Ag,List.length_nil]
    ext
  refine ⟨l',some (.int way),some (csD ws),m3,?_,hl,hw,fr.trans f3⟩
  unfold IM
  simp! [e1,w0,w1,w2,rg,ew,csD,e3]
theorem Sr {k n:Nat}(h:HandOk mu k (n+50)):∃ (l:Lo) (m':Sto),EZ [.ref k,.tup [.str "of",.str "look"],.int 16] mu=some (loD l,m')∧Fr k n mu m'∧OkL 16 l∧(loW l).length≤600:=by
 obtain ⟨_,m1,e1,f1,t,rfl,a0,a1⟩:=CS (m:=16) (n:=n+49) h (by decide) (by decide)
 obtain ⟨c,rfl⟩:∃ c:Nat,t=(c:Int):=⟨t.toNat,by ext⟩
 obtain ⟨ro',m',e,⟨l,y3,y4,y5,rfl,b1,b2⟩,b3⟩:=E7 (m0:=m1) (tg:=gNm 3) (body:=IM) (λi ro m=>(∃ (l:Lo) (y3 y4 y5:Option D),ro=[some (.ref k),some (loD l),some (.int 16),y3,y4,y5]∧OkL (i+1) l∧(loW l).length≤2+31*i)∧Fr k (n+3*(15-i)) mu m) (Ec 0 c) 0 [some (.ref k),some (loD (.of "look")),some (.int 16),none,none,none] m1
  ⟨⟨.of "look",none,none,none,rfl,wk (by simp),by simp [loW]⟩,f1.mono (by ext)⟩ λj d ro m ed hi=>by
   obtain ⟨⟨l,y3,y4,y5,rfl,b1,b2⟩,b3⟩:=hi
   obtain ⟨rfl,hj⟩:=Hf ed
   obtain ⟨l',z4,z5,m',e,o1,o2,f⟩:=Pn (mu:=m) (n:=n+3*(15-(0+j+1))) (i:=j) (l:=l) (x4:=y4) (x5:=y5) (by ext) (by rw [Bs] at b1;exact b1) (b3.hand.mono (by ext))
   exact ⟨_,m,_,m',rfl,e,⟨l',_,_,_,rfl,by rw [Bs];exact o1,by ext⟩,b3.trans f⟩
 rw [Fi] at b1 b2 b3
 refine ⟨l,m',?_,b3.mono (by ext),b1.le (by ext),by ext⟩
 have rg:=Kf (mu:=mu) (ro:=[some (.ref k),some (.tup [.str "of",.str "look"]),some (.int 16),none,none,none]) (r:=BW (B1 B6 (BW (BX 0) (BW (BX 2) B0))) B0) (n:=c) (m:=m1) (by simp! [e1]) (by ext) (by rw [As];ext)
 rw [Int.toNat_natCast] at rg
 have e':EH none m1 (gNm 3) IM (Ec 0 c) [some (.ref k),some (.tup [.str "of",.str "look"]),some (.int 16),none,none,none] m1=some ((.nx,[some (.ref k),some (loD l),some (.int 16),y3,y4,y5]),m'):=e
 unfold IM at e'
 simp! [EZ,HB,rg,e']
theorem SK.so {ts:List Tb}(h:SK ts):SOk ts:=⟨h.l1,h.l4,λt ht=>(h.ok t ht).ok,h.nd⟩
theorem QR {k n:Nat}(hfl:Flat mu)(h:HandOk mu k (n+6000)):∃ (l:Lo) (d1 d2:D) (m':Sto),DY [.ref k,.int 4,.int 1] mu=some (.tup [d1,d2,loD l],m')∧Fr k n mu m'∧OkL 8 l∧(loW l).length≤4000:=by
 obtain ⟨v,m1,e1,f1,hv⟩:=pick_run (s:=.lst [.int 2,.int 3,.int 2,.int 4]) (n:=n+5999) (.inl rfl) (by simp) (by simp) h
 obtain ⟨v,c,q,rfl,v1,v2,c1,c2,q1,i1,i2⟩:∃ v' c q:Nat,v=.int v'∧1≤v'∧v'≤4∧1≤c∧c≤4∧q≤7∧(∀ mu,ixG (.lst [.int 0,.int 0,.int 4,.int 3,.int 3]) v mu=some (.int c,mu))∧∀ mu,ixG (.lst [.int 0,.int 0,.int 7,.int 5,.int 4]) v mu=some (.int q,mu):=by
  have i (ds:List D) (j:Int) (d:D) (h:0≤j) (e:ds[j.toNat]? = some d) (mu:Sto):ixG (.lst ds) (.int j) mu=some (d,mu):=MH (ds:=ds) _ (.inl rfl) h e
  simp only [Ah,Au,AY] at hv
  rcases hv with rfl|rfl|rfl|rfl
  ·exact ⟨2,4,7,rfl,by decide,by decide,by decide,by decide,by decide,i _ _ _ (by decide) rfl,i _ _ _ (by decide) rfl⟩
  ·exact ⟨3,3,5,rfl,by decide,by decide,by decide,by decide,by decide,i _ _ _ (by decide) rfl,i _ _ _ (by decide) rfl⟩
  ·exact ⟨2,4,7,rfl,by decide,by decide,by decide,by decide,by decide,i _ _ _ (by decide) rfl,i _ _ _ (by decide) rfl⟩
  ·exact ⟨4,3,4,rfl,by decide,by decide,by decide,by decide,by decide,i _ _ _ (by decide) rfl,i _ _ _ (by decide) rfl⟩
 obtain ⟨_,m2,e2,f2,ds,rfl,hs,_,st,s5,ht⟩:=Oa (a:=4) (b:=c) (c:=v) (n:=n+5900) (by decide) (by decide) c1 c2 v1 v2 (f1.flat hfl) (f1.hand.mono (by ext))
 obtain ⟨ts,et,K⟩:=S6 hs
 have S:StO ts:=by
  injection et with et
  rw [et] at ht
  exact ⟨st,s5,SS ht⟩
 rw [et] at e2
 have fr2:=f1.trans f2
 obtain ⟨p,m3,e3,f3,hp⟩:=pick_run (s:=.lst [.int 1,.int 2,.int 3,.int 3,.int 4,.int 4,.int 5,.int 5]) (n:=n+5800) (.inl rfl) (by simp) (by simp) (f2.hand.mono (by ext))
 obtain ⟨deep,rfl,d1,d5⟩:∃ deep:Nat,p=.int deep∧1≤deep∧deep≤5:=by
  simp only [Ah,Au,AY] at hp
  rcases hp with rfl|rfl|rfl|rfl|rfl|rfl|rfl|rfl
  ·exact ⟨1,rfl,by decide,by decide⟩
  ·exact ⟨2,rfl,by decide,by decide⟩
  ·exact ⟨3,rfl,by decide,by decide⟩
  ·exact ⟨3,rfl,by decide,by decide⟩
  ·exact ⟨4,rfl,by decide,by decide⟩
  ·exact ⟨4,rfl,by decide,by decide⟩
  ·exact ⟨5,rfl,by decide,by decide⟩
  ·exact ⟨5,rfl,by decide,by decide⟩
 have fr3:=fr2.trans f3
 obtain ⟨_,m4,e4,f4,gs,rfl,_⟩:=M8 K.so (n:=n+5000) (fr3.flat hfl) (f3.hand.mono (by ext))
 have fr4:=fr3.trans f4
 have p5:3 ^ deep≤3 ^ 5:=Nat.pow_le_pow_right (by decide) d5
 obtain ⟨l,cs,m5,e5,f5,g⟩:=ID K S (most:=q) q1 10 (n:=n) d1 (by ext) d5 (fr4.flat hfl) (f4.hand.mono (by ext))
 have d8:dB deep≤8:=by unfold dB;split<;>ext
 refine ⟨l,scD ts,.tup (gs.map flD),m5,?_,fr4.trans f5,g.ok.le d8,?_⟩
 ·have e4':DZ [.ref k,scD ts,.int 1] m3=some (.tup (gs.map flD),m4):=e4
  have e2':Ee [.ref k,.int 4,.int c,.int v] m1=some (scD ts,m2):=e2
  simp! [DY,FU,e1,i1,e2',i2,e3,e4',e5]
 ·have:=g.len
  have:=Sy d8
  ext
def Kq:Sx:=(Ce (Ci (B1 (Cn 18) (BW (BX 9) B0)) (gNm 10)) (Ce (sIf (tO (tV (B2 neD (B1 DN (BW (BX 9) B0)) (BX 10))) (tNt (tV (B1 (CZ 22) (BW (B1 DM (BW (BX 10) B0)) (BW (BX 9) B0)))))) (sRt (eC (.bl false))) (sNx)) (sIf (tNt (tV (B1 (CZ 22) (BW (B1 DM (BW (B1 DN (BW (BX 9) B0)) B0)) (BW (BX 9) B0))))) (sRt (eC (.bl false))) (sNx))))
def Oj:Sx:=(Ce (Ci (B1 Eu (BW (BX 0) (BW (BX 1) B0))) (gNm 2)) (Ce (Ci (B1 DY (BW (BX 2) (BW (eC (.int 4)) (BW (eC (.int 1)) B0)))) (gTp 3 (Cf (gNm 3) (Cf (gNm 4) (Cf (gNm 5) Dd))))) (Ce (Ci (B1 Cg (BW (BX 2) (BW (EL (BW (eC (.int 10)) (BW (eC (.int 16)) (BW (eC (.int 50)) (BW (eC (.int 98)) (BW (eC (.int 99)) B0)))))) B0))) (gNm 6)) (Ce (Ci (Cq (BW (eC (.str "columns")) (BW (BX 5) (BW (B1 D8 (BW (eLC (iRg (BW (BX 6) B0)) 1 [2] (gNm 0) (tY) (B2 Ck (eC (.str "c")) (B1 GU (BW (B2 Ew (BX 0) (B2 Ck (eC (.int 1)) (B1 B6 (BW (BX 1) (BW (eC (.int 99)) B0))))) B0)))) B0)) B0)))) (gNm 7)) (Ce (Ci (B1 D8 (BW (eLC (iRg (BW (B2 Ck (eC (.int 1)) (B2 Ew (BX 1) (eC (.int 4)))) B0)) 1 [] (gNm 0) (tY) (Cq (BW (eC (.str "is")) (BW (eC (.str "a")) (BW (B1 GU (BW (BX 0) B0)) B0))))) B0)) (gNm 8)) (Hu (Ei (Cq (BW (BX 5) (BW (B1 EZ (BW (BX 2) (BW (Cq (BW (eC (.str "of")) (BW (eC (.str "look")) B0))) (BW (eC (.int 16)) B0)))) (BW (BX 7) (BW (Cq (BW (eC (.str "rows")) (BW (BX 5) (BW (BX 8) B0)))) B0)))))) (gNm 9) Kq))))))
structure Sh (l:Lo):Prop where
 ok:OkL 16 l
 tx:TxOk (loW l)
theorem Ox {n:Nat}{l:Lo}(h:OkL n l)(hn:n≤16)(hl:(loW l).length≤20000):Sh l:=⟨h.le hn,HP l,hl,Nr n l h⟩
theorem Y5 {l:Lo}(h:Sh l){a b c d e f g i j x:Option D}:Kq [a,b,c,d,e,f,g,i,j,some (loD l),x] mu=some ((.nx,[a,b,c,d,e,f,g,i,j,some (loD l),some (.str (Txt.join " " (loW l)))]),mu):=by
 have t:=Gf 18 16 l mu (by decide) h.ok h.tx
 have s:=Rz (mu:=mu) (n:=16) (by decide) h.ok h.tx
 have r:=QZ (mu:=mu) (n:=16) (by decide) h.ok h.tx
 have q:=Mz 22 (loD l) mu (Hq 16 l 22 h.ok (by decide))
 have ne:neD (.str (Txt.join " " (loW l))) (.str (Txt.join " " (loW l))) mu=some (.bl false,mu):=by rw [OO (Ds _) (Ds _)];simp
 unfold Kq
 simp! [t,s,ne,r,q]
theorem QL {l1 l2 l3 l4:Lo}(h1:Sh l1)(h2:Sh l2)(h3:Sh l3)(h4:Sh l4){a b c d e f g i j x y:Option D}{m0:Sto}:∃ y9 y10,EH none m0 (gNm 9) Kq [loD l1,loD l2,loD l3,loD l4] [a,b,c,d,e,f,g,i,j,x,y] mu=some ((.nx,[a,b,c,d,e,f,g,i,j,y9,y10]),mu):=by
 obtain ⟨ro',m',e,⟨y9,y10,rfl⟩,rfl⟩:=E7 (m0:=m0) (tg:=gNm 9) (body:=Kq) (λ_ ro m=>(∃ y9 y10,ro=[a,b,c,d,e,f,g,i,j,y9,y10])∧m=mu) [loD l1,loD l2,loD l3,loD l4] 0 [a,b,c,d,e,f,g,i,j,x,y] mu ⟨⟨_,_,rfl⟩,rfl⟩ λn w ro m ed hi=>by
  obtain ⟨⟨y9,y10,rfl⟩,rfl⟩:=hi
  obtain ⟨l,rfl,hl⟩:∃ l,w=loD l∧Sh l:=by
   have:=Al ed
   simp only [Ah,Au,AY] at this
   rcases this with rfl|rfl|rfl|rfl
   ·exact ⟨_,rfl,h1⟩
   ·exact ⟨_,rfl,h2⟩
   ·exact ⟨_,rfl,h3⟩
   ·exact ⟨_,rfl,h4⟩
  exact ⟨_,m,_,m,rfl,Y5 hl,⟨_,_,rfl⟩,rfl⟩
 exact ⟨y9,y10,e⟩
theorem Sm {k n j:Nat}(hj:j≤99)(h:HandOk mu k (n+99)){m0:Sto}:∃ (ws:List Str) (mu':Sto),EM none m0 (gNm 0) tY (B2 Ck (eC (.str "c")) (B1 GU (BW (B2 Ew (BX 0) (B2 Ck (eC (.int 1)) (B1 B6 (BW (BX 1) (BW (eC (.int 99)) B0))))) B0))) [none,some (.ref k)] (Ec 0 j) mu=some (ws.map D.str,mu')∧Fr k n mu mu'∧ws.length=j∧∀ x∈ws,IsW x:=by
 obtain ⟨ys,mu',e,fr,l,hp⟩:=Iw (m0:=m0) (tg:=gNm 0) (el:=B2 Ck (eC (.str "c")) (B1 GU (BW (B2 Ew (BX 0) (B2 Ck (eC (.int 1)) (B1 B6 (BW (BX 1) (BW (eC (.int 99)) B0))))) B0))) (ro:=[none,some (.ref k)]) (λi m=>Fr k (n+99-i) mu m) (λ_ d=>∃ x,d=D.str x∧IsW x) (Ec 0 j) 0 mu (.refl h) λa d m ed fr=>by
  obtain ⟨rfl,hi⟩:=Hf ed
  obtain ⟨_,m1,e1,f1,t,rfl,a0,a1⟩:=CS (m:=99) (n:=n+99-(0+a+1)) (fr.hand.mono (by ext)) (by decide) (by decide)
  have p:(0:Int)<1+t:=by ext
  obtain ⟨q,hq,h9⟩:=OE (j:=(a:Int)) p (by ext)
  have ns:=HA (mu:=m1) (n:=q) (by ext)
  refine ⟨_,.str (cW q),m1,rfl,?_,⟨_,rfl,D5.mp (X8 q h9)⟩,fr.trans f1⟩
  simp! [e1,GK p,hq,ns,Vu h9]
 rw [Fi] at l
 obtain ⟨ws,rfl,hw⟩:=QN hp
 rw [Ac] at l
 exact ⟨ws,mu',e,fr.mono (by rw [Fi];ext),l,hw⟩
theorem a_w:IsW "a":=D5.mp (by symm)
theorem SO {j:Nat}(hj:j≤4){m0:Sto}:∃ qs:List (Str×Str×Str),EM none m0 (gNm 0) tY (Cq (BW (eC (.str "is")) (BW (eC (.str "a")) (BW (B1 GU (BW (BX 0) B0)) B0)))) [none] (Ec 0 j) mu=some (qs.map t3D,mu)∧qs.length=j∧∀ t∈qs,LR t:=by
 obtain ⟨ys,mu',e,rfl,l,hp⟩:=Iw (m0:=m0) (tg:=gNm 0) (el:=Cq (BW (eC (.str "is")) (BW (eC (.str "a")) (BW (B1 GU (BW (BX 0) B0)) B0)))) (ro:=[none]) (λ_ m=>m=mu) (λ_ d=>∃ t,d=t3D t∧LR t) (Ec 0 j) 0 mu rfl λa d m ed hm=>by
  subst hm
  obtain ⟨rfl,hi⟩:=Hf ed
  have ns:=HA (mu:=m) (n:=a) (by ext)
  refine ⟨_,_,m,rfl,?_,⟨("is","a",nS a),rfl,by simp,a_w,D5.mp (L3 a (by ext))⟩,rfl⟩
  simp! [ns]
  rfl
 rw [Fi] at l
 obtain ⟨qs,rfl,hw⟩:=M1 hp
 rw [Ac] at l
 exact ⟨qs,e,l,hw⟩
theorem XA {i:Nat}{ns:List Int}{x2 x3 x4 x5 x6 x7 x8 x9 x10:Option D}(hi:i<64)(hfl:Flat mu):∃ y2 y3 y4 y5 y6 y7 y8 y9 y10 m',Oj [some (.lst (ns.map D.int)),some (.int i),x2,x3,x4,x5,x6,x7,x8,x9,x10] mu=some ((.nx,[some (.lst (ns.map D.int)),some (.int i),y2,y3,y4,y5,y6,y7,y8,y9,y10]),m')∧Flat m':=by
 obtain ⟨o,e1,h1⟩:=SX (mu:=mu) (k:=i) (n:=10000) (ns:=ns) hi (by decide)
 have fl1:Flat (mu++[o]):=by
  intro j o' ho
  by_cases c:j<mu.length
  ·rw [Av c] at ho
   exact O4 (by simp) (hfl j o' ho)
  ·have hl:=(Af.mp ho).1
   rw [Ag,List.length_singleton] at hl
   have:j=mu.length:=by ext
   subst this
   obtain ⟨_,_,_,q,_⟩:=h1
   rw [q] at ho
   cases ho
   rfl
 obtain ⟨l,d1,d2,m2,e2,f2,o2,w2⟩:=QR (n:=4000) fl1 h1
 obtain ⟨v,m3,e3,f3,hv⟩:=pick_run (s:=.lst [.int 10,.int 16,.int 50,.int 98,.int 99]) (n:=3000) (.inl rfl) (by simp) (by simp) (f2.hand.mono (by ext))
 obtain ⟨j,rfl,j1,j2⟩:∃ j:Nat,v=.int j∧1≤j∧j≤99:=by
  simp only [Ah,Au,AY] at hv
  rcases hv with rfl|rfl|rfl|rfl|rfl
  ·exact ⟨10,rfl,by decide,by decide⟩
  ·exact ⟨16,rfl,by decide,by decide⟩
  ·exact ⟨50,rfl,by decide,by decide⟩
  ·exact ⟨98,rfl,by decide,by decide⟩
  ·exact ⟨99,rfl,by decide,by decide⟩
 obtain ⟨ws,m4,e4,f4,l4,w4⟩:=Sm (mu:=m3) (m0:=m3) (k:=mu.length) (n:=2000) (j:=j) j2 (f3.hand.mono (by ext))
 obtain ⟨p,hp,p3⟩:∃ p:Nat,1+(i:Int) % 4=(p:Int)∧1≤p∧p≤4:=by
  have a:=Bf (i:Int) (show (4:Int)≠0 by decide)
  have b:=A6 (i:Int) (show (0:Int)<4 by decide)
  exact ⟨(1+(i:Int) % 4).toNat,by ext,by ext,by ext⟩
 obtain ⟨qs,e5,l5,w5⟩:=SO (mu:=m4) (m0:=m4) (j:=p) p3.2
 obtain ⟨l',m6,e6,f6,o6,w6⟩:=Sr (mu:=m4) (k:=mu.length) (n:=1000) (f4.hand.mono (by ext))
 have s1:=Ox o2 (by decide) (by ext)
 have s2:=Ox o6 (by decide) (by ext)
 have s3:Sh (.co l ws):=Ox (n:=9) ⟨⟨by ext,by ext⟩,w4,o2⟩ (by decide) (by simp only [loW,List.length_cons,Ag];ext)
 have s4:Sh (.ro l qs):=Ox (n:=9) ⟨⟨by ext,by ext⟩,w5,o2⟩ (by decide) (by simp only [loW,List.length_cons,Ag,O9];ext)
 obtain ⟨y9,y10,e7⟩:=QL (mu:=m6) (m0:=m6) s1 s2 s3 s4 (a:=some (.lst (ns.map D.int))) (b:=some (.int i)) (c:=some (.ref mu.length)) (d:=some d1) (e:=some d2) (f:=some (loD l)) (g:=some (.int j)) (i:=some (loD (.co l ws))) (j:=some (.tup (qs.map t3D))) (x:=x9) (y:=x10)
 refine ⟨some (.ref mu.length),some d1,some d2,some (loD l),some (.int j),some (loD (.co l ws)),some (.tup (qs.map t3D)),y9,y10,m6,?_,f6.flat (f4.flat (f3.flat (f2.flat fl1)))⟩
 have rg1:=Kf (mu:=m3) (ro:=[some (.lst (ns.map D.int)),some (.int i),some (.ref mu.length),some d1,some d2,some (loD l),some (.int j),x7,x8,x9,x10]) (r:=BW (BX 6) B0) (n:=j) (m:=m3) rfl (by ext) (by rw [As];ext)
 have rg2:=Kf (mu:=m4) (ro:=[some (.lst (ns.map D.int)),some (.int i),some (.ref mu.length),some d1,some d2,some (loD l),some (.int j),some (loD (.co l ws)),x8,x9,x10]) (r:=BW (B2 Ck (eC (.int 1)) (B2 Ew (BX 1) (eC (.int 4)))) B0) (n:=p) (m:=m4) (by simp! [GK,Int.reduceLT,hp]) (by ext) (by rw [As];ext)
 rw [Int.toNat_natCast] at rg1 rg2
 have lco:loD (.co l ws)=.tup [.str "columns",loD l,.tup (ws.map D.str)]:=rfl
 have lro:loD (.ro l qs)=.tup [.str "rows",loD l,.tup (qs.map t3D)]:=rfl
 rw [lco] at rg2 e7 ⊢
 rw [lro] at e7
 unfold Oj
 simp! [e1,e2,e3,rg1,e4,rg2,e5,e6,e7]
theorem UG (ns:List Int):∃ mu',Kl [.lst (ns.map .int)] []=some (.bl true,mu'):=by
 obtain ⟨N,hN,h2,h6⟩:∃ N:Nat,(if (if (6:Int)<(ns.length:Int) then (6:Int) else (ns.length:Int)) > 1 then (if (6:Int)<(ns.length:Int) then (6:Int) else (ns.length:Int)) else 1)=(N:Int)∧1≤N∧N≤6:=by
  refine ⟨(if (if (6:Int)<(ns.length:Int) then (6:Int) else (ns.length:Int)) > 1 then (if (6:Int)<(ns.length:Int) then (6:Int) else (ns.length:Int)) else 1).toNat,?_,?_,?_⟩<;>split<;>split<;>ext
 obtain ⟨ro',mu',e,⟨y1,y2,y3,y4,y5,y6,y7,y8,y9,y10,rfl⟩,_⟩:=E7 (m0:=[]) (tg:=gNm 1) (body:=Oj) (λi ro m=>(∃ y1 y2 y3 y4 y5 y6 y7 y8 y9 y10,ro=[some (.lst (ns.map D.int)),y1,y2,y3,y4,y5,y6,y7,y8,y9,y10])∧Flat m) (Ec 0 N) 0 [some (.lst (ns.map D.int)),none,none,none,none,none,none,none,none,none,none] [] ⟨⟨_,_,_,_,_,_,_,_,_,_,rfl⟩,λj o h=>by simp at h⟩ λj d ro m ed hi=>by
   obtain ⟨⟨y1,y2,y3,y4,y5,y6,y7,y8,y9,y10,rfl⟩,fl⟩:=hi
   obtain ⟨rfl,hj⟩:=Hf ed
   obtain ⟨z2,z3,z4,z5,z6,z7,z8,z9,z10,m',e,fl'⟩:=XA (mu:=m) (i:=j) (ns:=ns) (x2:=y2) (x3:=y3) (x4:=y4) (x5:=y5) (x6:=y6) (x7:=y7) (x8:=y8) (x9:=y9) (x10:=y10) (by ext) fl
   exact ⟨_,m,_,m',rfl,e,⟨_,_,_,_,_,_,_,_,_,_,rfl⟩,fl'⟩
 refine ⟨mu',?_⟩
 have mn:M0 [.int (ns.length:Int),.int 6] []=some (.int (if (6:Int)<(ns.length:Int) then (6:Int) else (ns.length:Int)),[]):=rfl
 have mx:Q3 [.int 1,.int (if (6:Int)<(ns.length:Int) then (6:Int) else (ns.length:Int))] []=some (.int N,[]):=by
  rw [← hN]
  rfl
 have rg:=Kf (mu:=[]) (ro:=[some (.lst (ns.map D.int)),none,none,none,none,none,none,none,none,none,none]) (r:=(BW (B1 Q3 (BW (eC (.int 1)) (BW (B1 M0 (BW (B1 D0 (BW (BX 0) B0)) (BW (eC (.int 6)) B0))) B0))) B0)) (n:=N) (m:=[]) (by simp! [Ac,mn,mx]) (by ext) (by rw [As];ext)
 rw [Int.toNat_natCast] at rg
 unfold Oj Kq at e
 simp! [Kl,RL,rg,e]
end PG
namespace PG
open PySem L2 PV PyProof.Rows
@[elab_as_elim] theorem MR {P:List Value->Prop}(us:List Value)(hl:us.length=1)(h:∀ a0,P [a0]):P us:=by
 match us,hl with
 | [_],_=>exact h _
@[elab_as_elim] theorem Pu {P:List Value->Prop}(us:List Value)(hl:us.length=2)(h:∀ a0 a1,P [a0,a1]):P us:=by
 match us,hl with
 | [_,_],_=>exact h _ _
@[elab_as_elim] theorem PK {P:List Value->Prop}(us:List Value)(hl:us.length=3)(h:∀ a0 a1 a2,P [a0,a1,a2]):P us:=by
 match us,hl with
 | [_,_,_],_=>exact h _ _ _
@[elab_as_elim] theorem Ys {P:List Value->Prop}(us:List Value)(hl:us.length=4)(h:∀ a0 a1 a2 a3,P [a0,a1,a2,a3]):P us:=by
 match us,hl with
 | [_,_,_,_],_=>exact h _ _ _ _
def FH (K:PySem.W.Frag)(x:Str)(st:Stmt):Prop:=∃ (f:Addr) (oc kV dc pm cd ct:Value) (od an:Option Addr) (sl:Array (Option Value)),PySem.W.nsIn K mainGlobals x=some (some (.ref f))∧K.lookup f=some ⟨oc,od,.func (PySem.W.fnOf x x (GG st) (Er st) (B7 st) .none kV dc pm an cd ct),sl⟩∧PySem.W.codeIn K cd x=true∧PySem.W.keepIn K (.ref f)=true
theorem fh {K:PySem.W.Frag}{x:Str}{st:Stmt}{f:Addr}{oc kV dc pm cd ct:Value}{od an:Option Addr}{sl:Array (Option Value)}(a:PySem.W.nsIn K mainGlobals x=some (some (.ref f)))(l:K.lookup f=some ⟨oc,od,.func (PySem.W.fnOf x x (GG st) (Er st) (B7 st) .none kV dc pm an cd ct),sl⟩)(c:PySem.W.codeIn K cd x=true)(k:PySem.W.keepIn K (.ref f)=true):FH K x st:=⟨f,oc,kV,dc,pm,cd,ct,od,an,sl,a,l,c,k⟩
theorem FH.go {K:PySem.W.Frag}{x:Str}{st:Stmt}{h:Heap}{mg:Str->Option Value}(H:FH K x st)(X:K.In h)(G:h.Ns mainGlobals mg):∃ f fd,Fun K x x st f fd∧mg x=some (.ref f):=by
 obtain ⟨_,_,_,_,_,_,_,_,_,_,a,l,c,k⟩:=H
 exact ⟨_,_,RF l c k,BH X G a⟩
set_option maxHeartbeats 0 in
theorem all_mk {l:PySem.W.OpenLaw}{w:World}{K:PySem.W.Frag}{h:Heap}{mg:Str->Option Value}{fa:Addr}(X:K.In h)(G:h.Ns mainGlobals mg)(hfa:mg "law"=some (.ref fa)){t1 t2 t3 t4 t5:Tok}{p1:Addr}{pn1:Nat}{ps1:Array (Option Value)}{pt1_0 pt1_1 pt1_2:Tok}{p2:Addr}{pn2:Nat}{ps2:Array (Option Value)}{pt2_0 pt2_1 pt2_2 pt2_3:Tok}{dp1:Addr}{de1:Nat}{dh1_0 dh1_1 dh1_2:Int}{dt1_0 du1_0 dt1_1 du1_1 dt1_2 du1_2:Tok}
  (h1:FH K "is_word" FY) (h2:FH K "words_of_look" DU) (h3:FH K "show_look" FF) (h4:FH K "number_of_text" DK) (h5:FH K "part_at" Fp) (h6:FH K "look_at" Ho) (h7:FH K "look_of_words" DS) (h8:FH K "read_look" FO) (h9:FH K "_law_hand" Gw) (h10:FH K "_law_take" Gk) (h11:FH K "_law_pick" Gv) (h12:FH K "_law_words" Fd) (h13:FH K "_law_schema" EJ) (h14:FH K "_law_filling" Eo) (h15:FH K "_law_columns" Dq) (h16:FH K "_law_test" GF) (h17:FH K "_law_stock" Fc) (h18:FH K "_law_look" ER) (h19:FH K "_law_case_of" E9) (h20:FH K "_law_look_text" Et) (h21:FH K "_law_same" FA) (h22:FH K "_law_over" EN) (h23:FH K "law" HV)
  (z1:PySem.W.nsIn K mainGlobals "all"=some none) (z2:PySem.W.nsIn K mainGlobals "bool"=some none) (z3:PySem.W.nsIn K mainGlobals "dict"=some none) (z4:PySem.W.nsIn K mainGlobals "int"=some none) (z5:PySem.W.nsIn K mainGlobals "isinstance"=some none) (z6:PySem.W.nsIn K mainGlobals "len"=some none) (z7:PySem.W.nsIn K mainGlobals "list"=some none) (z8:PySem.W.nsIn K mainGlobals "max"=some none) (z9:PySem.W.nsIn K mainGlobals "min"=some none) (z10:PySem.W.nsIn K mainGlobals "range"=some none) (z11:PySem.W.nsIn K mainGlobals "sorted"=some none) (z12:PySem.W.nsIn K mainGlobals "str"=some none) (z13:PySem.W.nsIn K mainGlobals "tuple"=some none) (z14:PySem.W.nsIn K mainGlobals "zip"=some none)
  (g1:PySem.W.nsIn K mainGlobals "DEEPEST_TEXT"=some (some (.int 16 t1))) (g2:PySem.W.nsIn K mainGlobals "FIGURES"=some (some (.str "0123456789" t2))) (g3:PySem.W.nsIn K mainGlobals "LONGEST"=some (some (.int 8 t3))) (g4:PySem.W.nsIn K mainGlobals "MOST_TESTS"=some (some (.int 4 t4))) (g5:PySem.W.nsIn K mainGlobals "SIGNS"=some (some (.str "abcdefghijklmnopqrstuvwxyz0123456789" t5))) (q1:PySem.W.nsIn K mainGlobals "PAIRED"=some (some (.ref p1))) (m1:K.lookup p1=some ⟨.type "tuple",none,.seq #[.str "join" pt1_0,.str "union" pt1_1,.str "gap" pt1_2] pn1,ps1⟩) (q2:PySem.W.nsIn K mainGlobals "TESTS"=some (some (.ref p2))) (m2:K.lookup p2=some ⟨.type "tuple",none,.seq #[.str "is" pt2_0,.str "not" pt2_1,.str "like" pt2_2,.str "unlike" pt2_3] pn2,ps2⟩) (dq1:PySem.W.nsIn K mainGlobals "WIDTHS"=some (some (.ref dp1))) (dm1:K.lookup dp1=some ⟨.type "dict",none,.dict #[⟨dh1_0,.str "rows" dt1_0,.int 3 du1_0⟩,⟨dh1_1,.str "columns" dt1_1,.int 1 du1_1⟩,⟨dh1_2,.str "called" dt1_2,.int 2 du1_2⟩] de1,#[]⟩) (dn1:(dp1==sysModules)=false) (dz1_0:dh1_0=hashStr w "rows") (dz1_1:dh1_1=hashStr w "columns") (dz1_2:dh1_2=hashStr w "called") :
  ∃ fd:FuncData,(∀ (s:Shared) (v:Value),BindsTo s fd ⟨[v],[]⟩ [("_law_script",v)])∧∀ base:Heap,K.In base->base.Ns mainGlobals mg->D4 l.prog w K mg base CX0 24 fa fd ["_law_script"] (spF ⟨K,l.prog,w⟩ Kl 1):=by
 have T:Tx K mg w:=⟨AW X G z1,AW X G z2,AW X G z3,AW X G z4,AW X G z5,AW X G z6,AW X G z7,AW X G z8,AW X G z9,AW X G z10,AW X G z11,AW X G z12,AW X G z13,AW X G z14,⟨t1,BH X G g1⟩,⟨t2,BH X G g2⟩,⟨t3,BH X G g3⟩,⟨t4,BH X G g4⟩,⟨p1,_,_,_,BH X G q1,m1,rfl,rfl,rfl,(show (3:Nat)≤sizeLine by rw [As];decide),.cons ⟨pt1_0,rfl⟩ (.cons ⟨pt1_1,rfl⟩ (.cons ⟨pt1_2,rfl⟩ (.nil)))⟩,⟨t5,BH X G g5⟩,⟨p2,_,_,_,BH X G q2,m2,rfl,rfl,rfl,(show (4:Nat)≤sizeLine by rw [As];decide),.cons ⟨pt2_0,rfl⟩ (.cons ⟨pt2_1,rfl⟩ (.cons ⟨pt2_2,rfl⟩ (.cons ⟨pt2_3,rfl⟩ (.nil))))⟩,⟨dp1,_,_,_,BH X G dq1,dn1,dm1,⟨rfl,rfl,rfl⟩,rfl,.cons ⟨dz1_0,dt1_0,rfl⟩ (.cons ⟨dz1_1,dt1_1,rfl⟩ (.cons ⟨dz1_2,dt1_2,rfl⟩ (.nil))),.cons ⟨du1_0,rfl⟩ (.cons ⟨du1_1,rfl⟩ (.cons ⟨du1_2,rfl⟩ (.nil)))⟩⟩
 obtain ⟨_,_,kV,dc,pm,cd,ct,_,an,_,a,lk,c,k⟩:=h23
 cases hfa.symm.trans (BH X G a)
 refine ⟨PySem.W.fnOf "law" "law" (GG HV) (Er HV) (B7 HV) .none kV dc pm an cd ct,λs v=>.of_eq rfl,λbase _ _=>?_⟩
 obtain ⟨_,_,F,m⟩:=h1.go X G
 have C1:=CW (P:=l.prog) (w:=w) (base:=base) F m (Na F T ) (F.binds λ_ _ _ _ _ _ us hl=>MR us hl λ_=>rfl)
 obtain ⟨_,_,F,m⟩:=h2.go X G
 have b:=F.binds (ps:=["look"]) λ_ _ _ _ _ _ us hl=>MR us hl λ_=>rfl
 have C2:=CW (P:=l.prog) (w:=w) (base:=base) F m (Gb F m b T  18) b
 obtain ⟨_,_,F,m⟩:=h3.go X G
 have C3:=CW (P:=l.prog) (w:=w) (base:=base) F m (Ln F T C2) (F.binds λ_ _ _ _ _ _ us hl=>MR us hl λ_=>rfl)
 obtain ⟨_,_,F,m⟩:=h4.go X G
 have C4:=CW (P:=l.prog) (w:=w) (base:=base) F m (HL F T ) (F.binds λ_ _ _ _ _ _ us hl=>MR us hl λ_=>rfl)
 obtain ⟨_,_,F,m⟩:=h5.go X G
 have C5:=CW (P:=l.prog) (w:=w) (base:=base) F m (Nl F T C4) (F.binds λ_ _ _ _ _ _ us hl=>Pu us hl λ_ _=>rfl)
 obtain ⟨_,_,F,m⟩:=h6.go X G
 have b:=F.binds (ps:=["words","at","depth"]) λ_ _ _ _ _ _ us hl=>PK us hl λ_ _ _=>rfl
 have C6:=CW (P:=l.prog) (w:=w) (base:=base) F m (JD F m b T C5 18) b
 obtain ⟨_,_,F,m⟩:=h7.go X G
 have C7:=CW (P:=l.prog) (w:=w) (base:=base) F m (IA F T C1 C6) (F.binds λ_ _ _ _ _ _ us hl=>MR us hl λ_=>rfl)
 obtain ⟨_,_,F,m⟩:=h8.go X G
 have C8:=CW (P:=l.prog) (w:=w) (base:=base) F m (Le F T C7) (F.binds λ_ _ _ _ _ _ us hl=>MR us hl λ_=>rfl)
 obtain ⟨_,_,F,m⟩:=h9.go X G
 have C9:=CW (P:=l.prog) (w:=w) (base:=base) F m (MQ F T ) (F.binds λ_ _ _ _ _ _ us hl=>Pu us hl λ_ _=>rfl)
 obtain ⟨_,_,F,m⟩:=h10.go X G
 have C10:=CW (P:=l.prog) (w:=w) (base:=base) F m (MX F T ) (F.binds λ_ _ _ _ _ _ us hl=>Pu us hl λ_ _=>rfl)
 obtain ⟨_,_,F,m⟩:=h11.go X G
 have C11:=CW (P:=l.prog) (w:=w) (base:=base) F m (Mh F T C10) (F.binds λ_ _ _ _ _ _ us hl=>Pu us hl λ_ _=>rfl)
 obtain ⟨_,_,F,m⟩:=h12.go X G
 have C12:=CW (P:=l.prog) (w:=w) (base:=base) F m (Li F T C10 C11) (F.binds λ_ _ _ _ _ _ us hl=>PK us hl λ_ _ _=>rfl)
 obtain ⟨_,_,F,m⟩:=h13.go X G
 have C13:=CW (P:=l.prog) (w:=w) (base:=base) F m (Kg F T C12 C10) (F.binds λ_ _ _ _ _ _ us hl=>Ys us hl λ_ _ _ _=>rfl)
 obtain ⟨_,_,F,m⟩:=h14.go X G
 have C14:=CW (P:=l.prog) (w:=w) (base:=base) F m (Jw F T C10 C11) (F.binds λ_ _ _ _ _ _ us hl=>PK us hl λ_ _ _=>rfl)
 obtain ⟨_,_,F,m⟩:=h15.go X G
 have b:=F.binds (ps:=["_law_schema_here","_law_look_here"]) λ_ _ _ _ _ _ us hl=>Pu us hl λ_ _=>rfl
 have C15:=CW (P:=l.prog) (w:=w) (base:=base) F m (GX F m b T  10) b
 obtain ⟨_,_,F,m⟩:=h16.go X G
 have C16:=CW (P:=l.prog) (w:=w) (base:=base) F m (Mk F T C11) (F.binds λ_ _ _ _ _ _ us hl=>PK us hl λ_ _ _=>rfl)
 obtain ⟨_,_,F,m⟩:=h17.go X G
 have C17:=CW (P:=l.prog) (w:=w) (base:=base) F m (Lx F T ) (F.binds λ_ _ _ _ _ _ us hl=>MR us hl λ_=>rfl)
 obtain ⟨_,_,F,m⟩:=h18.go X G
 have b:=F.binds (ps:=["_law_hand_here","_law_schema_here","_law_deep","_law_most"]) λ_ _ _ _ _ _ us hl=>Ys us hl λ_ _ _ _=>rfl
 have C18:=CW (P:=l.prog) (w:=w) (base:=base) F m (IT F m b T C17 C10 C11 C15 C16 10) b
 obtain ⟨_,_,F,m⟩:=h19.go X G
 have C19:=CW (P:=l.prog) (w:=w) (base:=base) F m (JA F T C11 C13 C14 C18) (F.binds λ_ _ _ _ _ _ us hl=>PK us hl λ_ _ _=>rfl)
 obtain ⟨_,_,F,m⟩:=h20.go X G
 have b:=F.binds (ps:=["_law_look_here"]) λ_ _ _ _ _ _ us hl=>MR us hl λ_=>rfl
 have C20:=CW (P:=l.prog) (w:=w) (base:=base) F m (Gh F m b T  18) b
 obtain ⟨_,_,F,m⟩:=h21.go X G
 have b:=F.binds (ps:=["_law_one","_law_due"]) λ_ _ _ _ _ _ us hl=>Pu us hl λ_ _=>rfl
 have C21:=CW (P:=l.prog) (w:=w) (base:=base) F m (IW F m b T  22) b
 obtain ⟨_,_,F,m⟩:=h22.go X G
 have C22:=CW (P:=l.prog) (w:=w) (base:=base) F m (M5 F T C10 C11) (F.binds λ_ _ _ _ _ _ us hl=>PK us hl λ_ _ _=>rfl)
 exact Wd (RF lk c k) T C9 C19 C11 C10 C22 C20 C3 C21 C8
theorem MA {K:Zc}{th:List Addr}{H:Hp}:∀ ns:List Int,RepL K th H (ns.map D.int) (ns.map V.int)
 | []=>.nil
 | i::ns=>.cons rfl (MA ns)
theorem walk {l:PySem.W.OpenLaw}{q:Program}{loose:List Str}{XP:(Str->Option Value)->Heap->Prop}{YP:World->Heap->Prop}{d:DefRec}{K:Params->PySem.W.Frag}(hn:l.most=some 63)(hdf:d.params.defaults=[])
  (hY:∀ (w:World) (h:Heap),YP w h->(K w.params).In h)
  (F:∀ (w:World) (mg:Str->Option Value) (fa:Addr) (h:Heap),(K w.params).In h->h.Ns mainGlobals mg->mg d.name=some (.ref fa) ->
   ∃ fd:FuncData,(∀ (s:Shared) (u:Value),BindsTo s fd ⟨[u],[]⟩ [("_law_script",u)])∧∀ base:Heap,(K w.params).In base->base.Ns mainGlobals mg->D4 l.prog w (K w.params) mg base CX0 24 fa fd ["_law_script"] (spF ⟨K w.params,l.prog,w⟩ Kl 1)) :
  PySem.W.WalkO q loose XP YP l.row.toRowW d [] (λf vs=>PySem.call f vs):=
 L2.U5 (n:=63) (k:=24) (x:="_law_script") (CX:=λ_=>CX0) (sp:=λw=>spF ⟨K w.params,l.prog,w⟩ Kl 1) hn (by decide) hdf ⟨rfl,by decide,by decide,rfl⟩ hY F (λw H a ns hl _ hS=>by
  obtain ⟨mu',e⟩:=UG ns
  refine ⟨[],[],[.lst (ns.map D.int)],⟨rfl,List.nodup_nil,λk a o e=>by simp at e⟩,.cons ?_ .nil,rfl,.bl true,mu',e,λth' H' _ _ v rv=>rv⟩
  unfold Rep
  refine ⟨a,ns.map V.int,rfl,?_,MA ns,by rw [Ac];exact AN hl (by decide)⟩
  rcases hS with hS|hS
  ·exact .inl ⟨by simp,hS⟩
  ·exact .inr hS) λ_ _ _ _ _ z=>z
end PG
local macro_rules(kind:=Lean.Parser.Term.structInst)|s=>do
 let g:=s[2][0]
 let x:=g[10]
 let y:=x[1]
 if x[0][0].getId.eraseMacroScopes != `frame||y[2][2].getNumArgs<1 then Lean.Macro.throwUnsupported
 return s.setArg 2 (s[2].setArg 0 (g.setArg 10 (x.setArg 1 (y.setArg 2 (y[2].setArg 2 (Lean.mkIdent `none))))))
open PySem PySem.W PyProof.Rows
set_option maxRecDepth 100000 in
set_option maxHeartbeats 0 in
theorem PySem.Challenge.cw_lookback_k75_looks_shown_and_read_holds : PySem.Challenge.rw_lookback_k75_looks_shown_and_read.Holds := by
 w_on;o_law;k_head;(case hw=>w_witness2)
 k_fill
 refine PG.walk (l:=PySem.Challenge.rw_lookback_k75_looks_shown_and_read) rfl rfl (λw h Y=>PySem.W.kIn_of Y) ?F
 case F =>
  intro w mg fa h KX G hmg
  refine' PG.all_mk KX G hmg ?h1 ?h2 ?h3 ?h4 ?h5 ?h6 ?h7 ?h8 ?h9 ?h10 ?h11 ?h12 ?h13 ?h14 ?h15 ?h16 ?h17 ?h18 ?h19 ?h20 ?h21 ?h22 ?h23 ?z1 ?z2 ?z3 ?z4 ?z5 ?z6 ?z7 ?z8 ?z9 ?z10 ?z11 ?z12 ?z13 ?z14 ?g1 ?g2 ?g3 ?g4 ?g5 ?q1 ?m1 ?q2 ?m2 ?dq1 ?dm1 ?dn1 ?dz1_0 ?dz1_1 ?dz1_2
  case h1|h2|h3|h4|h5|h6|h7|h8|h9|h10|h11|h12|h13|h14|h15|h16|h17|h18|h19|h20|h21|h22|h23=>(refine' PG.fh ?a ?l ?c ?k;(case a=>k_is);(case l=>k_is);(case c=>k_is);(case k=>k_is))
  (case z1=>k_is);(case z2=>k_is);(case z3=>k_is);(case z4=>k_is);(case z5=>k_is);(case z6=>k_is)
  (case z7=>k_is);(case z8=>k_is);(case z9=>k_is);(case z10=>k_is);(case z11=>k_is);(case z12=>k_is)
  (case z13=>k_is);(case z14=>k_is);(case g1=>k_is);(case g2=>k_is);(case g3=>k_is);(case g4=>k_is)
  (case g5=>k_is);(case q1=>k_is);(case m1=>k_is);(case q2=>k_is);(case m2=>k_is);(case dq1=>k_is)
  (case dm1=>k_is);(case dn1=>rfl);(case dz1_0=>rfl);(case dz1_1=>rfl);(case dz1_2=>rfl)
