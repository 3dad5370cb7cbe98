import PyProof.Rows.All
import Wide.All
import OpenK.AllK
import Wide.FinOn
import Lean
import PyProof.EqAt
import PyProof.EqKinds
import PyProof.TupleCall
import PySem.Challenge.RW_lookback_k03_keys_and_rows
set_option Elab.async false
set_option linter.all false
set_option compiler.extract_closed false
set_option maxRecDepth 100000
local macro_rules(kind:=Lean.Elab.Tactic.Ext.ext)|s=>return .node .none `Lean.Parser.Tactic.omega #[.atom .none "omega",.node .none `Lean.Parser.Tactic.optConfig #[.node .none `null #[]]]
local macro_rules|`(tactic|symm)=>`(tactic|decide +kernel)
local macro_rules|`(tactic|rfl')=>`(tactic|exact ⟨rfl,rfl,rfl,by decide +kernel,rfl,by decide +kernel,by decide +kernel⟩)
noncomputable section
def Aa:=@PySem.wpAny_bind
def Ab:=@Bool.and_eq_true
def Ac:=@PySem.wpAny_pure
def Ad:=@List.getElem?_eq_some_iff
def Ae:=@List.length_map
def Af:=@PySem.Heap.get?_push_of_some
def Ag:=@List.mem_of_getElem?
def Ah:=@Array.getElem?_toList
def Ai:=@List.getElem?_append_left
def Aj:=@List.mem_map
def Ak:=@Nat.le_refl
def Al:=@decide_eq_true_eq
def Am:=@List.getElem?_eq_getElem
def An:=@List.length_append
def Ao:=@PyProof.Rows.wpS_bind
def Ap:=@List.size_toArray
def Aq:=@List.mem_singleton
def Ar:=@List.getElem?_map
def As:=@List.mem_append_right
def Au:=@PyProof.Rows.wpS_pure
def Av:=@PySem.Heap.get?_push_size
def Aw:=@List.getElem?_set_ne
def Ax:=@PySem.Heap.lt_size
def Ay:=@List.all_eq_true
def Az:=@List.map_append
def AA:=@List.mem_append
def AB:=@Option.some.inj
def AD:=@Nat.lt_of_lt_of_le
def AE:=@List.length_take
def AF:=@Array.getElem?_eq_getElem
def AG:=@List.getD_eq_getElem?_getD
def AH:=@List.mem_cons
def AI:=@List.nodup_iff_pairwise_ne
def AJ:=@Nat.ne_of_lt
def AK:=@List.mem_append_left
def AL:=@PySem.Heap.SameBut.update
def AM:=@Nat.le_trans
def AN:=@Array.toList_append
def AO:=@List.mem_iff_getElem?
def AQ:=@Bool.false_ne_true
def AR:=@PySem.sizeLine_eq
def AS:=@PySem.wpAny_holding
def AU:=@Nat.zero_add
def AV:=@List.map_map
def AW:=@Nat.zero_le
def AX:=@List.getElem?_append_right
def AY:=@PySem.wpAny_call_entry
def AZ:=@Bool.false_eq_true
def A0:=@Array.getD_eq_getD_getElem?
def A1:=@decide_eq_false
def A2:=@PySem.W.kia_one
def A3:=@PySem.wpAny_newObj_type
def A4:=@List.append_assoc
def A5:=@PySem.Heap.get?_update_self
def A6:=@PySem.wpAny_callSpecial?_slot
def A7:=@List.Perm.refl
def A8:=@List.mem_of_mem_take
def A9:=@PySem.W.mg_none_of
def Ba:=@PyProof.Rows.slot_tuple_getitem
def Bb:=@List.length_set
def Bc:=@PySem.wpAny_rule
def Bd:=@Array.getElem?_eq_none
def Be:=@Int.emod_lt_of_pos
def Bf:=@Array.size_push
def Bg:=@PySem.F.slot_dict_keyiterator_next
def Bh:=@List.getElem?_take_of_lt
def Bi:=@List.map_cons
def Bj:=@List.not_mem_nil
def Bk:=@Int.emod_nonneg
def Bl:=@List.getElem_mem
def Bm:=@Nat.lt_succ_self
def Bn:=@List.drop_eq_getElem_cons
def Bo:=@List.pairwise_map
def Bp:=@List.take_append_drop
def Bq:=@Nat.lt_irrefl
def Br:=@decide_eq_true
def Bs:=@PySem.wpAny_setField
def Bt:=@List.nodup_cons
def Bu:=@List.mem_cons_of_mem
def Bv:=@PySem.Heap.get?_update_other
def Bw:=@PySem.wpAny_dictEntries
def Bx:=@PySem.wpAny_setState_of
def By:=@Nat.lt_succ_of_lt
def Bz:=@PyProof.Rows.getElem?_mirror_all
def BA:=@List.append_nil
def BB:=@PySem.wpAny_dictEpoch
def BC:=@PySem.PassesOwn.never
def BD:=@List.length_drop
def BE:=@PySem.wpAny_typeNameOfWhole_keyiter
def BF:=@Nat.pow_le_pow_right
def BG:=@List.getElem?_replicate
def BH:=@Array.size_append
def BI:=@List.length_eq_zero_iff
def BJ:=@Array.toList_push
def BK:=@List.ext_getElem?
def BL:=@PySem.wpAny_mono
def BM:=@PySem.wpAny_loadPart'
def BN:=@PyProof.Rows.wpS_modify
def BP:=@PySem.mem_of_lookup
namespace L2
open PySem PySem.Spec PyProof.Rows
abbrev Key:=Sum Int Str
noncomputable def QK:Key->Value->Bool
 | .inl k,v=>Value.isInt k v
 | .inr x,v=>Value.isStrOf x v
noncomputable def VF (w:World):Key->Int
 | .inl k=>hashInt k
 | .inr x=>hashStr w x
theorem CA:∀ {k:Key} {v:Value},QK k v=true->(∃ i t,k=Sum.inl i∧v=Value.int i t)∨(∃ x t,k=Sum.inr x∧v=Value.str x t)
 | .inl i,v,h=>by
  obtain ⟨t,e⟩:=Value.isInt_shape (k:=i) (v:=v) h
  exact .inl ⟨i,t,rfl,e⟩
 | .inr x,v,h=>by
  obtain ⟨t,e⟩:=Value.isStrOf_shape (x:=x) (v:=v) h
  exact .inr ⟨x,t,rfl,e⟩
theorem S7 (a b:Int):decide ((Sum.inl a:Key)=Sum.inl b)=(a==b):=by
 by_cases e:a=b
 ·subst e;simp
 ·have h:¬ (Sum.inl a:Key)=Sum.inl b:=λq=>e (Sum.inl.inj q)
  rw [A1 h]
  exact (beq_eq_false_iff_ne.mpr e).symm
theorem Q3 (a b:Str):decide ((Sum.inr a:Key)=Sum.inr b)=decide (a=b):=by
 by_cases e:a=b
 ·subst e;simp
 ·have h:¬ (Sum.inr a:Key)=Sum.inr b:=λq=>e (Sum.inr.inj q)
  rw [A1 h,A1 e]
theorem Rp (a:Int)(b:Str):decide ((Sum.inl a:Key)=Sum.inr b)=false:=A1 (λq=>nomatch q)
theorem SA (a:Str)(b:Int):decide ((Sum.inr a:Key)=Sum.inl b)=false:=A1 (λq=>nomatch q)
def Lx (prog:Program)(w:World):PySem.KeyKind prog w Key where
 is:=QK
 hash:=VF w
 inj:=λv a b ha hb=>by
  rcases CA ha with ⟨i,t,rfl,rfl⟩|⟨x,t,rfl,rfl⟩
  ·rcases CA hb with ⟨j,u,rfl,e⟩|⟨y,u,rfl,e⟩
   ·injection e with e1 _;rw [e1]
   ·exact nomatch e
  ·rcases CA hb with ⟨j,u,rfl,e⟩|⟨y,u,rfl,e⟩
   ·exact nomatch e
   ·injection e with e1 _;rw [e1]
 byValue:=λk v h=>by
  rcases CA h with ⟨i,t,rfl,rfl⟩|⟨x,t,rfl,rfl⟩<;>rfl
 pyHash:=λhv h=>by
  rcases CA hv with ⟨i,t,rfl,rfl⟩|⟨x,t,rfl,rfl⟩
  ·exact wpAny_pyHash_int h
  ·exact wpAny_pyHash_str h
 eqBool:=λhu hv h=>by
  rcases CA hu with ⟨i,t,rfl,rfl⟩|⟨x,t,rfl,rfl⟩
  ·rcases CA hv with ⟨j,u,rfl,rfl⟩|⟨y,u,rfl,rfl⟩
   ·rw [S7] at h;exact wpAny_eqBool_int h
   ·rw [Rp] at h;exact SeqAt.EqAt.int_str i t y u _ _ _ _ h
  ·rcases CA hv with ⟨j,u,rfl,rfl⟩|⟨y,u,rfl,rfl⟩
   ·rw [SA] at h;exact SeqAt.EqAt.str_int x t j u _ _ _ _ h
   ·rw [Q3] at h;exact wpAny_eqBool_str h
 «strs»:=λk x t v h=>by
  rcases CA h with ⟨i,u,rfl,e⟩|⟨y,u,rfl,e⟩
  ·exact nomatch e
  ·injection e with e1 _
   subst e1
   cases v<;>rfl
inductive V where
 | non|bl (b:Bool)|int (i:Int)|str (x:Str)|byt (b:Array UInt8)|flt (b:UInt64)|ref (a:Addr)|ty (n:String)
 deriving DecidableEq
def RelV:V->Value->Prop
 | .non,u=>u=Value.none
 | .bl b,u=>u=Value.bool b
 | .int i,u=>∃ t,u=Value.int i t
 | .str x,u=>∃ t,u=Value.str x t
 | .byt b,u=>∃ t,u=Value.bytes b t
 | .flt b,u=>∃ t,u=Value.float b t
 | .ref a,u=>u=Value.ref a
 | .ty n,u=>u=Value.type n
abbrev Vals:List V->List Value->Prop:=Paired RelV
theorem Vals.length {xs:List V}{us:List Value}(r:Vals xs us):xs.length=us.length:=Paired.length r
theorem Vals.get:∀ {xs:List V} {us:List Value} {i:Nat} {x:V},Vals xs us->xs[i]? = some x->∃ u,us[i]? = some u∧RelV x u
 | _,_,_,_,.nil,e=>by simp at e
 | _,_,0,_,.cons r _,e=>by simp at e;subst e;exact ⟨_,rfl,r⟩
 | _,_,i+1,x,.cons _ t,e=>by
  obtain ⟨u,h1,h2⟩:=Vals.get (i:=i) (x:=x) t (by simpa using e)
  exact ⟨u,by simpa using h1,h2⟩
theorem Vals.set {x:V}{u:Value}(r:RelV x u):∀ {xs:List V} {us:List Value} (i:Nat),Vals xs us->Vals (xs.set i x) (us.set i u)
 | _,_,_,.nil=>.nil
 | _,_,0,.cons _ t=>.cons r t
 | _,_,i+1,.cons q t=>.cons q (Vals.set r i t)
theorem Vals.append:∀ {xs ys:List V} {us ws:List Value},Vals xs us->Vals ys ws->Vals (xs++ys) (us++ws)
 | _,_,_,_,.nil,s=>s
 | _,_,_,_,.cons r t,s=>.cons r (Vals.append t s)
theorem Vals.take:∀ {xs:List V} {us:List Value} (n:Nat),Vals xs us->Vals (xs.take n) (us.take n)
 | _,_,0,_=>.nil
 | _,_,_+1,.nil=>.nil
 | _,_,n+1,.cons r t=>.cons r (Vals.take n t)
theorem Vals.drop:∀ {xs:List V} {us:List Value} (n:Nat),Vals xs us->Vals (xs.drop n) (us.drop n)
 | _,_,0,r=>r
 | _,_,_+1,.nil=>.nil
 | _,_,n+1,.cons _ t=>Vals.drop n t
def Sr:Option V->Option Value->Prop
 | some v,some u=>RelV v u
 | none,none=>True
 | _,_=>False
def KV {κ:Type}:List (κ×V)->List (κ×Value)->Prop:=Paired λ(p:κ×V) (q:κ×Value)=>p.1=q.1∧RelV p.2 q.2
noncomputable def kV:Key->V
 | .inl i=>.int i
 | .inr x=>.str x
inductive HO where
  | lst (xs:List V)
  | tup (xs:List V)
  | dK (kvs:List (Key×V))|dT (kvs:List (List Key×V))
  | set (S:Int->Bool) (n:Nat)
  | ins (C dx:Addr) (fs:List (Str×V))
  | own (x:Addr)
  | xd (fs:List (Str×V))
  | met (f x:Addr)
  | rng (lo hi:Int)
  | frz (o:Obj) (u:HO)
  | tbl (ps:Array Value)
  | ext (φ:Heap->Prop)
abbrev Hp:=Addr->Option HO
noncomputable def upd (H:Hp)(a:Addr)(o:HO):Hp:=λb=>if b=a then some o else H b
theorem CV {H:Hp}{a:Addr}{o:HO}:upd H a o a=some o:=by unfold upd;rw [if_pos rfl]
theorem Cn {H:Hp}{a b:Addr}{o:HO}(h:b≠a):upd H a o b=H b:=by unfold upd;rw [if_neg h]
theorem Cd {H:Hp}{a b:Addr}{o:HO}(h:H a=some o)(h':H b=none):a≠b:=by
 intro e;subst e;rw [h] at h';cases h'
section
variable (P:Program) (w:World)
def ObjOk (H:Hp)(h:Heap)(a:Addr):HO->Prop
 | .lst xs=>xs.length≤sizeLine∧∃ (its:List Value) (n:Nat),Vals xs its∧h.get? a=some { cls:=.type "list",data:=.seq its.toArray n }
 | .tup xs=>(xs.length≤sizeLine∧∃ o,h.get? a=some o∧o.dict=none)∧∃ its:List Value,Vals xs its∧IsTup h a its.toArray
 | .dK kvs=>kvs.length≤sizeLine∧(a==sysModules)=false∧∃ vs,KV kvs vs∧h.DictOf (Lx P w) a vs
 | .dT kvs=>kvs.length≤sizeLine∧(a==sysModules)=false∧∃ xs:List (List Key×Addr×Value),
   Paired (λ(p:List Key×V) (q:List Key×Addr×Value)=>p.1=q.1∧H q.2.1=some (.tup (p.1.map kV))∧RelV p.2 q.2.2) kvs xs ∧
   ∃ o es ep,h.get? a=some o∧o.ExactDict∧o.data=.dict es ep∧es.toList=xs.map (entryOfKey (tupleKind (Lx P w)))∧(xs.map (·.1)).Nodup
 | .set S n=>h.SetOf (intKind P w) a S n
 | .ins C dx fs=>H dx=some (.own a)∧fs.length≤1000∧dx≠a∧h.get? a=some (PySem.W.instObj C dx) ∧
   ∃ mA,h.Ns1 dx mA∧(∀ f,Sr (fs.lookup f) (mA f))∧PySem.Within mA (fs.map (·.1))
 | .own _=>∃ o,h.get? a=some o
 | .xd fs=>∃ mA,h.Ns1 a mA∧∀ f,Sr (fs.lookup f) (mA f)
 | .rng lo hi=>∃ t u v,h.get? a=some { cls:=.type "range",data:=.fields #[.int lo t,.int hi u,.int 1 v] }
 | .frz o u=>h.get? a=some o∧ObjOk H h a u
 | .tbl ps=>h.get? a=some { cls:=.none,data:=.fields ps }
 | .met f x=>h.get? a=some (PySem.W.methodObj (.ref f) (.ref x))
 | .ext φ=>φ h∧(∃ o,h.get? a=some o)∧∀ h1 h2:Heap,φ h1->(∀ o,h1.get? a=some o->h2.get? a=some o)->φ h2
def HOk (H:Hp)(h:Heap):Prop:=∀ a o,H a=some o->ObjOk P w H h a o
end
section
variable {P:Program} {w:World} {H H':Hp} {h h':Heap} {a:Addr} {o:HO}
theorem ObjOk.lt (x:ObjOk P w H h a o):a<h.objs.size:=by
 cases o with
 | lst xs=>obtain ⟨_,_,_,_,e⟩:=x;exact Ax e
 | tup xs=>obtain ⟨_,_,_,p⟩:=x;exact p.lt
 | dK kvs=>obtain ⟨_,_,_,_,o,_,_,e,_⟩:=x;exact Ax e
 | dT kvs=>obtain ⟨_,_,_,_,o,_,_,e,_⟩:=x;exact Ax e
 | set S n=>obtain ⟨o,_,_,_,e,_⟩:=x;exact Ax e
 | ins C dx fs=>obtain ⟨_,_,_,e,_⟩:=x;exact Ax e
 | own y=>obtain ⟨_,e⟩:=x;exact Ax e
 | xd fs=>obtain ⟨_,⟨_,_,_,e,_⟩,_⟩:=x;exact Ax e
 | rng lo hi=>obtain ⟨_,_,_,e⟩:=x;exact Ax e
 | frz ob u=>obtain ⟨e,_⟩:=x;exact Ax e
 | tbl ps=>exact Ax (show h.get? a=some _ from x)
 | met f y=>exact Ax (show h.get? a=some _ from x)
 | ext φ=>obtain ⟨_,⟨_,e⟩,_⟩:=x;exact Ax e
theorem Paired.mapP {α β:Type}{F G:α->β->Prop}:∀ {l₁:List α} {l₂:List β},Paired F l₁ l₂->(∀ a b,F a b->G a b)->Paired G l₁ l₂
 | _,_,.nil,_=>.nil
 | _,_,.cons r t,f=>.cons (f _ _ r) (Paired.mapP t f)
theorem ObjOk.stay (x:ObjOk P w H h a o)(k:∀ b u,(b=a∨H b=some (.own a))->h.get? b=some u->h'.get? b=some u)
  (ho:∀ b,H b=some (.own a)->H' b=some (.own a)) (ht:∀ b xs,H b=some (.tup xs)->H' b=some (.tup xs)):ObjOk P w H' h' a o:=by
 induction o with
 | lst xs=>obtain ⟨z,its,n,r,e⟩:=x;exact ⟨z,its,n,r,k _ _ (.inl rfl) e⟩
 | tup xs=>obtain ⟨⟨z,o1,z1,z2⟩,its,r,ob,e,c⟩:=x;exact ⟨⟨z,o1,k _ _ (.inl rfl) z1,z2⟩,its,r,ob,k _ _ (.inl rfl) e,c⟩
 | dK kvs=>obtain ⟨z,y,vs,r,ob,es,ep,e,c⟩:=x;exact ⟨z,y,vs,r,ob,es,ep,k _ _ (.inl rfl) e,c⟩
 | dT kvs =>
  obtain ⟨z,y,xs,r,ob,es,ep,e,c⟩:=x
  exact ⟨z,y,xs,Paired.mapP r λp q z=>⟨z.1,ht _ _ z.2.1,z.2.2⟩,ob,es,ep,k _ _ (.inl rfl) e,c⟩
 | set S n=>obtain ⟨ob,es,ep,t,e,c⟩:=x;exact ⟨ob,es,ep,t,k _ _ (.inl rfl) e,c⟩
 | ins C dx fs =>
  obtain ⟨d,z,ne,e,mA,⟨od,es,ep,e2,c⟩,r⟩:=x
  exact ⟨ho _ d,z,ne,k _ _ (.inl rfl) e,mA,⟨od,es,ep,k _ _ (.inr d) e2,c⟩,r⟩
 | own y=>obtain ⟨ob,e⟩:=x;exact ⟨ob,k _ _ (.inl rfl) e⟩
 | xd fs=>obtain ⟨mA,⟨od,es,ep,e,c⟩,r⟩:=x;exact ⟨mA,⟨od,es,ep,k _ _ (.inl rfl) e,c⟩,r⟩
 | rng lo hi=>obtain ⟨t,u,v,e⟩:=x;exact ⟨t,u,v,k _ _ (.inl rfl) e⟩
 | frz ob u ih=>obtain ⟨e,q⟩:=x;exact ⟨k _ _ (.inl rfl) e,ih q⟩
 | tbl ps =>
  have e:h.get? a=some { cls:=.none,data:=.fields ps }:=x
  show h'.get? a=some { cls:=.none,data:=.fields ps }
  exact k a _ (.inl rfl) e
 | met f y =>
  have e:h.get? a=some (PySem.W.methodObj (.ref f) (.ref y)):=x
  show h'.get? a=some (PySem.W.methodObj (.ref f) (.ref y))
  exact k a _ (.inl rfl) e
 | ext φ=>obtain ⟨p,⟨o,e⟩,st⟩:=x;exact ⟨st _ _ p λo q=>k _ _ (.inl rfl) q,⟨o,k _ _ (.inl rfl) e⟩,st⟩
theorem HOk.lt (x:HOk P w H h)(e:H a=some o):a<h.objs.size:=(x a o e).lt
theorem HOk.fresh (x:HOk P w H h)(e:h.objs.size≤a):H a=none:=by
 cases q:H a with
 | none=>rfl
 | some u=>exact absurd (AD (x.lt q) e) (Bq _)
theorem HOk.kept (x:HOk P w H h)(k:∀ b u,h.get? b=some u->h'.get? b=some u):HOk P w H h':=λa o e =>
 (x a o e).stay (λb u _ q=>k b u q) (λ_ q=>q) λ_ _ q=>q
theorem HOk.laid (x:HOk P w H h)(k:∀ b u,h.get? b=some u->h'.get? b=some u)(hp:h.objs.size≤a)(new:ObjOk P w (upd H a o) h' a o):HOk P w (upd H a o) h':=λb u e=>by
 have hn:=x.fresh hp
 by_cases hb:b=a
 ·subst hb;rw [CV] at e;cases e;exact new
 ·rw [Cn hb] at e
  exact (x b u e).stay (λc v _ q=>k c v q) (λc q=>by rw [Cn (Cd q hn)];exact q) λc xs q=>by rw [Cn (Cd q hn)];exact q
end
def Rd (H:Hp)(a:Addr)(u:HO):Prop:=H a=some u∨∃ o,H a=some (.frz o u)
theorem Rd.ok {P:Program}{w:World}{H:Hp}{h:Heap}{a:Addr}{u:HO}(r:Rd H a u)(x:HOk P w H h):ObjOk P w H h a u:=by
 rcases r with r|⟨o,r⟩
 ·exact x a u r
 ·obtain ⟨_,q⟩:=x a _ r
  exact q
def Mut:Option HO->Prop
 | some (.lst _)=>True
 | some (.dK _)=>True
 | some (.dT _)=>True
 | some (.set _ _)=>True
 | some (.ins _ _ _)=>True
 | some (.ext _)=>True
 | _=>False
section
variable {P:Program} {w:World} {H:Hp} {h h':Heap} {x e:Addr} {o':HO}
theorem HOk.write (ok:HOk P w H h)(mu:Mut (H x))(he:e=x∨H e=some (.own x))(k:∀ b u,b≠e->h.get? b=some u->h'.get? b=some u)(heo:∃ u,h'.get? e=some u)
  (new:ObjOk P w (upd H x o') h' x o'):HOk P w (upd H x o') h':=λb u q=>by
 have nown:∀ c y,H c=some (.own y)->c≠x:=λc y r z=>by subst z;rw [r] at mu;exact mu
 have ntup:∀ c xs,H c=some (.tup xs)->c≠x:=λc xs r z=>by subst z;rw [r] at mu;exact mu
 by_cases hb:b=x
 ·subst hb;rw [CV] at q;cases q;exact new
 ·rw [Cn hb] at q
  by_cases hbe:b=e
  ·have q':H b=some (.own x):=by
    rcases he with z|z
    ·exact absurd (hbe.trans z) hb
    ·rw [hbe];exact z
   rw [q] at q';cases q'
   obtain ⟨v,hv⟩:=heo
   exact ⟨v,by rw [hbe];exact hv⟩
  ·refine (ok b u q).stay (λc v hc r=>k c v ?_ r) (λc r=>by rw [Cn (nown c b r)];exact r) λc xs r=>by rw [Cn (ntup c xs r)];exact r
   rcases hc with rfl|hc
   ·exact hbe
   ·rintro rfl
    rcases he with z|z
    ·exact nown c b hc z
    ·rw [hc] at z;cases z;exact hb rfl
end
structure Un (fs ex:List Addr) (H H':Hp) (h h':Heap):Prop where
 keep:∀ b o,h.get? b=some o->H b=none->b∉fs->b∉ex->h'.get? b=some o
 slot:∀ b o,h.get? b=some o->H b=none->b∈fs->b∉ex->∃ sl,h'.get? b=some { o with slots:=sl }
 free:∀ b o,h.get? b=some o->H b=none->b∉ex->H' b=none
 there:∀ b o,h.get? b=some o->b∉ex->∃ o',h'.get? b=some o'
 tups:∀ b xs,H b=some (.tup xs)->H' b=some (.tup xs)
 frzs:∀ b o u,H b=some (.frz o u)->H' b=some (.frz o u)
 tbls:∀ b ps,H b=some (.tbl ps)->∃ more,H' b=some (.tbl (ps++more))
section
variable {fs fs' ex ex':List Addr} {H H1 H2:Hp} {h h1 h2 h':Heap} {a x e:Addr} {o:HO}
theorem Un.any (u:Un fs ex H H1 h h1){b:Addr}{ob:Obj}(q:h.get? b=some ob)(n:H b=none)(hx:b∉ex):∃ sl,h1.get? b=some { ob with slots:=sl }:=by
 by_cases hb:b∈fs
 ·exact u.slot b ob q n hb hx
 ·exact ⟨ob.slots,u.keep b ob q n hb hx⟩
theorem Un.kept (k:∀ b u,h.get? b=some u->h'.get? b=some u):Un fs ex H H h h':=
 ⟨λb ob q _ _ _=>k b ob q,λb ob q _ _ _=>⟨ob.slots,k b ob q⟩,λ_ _ _ n _=>n,λb ob q _=>⟨ob,k b ob q⟩,λ_ _ q=>q,λ_ _ _ q=>q,λ_ ps q=>⟨#[],by rw [q];simp⟩⟩
theorem Un.refl:Un fs ex H H h h:=Un.kept λ_ _ q=>q
theorem Un.laid (k:∀ b u,h.get? b=some u->h'.get? b=some u)(hp:h.objs.size≤a)(hn:H a=none):Un fs ex H (upd H a o) h h' where
 keep:=λb u q _ _ _=>k b u q
 slot:=λb u q _ _ _=>⟨u.slots,k b u q⟩
 free:=λb u q n _=>by rw [Cn (AJ (AD (Ax q) hp))];exact n
 there:=λb u q _=>⟨u,k b u q⟩
 tups:=λb xs q=>by rw [Cn (Cd q hn)];exact q
 frzs:=λb u xs q=>by rw [Cn (Cd q hn)];exact q
 tbls:=λb ps q=>⟨#[],by rw [Cn (Cd q hn),q];simp⟩
theorem Un.write (mu:Mut (H x))(he:e=x∨H e=some (.own x))(k:∀ b u,b≠e->h.get? b=some u->h'.get? b=some u)(heo:∃ u,h'.get? e=some u):Un fs ex H (upd H x o) h h':=by
 have hx:∀ b,H b=none->b≠x:=λb n z=>by subst z;rw [n] at mu;exact mu
 have hb:∀ b,H b=none->b≠e:=λb n z=>by
  subst z
  rcases he with r|r
  ·exact hx b n r
  ·rw [n] at r;cases r
 have hm:∀ b u,H b=some u->¬ Mut (some u)->b≠x:=λb u q nm z=>by subst z;rw [q] at mu;exact nm mu
 refine ⟨λb u q n _ _=>k b u (hb b n) q,λb u q n _ _=>⟨u.slots,k b u (hb b n) q⟩,λb u q n _=>by rw [Cn (hx b n)];exact n,λb u q _=>?_,
  λb xs q=>by rw [Cn (hm b _ q λz=>z)];exact q,λb u xs q=>by rw [Cn (hm b _ q λz=>z)];exact q,λb ps q=>⟨#[],by rw [Cn (hm b _ q λz=>z),q];simp⟩⟩
 by_cases hbe:b=e
 ·subst hbe;exact heo
 ·exact ⟨u,k b u hbe q⟩
end
noncomputable def trk (h:Heap)(H:Hp):List Addr:=(List.range h.objs.size).filter λa=>(H a).isSome
def IQ (h:Heap)(H:Hp):Heap:=PySem.W.hideAll h (trk h H)
theorem MB (h:Heap)(H:Hp):(IQ h H).objs.size=h.objs.size:=PySem.W.hideAll_size _ _
theorem Oo {h:Heap}{H:Hp}{b:Addr}{o:Obj}(e:h.get? b=some o)(n:H b=none):(IQ h H).get? b=some o:=
 PySem.W.hideAll_get _ e λhm=>by
  have q:(H b).isSome=true:=(List.mem_filter.mp hm).2
  rw [n] at q;simp at q
theorem Qu {h:Heap}{H:Hp}{b:Addr}{o:Obj}(e:(IQ h H).get? b=some o):h.get? b=some o∧H b=none:=by
 have e':h.get? b=some o:=PySem.W.of_hideAll (trk h H) e
 refine ⟨e',?_⟩
 cases q:H b with
 | none=>rfl
 | some x =>
  have hm:b∈trk h H:=List.mem_filter.mpr ⟨List.mem_range.mpr (Ax e'),by simp [q]⟩
  have z:(IQ h H).get? b=none:=PySem.W.hideAll_none (trk h H) hm
  rw [z] at e;cases e
noncomputable def OZ (g h:Heap)(L:Addr):List (Addr×Obj):=(List.range h.objs.size).filterMap λa=>if a=L∨(g.get? a).isSome=true then none else (h.get? a).map λo=>(a,o)
noncomputable def rest (g h:Heap)(L d:Addr):List (Addr×Obj):=(OZ g h L).filter λp=>decide (p.1≠d)
theorem LY {g h:Heap}{L d:Addr}:∀ p∈rest g h L d,p.1≠d:=λp hp=>of_decide_eq_true (List.mem_filter.mp hp).2
structure Mod (K:PySem.W.Frag) (mg:Str->Option Value) (base:Heap):Prop where
 kin:K.In base
 glob:base.Ns mainGlobals mg
 blt:∃ mb,base.Ns builtinsNs mb∧∀ x:Str,x≠"__name__"->mb x=bootBuiltins x
 nolimit:base.NoLimit
structure Cx where
 prog:Program
 w:World
 K:PySem.W.Frag
 mg:Str->Option Value
 base:Heap
 A:Around
 N:List Str
 s₀:Shared
 H₀:Hp
 env:Env
 outer:List Env
 stack:List Env
 ex:List Addr
 fn:Str->Bool
 calm:Bool
 pn:List (Addr×Obj)
 xe:Value->Shared->Prop
noncomputable def frs (l:List Env):List Addr:=l.filterMap (·.frame)
abbrev Cx.fs (X:Cx):List Addr:=frs X.outer
def Vis (sc:Scope)(x:Str):Prop:=sc.names.lookup x=some .local∨sc.names.lookup x=some .cell∨sc.names.lookup x=some .free
def Loc (sc:Scope)(x:Str):Prop:=sc.names.lookup x=some .local∨sc.names.lookup x=some .cell
def Look (env:Env)(h:Heap)(m:Str->Option Value)(x:Str)(u:Value):Prop:=
 (env.kindOf x=some .local∧m x=some u)∨((env.kindOf x=some .cell∨env.kindOf x=some .free)∧∃ c,env.cells.lookup x=some c∧h.IsCell c (some u))
structure Cx.Ok (X:Cx):Prop where
 mod:Mod X.K X.mg X.base
 kind:X.env.scope.kind=.function
 glob:X.env.globals=mainGlobals
 blt:X.env.builtins=builtinsNs
 above:X.s₀.heap.objs.size≤X.env.locals
 inj:∀ x y c,X.env.cells.lookup x=some c->X.env.cells.lookup y=some c->x=y
 has:∀ x,(X.env.kindOf x=some .cell∨X.env.kindOf x=some .free)->∃ c,X.env.cells.lookup x=some c
 cab:∀ x c,X.fn x=true->X.env.cells.lookup x=some c->X.s₀.heap.objs.size≤c
 hd:X.calm=true->X.A.handled=none
 frames:X.A.frames=some X.stack
 stk:X.stack=X.outer∨(X.stack=X.env::X.outer∧X.env.frame=some X.env.locals)
 exf:∀ b∈X.ex,b≠X.env.locals∧∀ x c,X.env.cells.lookup x=some c->c≠b
 bs:∀ b o,X.base.get? b=some o->X.s₀.heap.get? b=some o∧X.H₀ b=none
 bsz:X.base.objs.size≤X.s₀.heap.objs.size
 noex:∀ b o,X.base.get? b=some o->b∉X.ex
 exfs:∀ b∈X.ex,b∉X.fs
 funs:X.s₀.heap.FunFrames X.base X.outer
 frf:∀ b∈X.fs,X.H₀ b=none
structure Inv (X:Cx) (pins:List (Addr×Obj)) (σ:List (Option V)) (H:Hp) (s:Shared):Prop where
 ok:X.Ok
 os:s.os=X.s₀.os
 bare:AllBare s.gens
 base:Un X.fs X.ex X.H₀ H X.s₀.heap s.heap
 loc:∃ m,s.heap.Ns X.env.locals m∧∀ (i:Nat) (x:Str) (v:V),X.N[i]? = some x->σ[i]? = some (some v)->Vis X.env.scope x->∃ u,RelV v u∧Look X.env s.heap m x u
 cell:∀ x c,X.env.cells.lookup x=some c->∃ v,s.heap.IsCell c v
 free:H X.env.locals=none
 freeC:∀ x c,X.env.cells.lookup x=some c->H c=none
 pin:∀ p∈X.pn++pins,s.heap.get? p.1=some p.2∧H p.1=none∧p.1≠X.env.locals∧p.1∉X.fs∧∀ v,p.2.data≠.cell v
 hok:HOk X.prog X.w H s.heap
 len:σ.length=X.N.length
section
variable {X:Cx} {pins:List (Addr×Obj)} {σ:List (Option V)} {H H':Hp} {s:Shared} {h':Heap}
theorem Cx.Ok.nofr (ok:X.Ok){b:Addr}{o:Obj}(e:X.base.get? b=some o):b∉X.fs:=λhb=>by
 have:=(ok.funs.mem hb).1
 rw [e] at this;cases this
theorem Inv.bs (I:Inv X pins σ H s):∀ b o,X.base.get? b=some o->s.heap.get? b=some o∧H b=none:=λb o e =>
 ⟨I.base.keep b o (I.ok.bs b o e).1 (I.ok.bs b o e).2 (I.ok.nofr e) (I.ok.noex b o e),I.base.free b o (I.ok.bs b o e).1 (I.ok.bs b o e).2 (I.ok.noex b o e)⟩
theorem Inv.bk (I:Inv X pins σ H s):∀ b o,X.base.get? b=some o->s.heap.get? b=some o:=λb o e=>(I.bs b o e).1
theorem Inv.mod (I:Inv X pins σ H s):Mod X.K X.mg X.base:=I.ok.mod
theorem Inv.kIn (I:Inv X pins σ H s):X.K.In s.heap:=I.ok.mod.kin.keeps I.bk
theorem Inv.fr (I:Inv X pins σ H s):∃ m,Fr X.base X.env.locals s.heap m:=
 let ⟨m,hn,_⟩:=I.loc
 ⟨m,hn,I.bk,AM I.ok.bsz I.ok.above⟩
theorem Inv.lt (I:Inv X pins σ H s):X.env.locals<s.heap.objs.size:=let ⟨_,hn,_⟩:=I.loc;hn.lt
theorem Inv.sz (I:Inv X pins σ H s):X.s₀.heap.objs.size≤s.heap.objs.size:=AM I.ok.above (Nat.le_of_lt I.lt)
theorem Inv.nofs (I:Inv X pins σ H s){a:Addr}(h:s.heap.objs.size≤a):a∉X.fs:=λhb=>by
 obtain ⟨_,o,ho,_⟩:=I.ok.funs.mem hb
 exact absurd (AD (Ax ho) (AM I.sz h)) (Bq _)
theorem Inv.cne (I:Inv X pins σ H s):∀ x c,X.env.cells.lookup x=some c->c≠X.env.locals:=λx c e z=>by
 obtain ⟨v,o,ho,hd⟩:=I.cell x c e
 obtain ⟨m,⟨o',es,ep,ho',hd',_⟩,_⟩:=I.loc
 rw [z,ho'] at ho;cases ho;rw [hd'] at hd;cases hd
theorem Inv.funs (I:Inv X pins σ H s):s.heap.FunFrames X.base X.outer:=by
 have all:∀ (l:List Env),(∀ b∈frs l,b∈X.fs)->X.s₀.heap.FunFrames X.base l->s.heap.FunFrames X.base l:=by
  intro l
  induction l with
  | nil=>intro _ _;trivial
  | cons env r ih =>
   intro hs hl
   obtain ⟨hk,⟨L,o,hf,hn,ho,hd⟩,hr⟩:=hl
   have hL:L∈X.fs:=hs L (by unfold frs;rw [List.filterMap_cons,hf];exact List.mem_cons_self)
   obtain ⟨sl,e⟩:=I.base.slot L o ho (I.ok.frf L hL) hL λz=>I.ok.exfs L z hL
   exact ⟨hk,⟨L,_,hf,hn,e,hd⟩,ih (λb hb=>hs b (by unfold frs;rw [List.filterMap_cons,hf];exact Bu _ hb)) hr⟩
 exact all X.outer (λ_ hb=>hb) I.ok.funs
theorem Inv.stack (I:Inv X pins σ H s):s.heap.FunFrames X.base X.stack:=by
 rcases I.ok.stk with e|⟨e,hf⟩
 ·rw [e];exact I.funs
 ·rw [e]
  obtain ⟨m,hn,_⟩:=I.loc
  refine .cons (by rw [I.ok.kind];decide) hf hn ?_ I.funs
  exact Heap.get?_none_of_le (AM I.ok.bsz I.ok.above)
theorem Inv.stkSub (I:Inv X pins σ H s):∀ b∈frs X.stack,b∈X.env.locals::X.fs:=λb hb=>by
 rcases I.ok.stk with e|⟨e,hf⟩
 ·rw [e] at hb;exact Bu _ hb
 ·rw [e] at hb
  unfold frs at hb
  rw [List.filterMap_cons,hf] at hb
  exact hb
theorem Inv.stkFree (I:Inv X pins σ H s):∀ b∈frs X.stack,H b=none:=λb hb=>by
 rcases AH.mp (I.stkSub b hb) with e|hb
 ·rw [e];exact I.free
 ·obtain ⟨_,o,ho,_⟩:=I.ok.funs.mem hb
  exact I.base.free b o ho (I.ok.frf b hb) λz=>I.ok.exfs b z hb
theorem Inv.step {g':Array GenState}{t':Nat}{d':Drawn}{ch:List Addr}(I:Inv X pins σ H s)
  (hch:∀ b∈ch,(b∈X.ex∨X.s₀.heap.objs.size≤b)∧b≠X.env.locals∧(∀ x c,X.env.cells.lookup x=some c->c≠b)∧∀ p∈X.pn++pins,p.1≠b)
  (keep:∀ b o,b≠X.env.locals->b∉X.fs->b∉ch->s.heap.get? b=some o->H b=none->h'.get? b=some o)
  (slot:∀ b o,b≠X.env.locals->b∈X.fs->b∉ch->s.heap.get? b=some o->H b=none->∃ sl,h'.get? b=some { o with slots:=sl }) (free:∀ b o,b∉ch->s.heap.get? b=some o->H b=none->H' b=none)
  (there:∀ b o,b∉ch->s.heap.get? b=some o->∃ o',h'.get? b=some o')
  (tups:∀ b xs,H b=some (.tup xs)->H' b=some (.tup xs)) (frzs:∀ b o u,H b=some (.frz o u)->H' b=some (.frz o u)) (tbls:∀ b ps,H b=some (.tbl ps)->∃ more,H' b=some (.tbl (ps++more)))
  (ns:∀ m,s.heap.Ns X.env.locals m->h'.Ns X.env.locals m) (hok:HOk X.prog X.w H' h') (hg:AllBare g') :
  Inv X pins σ H' { s with heap:=h',gens:=g',drawn:=d',toks:=t' }:=by
 have neL:∀ b o,X.s₀.heap.get? b=some o->b≠X.env.locals:=λb o e=>AJ (AD (Ax e) I.ok.above)
 have neC:∀ b o,X.s₀.heap.get? b=some o->b∉X.ex->b∉ch:=λb o e hx hb=>by
  rcases (hch b hb).1 with z|z
  ·exact hx z
  ·exact absurd (AD (Ax e) z) (Bq _)
 have cellK:∀ x c,X.env.cells.lookup x=some c->∀ v,s.heap.IsCell c v->h'.IsCell c v:=λx c e v ⟨o,ho,hd⟩=>by
  have nch:c∉ch:=λz=>(hch c z).2.2.1 x c e rfl
  by_cases hc:c∈X.fs
  ·obtain ⟨sl,q⟩:=slot c o (I.cne x c e) hc nch ho (I.freeC x c e)
   exact ⟨_,q,hd⟩
  ·exact ⟨o,keep c o (I.cne x c e) hc nch ho (I.freeC x c e),hd⟩
 refine ⟨I.ok,I.os,hg,⟨λb o e n hb hx=>?_,λb o e n hb hx=>?_,λb o e n hx=>?_,λb o e hx=>?_,λb xs e=>tups b xs (I.base.tups b xs e),λb o xs e=>frzs b o xs (I.base.frzs b o xs e),λb ps e=>?_⟩,?_,λx c e=>?_,?_,λx c e=>?_,λp hp=>?_,hok,I.len⟩
 ·exact keep b o (neL b o e) hb (neC b o e hx) (I.base.keep b o e n hb hx) (I.base.free b o e n hx)
 ·obtain ⟨sl,e1⟩:=I.base.slot b o e n hb hx
  obtain ⟨sl',e2⟩:=slot b _ (neL b o e) hb (neC b o e hx) e1 (I.base.free b o e n hx)
  exact ⟨sl',e2⟩
 ·obtain ⟨o',e1⟩:=I.base.there b o e hx
  exact free b o' (neC b o e hx) e1 (I.base.free b o e n hx)
 ·obtain ⟨o',e1⟩:=I.base.there b o e hx
  exact there b o' (neC b o e hx) e1
 ·obtain ⟨m1,e1⟩:=I.base.tbls b ps e
  obtain ⟨m2,e2⟩:=tbls b _ e1
  exact ⟨m1++m2,by rw [e2,Array.append_assoc]⟩
 ·obtain ⟨m,hn,hl⟩:=I.loc
  refine ⟨m,ns m hn,λi x v e1 e2 e3=>?_⟩
  obtain ⟨u,r,l⟩:=hl i x v e1 e2 e3
  refine ⟨u,r,?_⟩
  rcases l with l|⟨k,c,e,z⟩
  ·exact .inl l
  ·exact .inr ⟨k,c,e,cellK x c e _ z⟩
 ·obtain ⟨v,z⟩:=I.cell x c e
  exact ⟨v,cellK x c e v z⟩
 ·obtain ⟨m,⟨o,_,_,ho,_⟩,_⟩:=I.loc
  exact free _ o (λz=>(hch _ z).2.1 rfl) ho I.free
 ·obtain ⟨v,o,ho,hd⟩:=I.cell x c e
  exact free c o (λz=>(hch c z).2.2.1 x c e rfl) ho (I.freeC x c e)
 ·obtain ⟨e,n,ne,nf,d⟩:=I.pin p hp
  have nch:p.1∉ch:=λz=>(hch p.1 z).2.2.2 p hp rfl
  exact ⟨keep p.1 p.2 ne nf nch e n,free p.1 p.2 nch e n,ne,nf,d⟩
theorem Inv.un {t':Nat}(I:Inv X pins σ H s)(u:Un X.fs [] H H' s.heap h')(hok:HOk X.prog X.w H' h'):Inv X pins σ H' { s with heap:=h',toks:=t' }:=by
 obtain ⟨m,⟨o,es,ep,ho,r⟩,_⟩:=id I.loc
 obtain ⟨sl,hL⟩:=u.any ho I.free (by simp)
 exact I.step (g':=s.gens) (d':=s.drawn) (ch:=[]) (λ_ z=>nomatch z) (λb o _ hb _ e n=>u.keep b o e n hb (by simp)) (λb o _ hb _ e n=>u.slot b o e n hb (by simp)) (λb o _ e n=>u.free b o e n (by simp)) (λb o _ e=>u.there b o e (by simp)) u.tups u.frzs u.tbls (λm' hm=>by
  obtain ⟨o',es',ep',ho',r'⟩:=hm
  rw [ho] at ho';cases ho'
  exact ⟨_,es',ep',hL,r'⟩) hok I.bare
theorem Inv.call {g':Array GenState}{t':Nat}{d':Drawn}{ch:List Addr}(I:Inv X pins σ H s)(u:Un (frs X.stack) ch H H' s.heap h')(hok:HOk X.prog X.w H' h')(hg:AllBare g')
  (hch:∀ b∈ch,(b∈X.ex∨X.s₀.heap.objs.size≤b)∧b≠X.env.locals∧(∀ x c,X.env.cells.lookup x=some c->c≠b)∧∀ p∈X.pn++pins,p.1≠b) :
  Inv X pins σ H' { s with heap:=h',gens:=g',drawn:=d',toks:=t' }:=by
 obtain ⟨m,⟨o,es,ep,ho,r⟩,_⟩:=id I.loc
 obtain ⟨sl,hL⟩:=u.any ho I.free λz=>(hch _ z).2.1 rfl
 exact I.step (ch:=ch) hch (λb o hL hb hc e n=>u.keep b o e n (λz=>(AH.mp (I.stkSub b z)).elim hL hb) hc) (λb o _ _ hc e n=>u.any e n hc) (λb o hc e n=>u.free b o e n hc) (λb o hc e=>u.there b o e hc) u.tups u.frzs u.tbls (λm' hm=>by
  obtain ⟨o',es',ep',ho',r'⟩:=hm
  rw [ho] at ho';cases ho'
  exact ⟨_,es',ep',hL,r'⟩) hok hg
theorem Inv.turned {t':Nat}{it:Addr}(I:Inv X pins σ H s)(k:∀ b o,b≠it->s.heap.get? b=some o->h'.get? b=some o)(hn:H it=none)(hL:it≠X.env.locals)
  (h1:it∈X.ex∨X.s₀.heap.objs.size≤it) (h2:∀ x c,X.env.cells.lookup x=some c->c≠it) (h3:∀ p∈X.pn++pins,p.1≠it):Inv X pins σ H { s with heap:=h',toks:=t' }:=by
 have nit:∀ b u,H b=some u->b≠it:=λb u e z=>by rw [z,hn] at e;cases e
 refine I.step (g':=s.gens) (d':=s.drawn) (ch:=[it]) (λb hb=>?_) (λb o _ _ hc e _=>k b o (λz=>hc (by simp [z])) e) (λb o _ _ hc e _=>⟨o.slots,k b o (λz=>hc (by simp [z])) e⟩) (λ_ _ _ _ n=>n)
  (λb o hc e=>⟨o,k b o (λz=>hc (by simp [z])) e⟩) (λ_ _ e=>e) (λ_ _ _ e=>e) (λb ps e=>⟨#[],by rw [e];simp⟩) (λm hm=>?_) (λb u e=>?_) I.bare
 ·have e:b=it:=by simpa using hb
  subst e
  exact ⟨h1,hL,h2,h3⟩
 ·obtain ⟨o,es,ep,ho,r⟩:=hm
  exact ⟨o,es,ep,k _ o (Ne.symm hL) ho,r⟩
 ·refine (I.hok b u e).stay (λc v hc q=>k c v ?_ q) (λ_ q=>q) λ_ _ q=>q
  rcases hc with z|z
  ·rw [z];exact nit b u e
  ·exact nit c _ z
theorem Inv.tok (I:Inv X pins σ H s)(t:Nat):Inv X pins σ H { s with toks:=t }:=I.un (h':=s.heap) (t':=t) Un.refl I.hok
theorem Inv.kept {t':Nat}(I:Inv X pins σ H s)(k:∀ b u,s.heap.get? b=some u->h'.get? b=some u):Inv X pins σ H { s with heap:=h',toks:=t' }:=I.un (Un.kept k) (I.hok.kept k)
theorem Inv.laid {a:Addr}{o:HO}{t':Nat}(I:Inv X pins σ H s)(k:∀ b u,s.heap.get? b=some u->h'.get? b=some u)(hp:s.heap.objs.size≤a)(new:ObjOk X.prog X.w (upd H a o) h' a o) :
  Inv X pins σ (upd H a o) { s with heap:=h',toks:=t' }:=I.un (Un.laid k hp (I.hok.fresh hp)) (I.hok.laid k hp new)
theorem Inv.write {x e:Addr}{o:HO}{t':Nat}(I:Inv X pins σ H s)(mu:Mut (H x))(he:e=x∨H e=some (.own x))(k:∀ b u,b≠e->s.heap.get? b=some u->h'.get? b=some u)(heo:∃ u,h'.get? e=some u)
  (new:ObjOk X.prog X.w (upd H x o) h' x o):Inv X pins σ (upd H x o) { s with heap:=h',toks:=t' }:=I.un (Un.write mu he k heo) (I.hok.write mu he k heo new)
theorem Inv.pins_of {pins':List (Addr×Obj)}(I:Inv X pins σ H s)(h:∀ p∈pins',s.heap.get? p.1=some p.2∧H p.1=none∧p.1≠X.env.locals∧p.1∉X.fs∧∀ v,p.2.data≠.cell v):Inv X pins' σ H s:=
 ⟨I.ok,I.os,I.bare,I.base,I.loc,I.cell,I.free,I.freeC,λp hp=>(AA.mp hp).elim (λz=>I.pin p (AK _ z)) (h p),I.hok,I.len⟩
theorem JA {N:List Str}(hN:N.Nodup){i j:Nat}{x:Str}(a:N[i]? = some x)(b:N[j]? = some x):i=j:=by
 obtain ⟨h1,e1⟩:=Ad.mp a
 obtain ⟨h2,e2⟩:=Ad.mp b
 exact (List.getElem_inj hN).mp (e1.trans e2.symm)
theorem MW {M:Model}{A:Around}{E:Value->Shared->Prop}{i:Nat}{x:Str}{v:V}{u:Value}{Q:Unit->Shared->Prop}(I:Inv X pins σ H s)(hN:X.N.Nodup)(hi:X.N[i]? = some x)(hx:Loc X.env.scope x)(r:RelV v u)
  (h:∀ s',Inv X pins (σ.set i (some v)) H s'->(∃ a,Heap.SameBut a s.heap s'.heap∧(a=X.env.locals∨X.env.cells.lookup x=some a))->Q () s') (hf:X.fn x=true∨X.env.scope.names.lookup x=some .local:=by first|exact .inl rfl|exact .inr rfl|assumption):wpAny M A (storeName X.env x u) Q E s:=by
 obtain ⟨m,hn,hl⟩:=id I.loc
 have hcls:(X.env.scope.kind==.class||(X.env.scope.kind==.module&&X.env.locals != X.env.globals))=false:=by rw [I.ok.kind];rfl
 have hiσ:i<σ.length:=by rw [I.len];exact (Ad.mp hi).1
 have cne:=I.cne
 have tracked:∀ {a:Addr} {h':Heap},(∃ o,s.heap.get? a=some o∧H a=none)->Heap.SameBut a s.heap h'->HOk X.prog X.w H h':=λ{a h'} ha hs b ob e=>by
  obtain ⟨_,_,hfree⟩:=ha
  refine (I.hok b ob e).stay (λc w' hc q=>(hs.2 c ?_).trans q) (λ_ q=>q) λ_ _ q=>q
  rintro rfl
  rcases hc with rfl|hc
  ·rw [hfree] at e;cases e
  ·rw [hfree] at hc;cases hc
 rcases hx with hk|hk
 ·refine wpAny_storeName_local hk hn (λh' hn' hs=>?_) hcls
  obtain ⟨oL,_,_,hoL,_⟩:=id hn
  refine h _ ⟨I.ok,I.os,I.bare,⟨λb o e n hb hx=>?_,λb o e n hb hx=>?_,I.base.free,λb o e hx=>?_,I.base.tups,I.base.frzs,I.base.tbls⟩,⟨_,hn',λj y v' e1 e2 e3=>?_⟩,λy c e=>?_,I.free,I.freeC,λp hp=>?_,tracked ⟨oL,hoL,I.free⟩ hs,by simpa using I.len⟩ ⟨_,hs,.inl rfl⟩
  ·exact (hs.2 b (AJ (AD (Ax e) I.ok.above))).trans (I.base.keep b o e n hb hx)
  ·obtain ⟨sl,e1⟩:=I.base.slot b o e n hb hx
   exact ⟨sl,(hs.2 b (AJ (AD (Ax e) I.ok.above))).trans e1⟩
  ·obtain ⟨o',e1⟩:=I.base.there b o e hx
   exact ⟨o',(hs.2 b (AJ (AD (Ax e) I.ok.above))).trans e1⟩
  ·by_cases hj:j=i
   ·subst hj
    rw [hi] at e1;cases e1
    rw [List.getElem?_set_self hiσ] at e2
    cases e2
    exact ⟨u,r,.inl ⟨hk,by simp⟩⟩
   ·rw [Aw (Ne.symm hj)] at e2
    obtain ⟨u',r',q⟩:=hl j y v' e1 e2 e3
    refine ⟨u',r',?_⟩
    rcases q with ⟨k,e⟩|⟨k,c,e,z⟩
    ·refine .inl ⟨k,?_⟩
     have:y≠x:=λe=>hj (JA hN e1 (e▸hi))
     simp [this,e]
    ·exact .inr ⟨k,c,e,z.sameBut hs (cne y c e)⟩
  ·obtain ⟨w',z⟩:=I.cell y c e
   exact ⟨w',z.sameBut hs (cne y c e)⟩
  ·obtain ⟨e,n,ne,nf,d⟩:=I.pin p hp
   exact ⟨(hs.2 p.1 ne).trans e,n,ne,nf,d⟩
 ·have hfn:X.fn x=true:=by
   rcases hf with z|z
   ·exact z
   ·rw [z] at hk;cases hk
  obtain ⟨c,hc⟩:=I.ok.has x (.inl hk)
  obtain ⟨w',z⟩:=I.cell x c hc
  refine wpAny_storeName_cell I.ok.kind hk hc z (λh' hc' hs=>?_)
  obtain ⟨oc,hoc,hocd⟩:=id z
  refine h { s with heap:=h' } ⟨I.ok,I.os,I.bare,⟨λb o e n hb hx=>?_,λb o e n hb hx=>?_,I.base.free,λb o e hx=>?_,I.base.tups,I.base.frzs,I.base.tbls⟩,⟨m,hn.sameBut hs (Ne.symm (cne x c hc)),λj y v' e1 e2 e3=>?_⟩,λy c' e=>?_,I.free,I.freeC,λp hp=>?_,tracked ⟨oc,hoc,I.freeC x c hc⟩ hs,by simpa using I.len⟩ ⟨c,hs,.inr hc⟩
  ·exact (hs.2 b (AJ (AD (Ax e) (I.ok.cab x c hfn hc)))).trans (I.base.keep b o e n hb hx)
  ·obtain ⟨sl,e1⟩:=I.base.slot b o e n hb hx
   exact ⟨sl,(hs.2 b (AJ (AD (Ax e) (I.ok.cab x c hfn hc)))).trans e1⟩
  ·obtain ⟨o',e1⟩:=I.base.there b o e hx
   exact ⟨o',(hs.2 b (AJ (AD (Ax e) (I.ok.cab x c hfn hc)))).trans e1⟩
  ·by_cases hj:j=i
   ·subst hj
    rw [hi] at e1;cases e1
    rw [List.getElem?_set_self hiσ] at e2
    cases e2
    exact ⟨u,r,.inr ⟨.inl hk,c,hc,hc'⟩⟩
   ·rw [Aw (Ne.symm hj)] at e2
    obtain ⟨u',r',q⟩:=hl j y v' e1 e2 e3
    refine ⟨u',r',?_⟩
    rcases q with q|⟨k,c',e,z'⟩
    ·exact .inl q
    ·refine .inr ⟨k,c',e,z'.sameBut hs ?_⟩
     rintro rfl
     exact hj (JA hN e1 (I.ok.inj _ _ _ e hc▸hi))
  ·by_cases hcc:c'=c
   ·subst hcc;exact ⟨_,hc'⟩
   ·obtain ⟨w2,z2⟩:=I.cell y c' e
    exact ⟨w2,z2.sameBut hs hcc⟩
  ·obtain ⟨e,n,ne,nf,d⟩:=I.pin p hp
   refine ⟨(hs.2 p.1 ?_).trans e,n,ne,nf,d⟩
   intro q
   rw [q,hoc] at e
   have q':oc=p.2:=AB e
   exact d w' (by rw [← q'];exact hocd)
theorem Ee {M:Model}{A:Around}{E:Value->Shared->Prop}{i:Nat}{x:Str}{v:V}{u:Value}{Q:Unit->Shared->Prop}(I:Inv X pins σ H s)(hN:X.N.Nodup)(hi:X.N[i]? = some x)(hx:Loc X.env.scope x)(r:RelV v u)
  (h:∀ s',Inv X pins (σ.set i (some v)) H s'->Q () s') (hf:X.fn x=true∨X.env.scope.names.lookup x=some .local:=by first|exact .inl rfl|exact .inr rfl|assumption):wpAny M A (storeName X.env x u) Q E s:=
 MW I hN hi hx r (λs' I' _=>h s' I') hf
theorem Inv.call' {s':Shared}{ch:List Addr}(I:Inv X pins σ H s)(ho:s'.os=s.os)(u:Un (frs X.stack) ch H H' s.heap s'.heap)(hok:HOk X.prog X.w H' s'.heap)(hg:AllBare s'.gens)
  (hch:∀ b∈ch,(b∈X.ex∨X.s₀.heap.objs.size≤b)∧b≠X.env.locals∧(∀ x c,X.env.cells.lookup x=some c->c≠b)∧∀ p∈X.pn++pins,p.1≠b):Inv X pins σ H' s':=by
 obtain ⟨h',g',d',t',o'⟩:=s'
 have e:o'=s.os:=ho
 subst e
 exact I.call (g':=g') (t':=t') (d':=d') u hok hg hch
end
abbrev XK:=Value->Option Addr->Hp->Prop
abbrev St:=List (Option V)
abbrev VK:=V->Hp->Prop
abbrev TE:=St->Hp->VK->Prop
abbrev TT:=St->Hp->(Bool->Hp->Prop)->Prop
abbrev TA:=St->Hp->(List V->Hp->Prop)->Prop
structure Ends where
 nx:St->Hp->Prop
 rt:VK
 bk:St->Hp->Prop:=λ_ _=>False
 ct:St->Hp->Prop:=λ_ _=>False
abbrev TS:=Ends->St->Hp->Prop
def EP (X:Cx)(pins:List (Addr×Obj))(σ:St)(Q:VK)(u:Value)(s':Shared):Prop:=∃ v H',Inv X pins σ H' s'∧RelV v u∧Q v H'
def TP (X:Cx)(pins:List (Addr×Obj))(σ:St)(Q:Bool->Hp->Prop)(b:Bool)(s':Shared):Prop:=∃ H',Inv X pins σ H' s'∧Q b H'
def AP (X:Cx)(pins:List (Addr×Obj))(σ:St)(Q:List V->Hp->Prop)(us:List Value)(s':Shared):Prop:=∃ vs H',Inv X pins σ H' s'∧Vals vs us∧Q vs H'
def SP (X:Cx)(pins:List (Addr×Obj))(D:Ends)(f:Flow)(s':Shared):Prop:=
 match f with
 | .next=>∃ σ' H',Inv X pins σ' H' s'∧D.nx σ' H'
 | .brk=>∃ σ' H',Inv X pins σ' H' s'∧D.bk σ' H'
 | .cont=>∃ σ' H',Inv X pins σ' H' s'∧D.ct σ' H'
 | .ret u=>∃ v σ' H',Inv X pins σ' H' s'∧RelV v u∧D.rt v H'
def PE (X:Cx)(e:Expr)(t:TE):Prop:=
 ∀ (pins:List (Addr×Obj)) (s:Shared) (σ:St) (H:Hp) (Q:VK),Inv X pins σ H s->t σ H Q->wpAny (model X.prog X.w) X.A (eval e X.env) (EP X pins σ Q) X.xe s
def PT (X:Cx)(e:Expr)(t:TT):Prop:=
 ∀ (pins:List (Addr×Obj)) (s:Shared) (σ:St) (H:Hp) (Q:Bool->Hp->Prop),Inv X pins σ H s->t σ H Q->wpAny (model X.prog X.w) X.A (isTrue e X.env (eval e X.env)) (TP X pins σ Q) X.xe s
def PW (X:Cx)(e:Expr)(t:TT):Prop:=
 ∀ (whole:Sem Value) (pins:List (Addr×Obj)) (s:Shared) (σ:St) (H:Hp) (Q:Bool->Hp->Prop),Inv X pins σ H s->t σ H Q->wpAny (model X.prog X.w) X.A (isTrue e X.env whole) (TP X pins σ Q) X.xe s
theorem PW.pt {X:Cx}{e:Expr}{t:TT}(h:PW X e t):PT X e t:=h _
def PA (X:Cx)(es:List Expr)(t:TA):Prop:=
 ∀ (pos:Pos) (pins:List (Addr×Obj)) (s:Shared) (σ:St) (H:Hp) (Q:List V->Hp->Prop),Inv X pins σ H s->t σ H Q->wpAny (model X.prog X.w) X.A (spliced (backTo pos (starEach es X.env))) (AP X pins σ Q) X.xe s
def PS (X:Cx)(st:Stmt)(t:TS):Prop:=
 ∀ (pins:List (Addr×Obj)) (s:Shared) (σ:St) (H:Hp) (D:Ends),Inv X pins σ H s->t D σ H->wpAny (model X.prog X.w) X.A (exec st X.env) (SP X pins D) X.xe s
def PSs (X:Cx)(st:List Stmt)(t:TS):Prop:=
 ∀ (pins:List (Addr×Obj)) (s:Shared) (σ:St) (H:Hp) (D:Ends),Inv X pins σ H s->t D σ H->wpAny (model X.prog X.w) X.A (execs st X.env) (SP X pins D) X.xe s
theorem thn {α:Type}{t:Sem α}{Q Q':α->Shared->Prop}{M:Model}{A:Around}{E:Value->Shared->Prop}{s:Shared}(h:wpAny M A t Q E s)(hQ:∀ a s,Q a s->Q' a s):wpAny M A t Q' E s:=BL h hQ λ_ _ x=>x
section
variable {X:Cx}
def V8 (i:Nat):TE:=fun σ H Q=>∃ v,σ[i]? = some (some v)∧Q v H
def tC (v:V):TE:=λ_ H Q=>Q v H
theorem RS {i:Nat}{x:Str}{pos:Pos}(hN:X.N[i]? = some x)(hv:Vis X.env.scope x)(hd:(x==("__debug__":Str))=false:=by decide)(hcd:(x==("__classdict__":Str))=false:=by decide):PE X (.Name x pos) (V8 i):=by
 intro pins s σ H Q I h
 obtain ⟨v,e,h⟩:=h
 obtain ⟨m,hn,hl⟩:=I.loc
 obtain ⟨u,r,l⟩:=hl i x v hN e hv
 have fin:EP X pins σ Q u s:=⟨v,H,I,r,h⟩
 rcases l with ⟨hk,hm⟩|⟨hk,c,hc,hcell⟩
 ·exact wpAny_Name (wpAny_loadName_local I.ok.kind hk hn hm fin) hd
 ·rcases hk with hk|hk
  ·exact wpAny_Name (wpAny_loadName_cell I.ok.kind hk hc hcell fin) hd
  ·exact wpAny_Name (wpAny_loadName_free I.ok.kind hk hc hcell fin hcd) hd
theorem RY {i j pos}:PE X (.Constant (.int i) j pos) (tC (.int i)):=λ_ _ _ H _ I h=>wpAny_Constant_int ⟨.int i,H,I.tok _,⟨_,rfl⟩,h⟩
theorem UR {b j pos}:PE X (.Constant (.bool b) j pos) (tC (.bl b)):=λ_ _ _ H _ I h=>Constant_bool ⟨.bl b,H,I,rfl,h⟩
theorem Rw {x j pos}:PE X (.Constant (.str x) j pos) (tC (.str x)):=λ_ _ _ H _ I h=>Calls.Constant_str ⟨.str x,H,I.tok _,⟨_,rfl⟩,h⟩
def Gl (X:Cx)(x:Str):Prop:=X.env.kindOf x=some .globalImplicit
theorem PZ {E:Value->Shared->Prop}{pins:List (Addr×Obj)}{s:Shared}{σ:St}{H:Hp}{x:Str}{u:Value}{pos:Pos}{Q:Value->Shared->Prop}(I:Inv X pins σ H s)(hg:Gl X x)(hm:X.mg x=some u)(h:Q u s)
  (hd:(x==("__debug__":Str))=false:=by decide):wpAny (model X.prog X.w) X.A (eval (.Name x pos) X.env) Q E s:=
 Calls.Name_function_global I.ok.kind hg (Calls.loadGlobal_global (by rw [I.ok.glob];exact I.mod.glob.keeps I.bk) hm h) hd
theorem Jd {E:Value->Shared->Prop}{pins:List (Addr×Obj)}{s:Shared}{σ:St}{H:Hp}{x:Str}{u:Value}{pos:Pos}{Q:Value->Shared->Prop}(I:Inv X pins σ H s)(hg:Gl X x)(hm:X.mg x=none)(hv:bootBuiltins x=some u)(h:Q u s)
  (hn:x≠"__name__":=by decide) (hd:(x==("__debug__":Str))=false:=by decide):wpAny (model X.prog X.w) X.A (eval (.Name x pos) X.env) Q E s:=by
 obtain ⟨mb,h1,h2⟩:=I.mod.blt
 exact Calls.Name_function_global I.ok.kind hg (Calls.loadGlobal_builtin (by rw [I.ok.glob];exact I.mod.glob.keeps I.bk) hm (by rw [I.ok.blt];exact h1.keeps I.bk) ((h2 x hn).trans hv) h) hd
theorem OS {x:Str}{v:V}{u:Value}{pos:Pos}(hg:Gl X x)(hm:X.mg x=none)(hv:bootBuiltins x=some u)(r:RelV v u)(hn:x≠"__name__":=by decide)(hd:(x==("__debug__":Str))=false:=by decide):PE X (.Name x pos) (tC v):=
 λ_ _ _ H _ I h=>Jd I hg hm hv ⟨v,H,I,r,h⟩ hn hd
variable {a b:Expr} {ta tb:TE} {pos:Pos}
def tB (t:TE):TT:=fun σ H Q=>t σ H λx H1=>∃ c,x=.bl c∧Q c H1
theorem Ra {e:Expr}{t:TE}(h:PE X e t)(he:∀ whole,isTrue e X.env whole=(do let v←whole;standAt e.pos;holding [v] (truthy v)):=by intro _;rfl):PT X e (tB t):=by
 intro pins s σ H Q I hw
 refine isTrue_plain (thn (h pins s σ H _ I hw) λv s1 ⟨x,H1,I1,r1,q1⟩=>?_) (he _)
 obtain ⟨d,rfl,q⟩:=q1
 cases r1
 exact wpAny_truthy_bool ⟨H1,I1,q⟩
variable {tA tB':TT} {rest:List Expr}
def tOr (t u:TT):TT:=fun σ H Q=>t σ H λc H1=>if c=true then Q true H1 else u σ H1 Q
def Vf (t:TT):TT:=fun σ H Q=>t σ H λc H1=>Q (!c) H1
theorem Sz (ha:PT X a tA):PW X (.BoolOp .Or [a] pos) tA:=by
 intro wh pins s σ H Q I h
 refine isTrue_or (thn (ha pins s σ H Q I h) λc s1 e=>?_)
 cases c with
 | false=>exact isTrue_or_nil e
 | true=>exact e
theorem U4 (ha:PT X a tA)(hb:PW X (.BoolOp .Or (b::rest) pos) tB'):PW X (.BoolOp .Or (a::b::rest) pos) (tOr tA tB'):=by
 intro wh pins s σ H Q I h
 refine isTrue_or (thn (ha pins s σ H _ I h) λc s1 ⟨H1,I1,q1⟩=>?_)
 cases c with
 | true=>exact ⟨H1,I1,q1⟩
 | false=>exact hb wh pins s1 σ H1 Q I1 q1
theorem RO (ha:PT X a tA):PT X (.UnaryOp .Not a pos) (Vf tA):=by
 intro pins s σ H Q I h
 exact isTrue_not (ha pins s σ H (λc H1=>Q (!c) H1) I h)
end
def SqL (K:PySem.W.Frag)(H:Hp)(a:Addr)(xs:List V):Prop:=
 Rd H a (.lst xs) ∨
  ∃ (o:Obj) (its:Array Value) (n:Nat),K.lookup a=some o∧o.cls=.type "list"∧o.dict=none∧o.data=.seq its n∧its.size≤sizeLine∧Vals xs its.toList
def SqT (K:PySem.W.Frag)(H:Hp)(a:Addr)(xs:List V):Prop:=
 Rd H a (.tup xs) ∨
  ∃ (o:Obj) (its:Array Value) (n:Nat),K.lookup a=some o∧o.cls=.type "tuple"∧o.dict=none∧o.data=.seq its n∧its.size≤sizeLine∧Vals xs its.toList
noncomputable def VS:Value->Option V
 | .none=>some .non
 | .bool b=>some (.bl b)
 | .int i _=>some (.int i)
 | .str x _=>some (.str x)
 | .bytes b _=>some (.byt b)
 | .float b _=>some (.flt b)
 | .ref a=>some (.ref a)
 | .type n=>some (.ty n)
 | _=>none
theorem RelV.abs {x:V}{u:Value}(r:RelV x u):VS u=some x:=by
 cases x with
 | non=>cases r;rfl
 | bl _=>cases r;rfl
 | int _=>obtain ⟨t,rfl⟩:=r;rfl
 | str _=>obtain ⟨t,rfl⟩:=r;rfl
 | byt _=>obtain ⟨t,rfl⟩:=r;rfl
 | flt _=>obtain ⟨t,rfl⟩:=r;rfl
 | ref _=>cases r;rfl
 | ty _=>cases r;rfl
theorem RelV.inj {x y:V}{u:Value}(r:RelV x u)(q:RelV y u):x=y:=AB (r.abs.symm.trans q.abs)
theorem Vals.inj:∀ {xs ys:List V} {us:List Value},Vals xs us->Vals ys us->xs=ys
 | _,_,_,.nil,.nil=>rfl
 | _,_,_,.cons r t,.cons r' t'=>by rw [r.inj r',Vals.inj t t']
section
variable {X:Cx} {pins:List (Addr×Obj)} {σ:St} {H:Hp} {s:Shared} {a:Addr} {xs ys:List V}
theorem SqL.of {K:PySem.W.Frag}(h:H a=some (.lst xs)):SqL K H a xs:=.inl (.inl h)
theorem SqT.of {K:PySem.W.Frag}(h:H a=some (.tup xs)):SqT K H a xs:=.inl (.inl h)
theorem Inv.list (I:Inv X pins σ H s)(h:SqL X.K H a xs):∃ its:List Value,Vals xs its∧PlainL s.heap a its.toArray∧xs.length≤sizeLine:=by
 rcases h with h|⟨o,its,n,hk,hc,hd,hs,hz,r⟩
 ·obtain ⟨z,its,n,r,e⟩:=h.ok I.hok
  exact ⟨its,r,⟨_,n,e,rfl,rfl,rfl⟩,z⟩
 ·refine ⟨its.toList,r,⟨o,n,I.kIn a o hk,hc,hd,by simpa using hs⟩,?_⟩
  have e:=r.length
  simp only [Array.length_toList] at e
  ext
theorem Inv.tuple (I:Inv X pins σ H s)(h:SqT X.K H a xs):∃ its:List Value,Vals xs its∧IsTup s.heap a its.toArray∧xs.length≤sizeLine:=by
 rcases h with h|⟨o,its,n,hk,hc,_,hs,hz,r⟩
 ·obtain ⟨⟨z,_⟩,its,r,p⟩:=h.ok I.hok
  exact ⟨its,r,p,z⟩
 ·refine ⟨its.toList,r,⟨o,I.kIn a o hk,hc,n,by simpa using hs⟩,?_⟩
  have e:=r.length
  simp only [Array.length_toList] at e
  ext
theorem Inv.list_inj (I:Inv X pins σ H s)(h:SqL X.K H a xs)(h':SqL X.K H a ys):xs=ys:=by
 obtain ⟨its,r,⟨o,n,e,_,_,d⟩,_⟩:=I.list h
 obtain ⟨its',r',⟨o',n',e',_,_,d'⟩,_⟩:=I.list h'
 rw [e] at e';cases e'
 rw [d] at d'
 injection d' with d1 _
 have:its=its':=by simpa using congrArg Array.toList d1
 subst this
 exact r.inj r'
theorem Inv.tuple_inj (I:Inv X pins σ H s)(h:SqT X.K H a xs)(h':SqT X.K H a ys):xs=ys:=by
 obtain ⟨its,r,⟨o,e,_,n,d⟩,_⟩:=I.tuple h
 obtain ⟨its',r',⟨o',e',_,n',d'⟩,_⟩:=I.tuple h'
 rw [e] at e';cases e'
 rw [d] at d'
 injection d' with d1 _
 have:its=its':=by simpa using congrArg Array.toList d1
 subst this
 exact r.inj r'
end
noncomputable abbrev Cx.wish (X:Cx) (E:Value->Shared->Prop):Cx:={ X with xe:=E }
abbrev Cx.nox (X:Cx):Cx:=X.wish λ_ _=>False
theorem Cx.Ok.wish {X:Cx}(ok:X.Ok)(E:Value->Shared->Prop):(X.wish E).Ok:=
 ⟨ok.mod,ok.kind,ok.glob,ok.blt,ok.above,ok.inj,ok.has,ok.cab,ok.hd,ok.frames,ok.stk,ok.exf,ok.bs,ok.bsz,ok.noex,ok.exfs,ok.funs,ok.frf⟩
theorem Cx.Ok.unwish {X:Cx}{E:Value->Shared->Prop}(ok:(X.wish E).Ok):X.Ok:=
 ⟨ok.mod,ok.kind,ok.glob,ok.blt,ok.above,ok.inj,ok.has,ok.cab,ok.hd,ok.frames,ok.stk,ok.exf,ok.bs,ok.bsz,ok.noex,ok.exfs,ok.funs,ok.frf⟩
section
variable {X:Cx} {pins:List (Addr×Obj)} {σ:St} {H:Hp} {s:Shared} {E:Value->Shared->Prop}
theorem Inv.wish (I:Inv X pins σ H s)(E:Value->Shared->Prop):Inv (X.wish E) pins σ H s:=⟨I.ok.wish E,I.os,I.bare,I.base,I.loc,I.cell,I.free,I.freeC,I.pin,I.hok,I.len⟩
theorem Inv.unwish (I:Inv (X.wish E) pins σ H s):Inv X pins σ H s:=⟨I.ok.unwish,I.os,I.bare,I.base,I.loc,I.cell,I.free,I.freeC,I.pin,I.hok,I.len⟩
theorem SP.unwish {D:Ends}{f:Flow}{s':Shared}(h:SP (X.wish E) pins D f s'):SP X pins D f s':=by
 cases f with
 | next=>obtain ⟨σ',H',I,q⟩:=h;exact ⟨σ',H',I.unwish,q⟩
 | brk=>obtain ⟨σ',H',I,q⟩:=h;exact ⟨σ',H',I.unwish,q⟩
 | cont=>obtain ⟨σ',H',I,q⟩:=h;exact ⟨σ',H',I.unwish,q⟩
 | ret u=>obtain ⟨v,σ',H',I,r,q⟩:=h;exact ⟨v,σ',H',I.unwish,r,q⟩
theorem PSs.nox {st:List Stmt}{t:TS}(h:PSs X.nox st t):PSs X st t:=λpins s σ H D I hw =>
 BL (h pins s σ H D (I.wish _) hw) (λ_ _ q=>q.unwish) λ_ _ z=>False.elim z
end
section
variable {X:Cx} {st:Stmt} {rest:List Stmt} {t u:TS} {e:Expr} {te:TE} {pos:Pos}
def Uj:TS:=λD σ H=>D.nx σ H
def V6 (t u:TS):TS:=λD σ H=>t { D with nx:=u D } σ H
theorem P2:PSs X [] Uj:=λ_ _ σ H _ I h=>wpAny_execs_nil ⟨σ,H,I,h⟩
theorem Ot (h1:PS X st t)(h2:PSs X rest u):PSs X (st::rest) (V6 t u):=by
 intro pins s σ H D I h
 refine wpAny_execs_cons (thn (h1 pins s σ H { D with nx:=u D } I h) λf s1 q=>?_)
 cases f with
 | next =>
  obtain ⟨σ',H',I',q⟩:=q
  exact h2 pins s1 σ' H' D I' q
 | ret v=>exact q
 | brk=>exact q
 | cont=>exact q
theorem PC (h1:PS X st t):PSs X [st] t:=by
 intro pins s σ H D I h
 refine wpAny_execs_cons (thn (h1 pins s σ H D I h) λf s1 q=>?_)
 cases f with
 | next=>exact wpAny_execs_nil q
 | ret v=>exact q
 | brk=>exact q
 | cont=>exact q
theorem Inv.quiet {pins:List (Addr×Obj)}{σ:St}{H:Hp}{s:Shared}(I:Inv X pins σ H s):interactive X.env=false:=by simp [interactive,I.ok.kind]
def Uv (te:TE):TS:=λD σ H=>te σ H λ_ H1=>D.nx σ H1
theorem PK (he:PE X e te)(hs:swapsWith e none pos.line X.env=pure false:=by rfl):PS X (.Expr e pos) (Uv te):=by
 intro pins s σ H D I h
 exact wpAny_Expr_any (thn (he pins s σ H _ I h) λv s1 ⟨x,H1,I1,r1,q1⟩=>⟨σ,H1,I1,q1⟩) I.quiet hs
def Vh (te:TE):TS:=λD σ H=>te σ H D.rt
theorem Ss (he:PE X e te):PS X (.Return (some e) pos) (Vh te):=by
 intro pins s σ H D I h
 exact wpAny_Return_some (thn (he pins s σ H _ I h) λv s1 ⟨x,H1,I1,r1,q1⟩=>⟨x,σ,H1,I1,r1,q1⟩)
def VA (c:TT)(t u:TS):TS:=λD σ H=>c σ H λb H1=>if b=true then t D σ H1 else u D σ H1
theorem U1 {c:Expr}{a b:List Stmt}{tc:TT}(hc:PT X c tc)(ha:PSs X a t)(hb:PSs X b u):PS X (.If c a b pos) (VA tc t u):=by
 intro pins s σ H D I h
 refine wpAny_If (thn (hc pins s σ H _ I h) λd s1 ⟨H1,I1,q1⟩=>?_)
 cases d with
 | true=>exact ha pins s1 σ H1 D I1 q1
 | false=>exact hb pins s1 σ H1 D I1 q1
end
abbrev TG:=V->St->Hp->(St->Hp->Prop)->Prop
abbrev TGs:=List V->St->Hp->(St->Hp->Prop)->Prop
def PG (X:Cx)(target:Expr)(t:TG):Prop:=
 ∀ (pins:List (Addr×Obj)) (s:Shared) (σ:St) (H:Hp) (v:V) (u:Value) (Q:St->Hp->Prop),Inv X pins σ H s->RelV v u->t v σ H Q ->
  wpAny (model X.prog X.w) X.A (assign target X.env u) (λ_ s'=>∃ σ' H',Inv X pins σ' H' s'∧Q σ' H') X.xe s
def PGs (X:Cx)(ts:List Expr)(t:TGs):Prop:=
 ∀ (pins:List (Addr×Obj)) (s:Shared) (σ:St) (H:Hp) (vs:List V) (us:List Value) (Q:St->Hp->Prop),Inv X pins σ H s->Vals vs us->t vs σ H Q ->
  wpAny (model X.prog X.w) X.A (assignInOrder ((assignEach ts X.env).map (·.2)) us) (λ_ s'=>∃ σ' H',Inv X pins σ' H' s'∧Q σ' H') X.xe s
abbrev OL:=V->V->V->Hp->(Hp->Prop)->Prop
def Pb (X:Cx)(t:OL):Prop:=
 ∀ (pins:List (Addr×Obj)) (s:Shared) (σ:St) (H:Hp) (o i v:V) (ov iv u:Value) (Q:Hp->Prop),Inv X pins σ H s->RelV o ov->RelV i iv->RelV v u->t o i v H Q ->
  wpAny (model X.prog X.w) X.A (setItem ov iv u) (λ_ s'=>∃ H',Inv X pins σ H' s'∧Q H') X.xe s
section
variable {X:Cx} {pos:Pos}
def QX (i:Nat):TG:=λv σ H Q=>Q (σ.set i (some v)) H
theorem Qn {i:Nat}{x:Str}(hN:X.N.Nodup)(hi:X.N[i]? = some x)(hx:Loc X.env.scope x)(hf:X.fn x=true∨X.env.scope.names.lookup x=some .local:=by first|exact .inl rfl|exact .inr rfl|assumption):PG X (.Name x pos) (QX i):=by
 intro pins s σ H v u Q I r h
 exact wpAny_assign_Name (Ee I hN hi hx r (λs' I'=>⟨_,H,I',h⟩) hf)
def Vo:TGs:=λvs σ H Q=>vs=[]∧Q σ H
def UL (t:TG)(u:TGs):TGs:=λvs σ H Q=>∃ v r,vs=v::r∧t v σ H fun σ' H'=>u r σ' H' Q
theorem Ph:PGs X [] Vo:=by
 intro pins s σ H vs us Q I r h
 obtain ⟨e,h⟩:=h
 subst e
 cases r
 exact assignInOrder_nil ⟨σ,H,I,h⟩
theorem Nf {e:Expr}{es:List Expr}{t:TG}{u:TGs}(h1:PG X e t)(h2:PGs X es u)
  (hs:(assignEach (e::es) X.env).map (·.2)=assign e X.env::(assignEach es X.env).map (·.2):=by rfl):PGs X (e::es) (UL t u):=by
 intro pins s σ H vs us Q I r h
 obtain ⟨v,vr,e1,h⟩:=h
 subst e1
 cases r with
 | cons r rr =>
  rw [hs]
  refine assignInOrder_cons (thn (h1 pins s σ H _ _ _ I r h) λ_ s1 ⟨σ1,H1,I1,q1⟩=>?_)
  exact h2 pins s1 σ1 H1 _ _ Q I1 rr q1
def Wf (K:PySem.W.Frag)(n:Nat)(t:TGs):TG:=λv σ H Q=>∃ a xs,v=.ref a∧SqT K H a xs∧xs.length=n∧t xs σ H Q
theorem Rl {es:List Expr}{k:Nat}{t:TGs}{n:Nat}(hc:X.calm=true)(h:PGs X es t)
  (hn:(assignEach es X.env).length=n:=by rfl) (hst:(assignEach es X.env).findIdx? (·.1)=none:=by rfl):PG X (.Tuple es k pos) (Wf X.K n t):=by
 intro pins s σ H v u Q I r hw
 obtain ⟨a,xs,e1,hq,hl,hw⟩:=hw
 subst e1
 cases r
 obtain ⟨its,rv,ht,hz⟩:=I.tuple hq
 refine assign_Tuple_tuple (I.ok.hd hc) ht (by simp [hn,← hl,rv.length]) hst λh' hx=>?_
 have I1:Inv X pins σ H { s with heap:=h' }:=I.kept (t':=s.toks) λb o e=>hx b o (AJ (Ax e)) e
 exact h pins _ σ H xs _ Q I1 (by simpa using rv) hw
def Vg (to ti:TE)(t:OL):TG:=λv σ H Q=>to σ H λo H1=>ti σ H1 λi H2=>t o i v H2 λH3=>Q σ H3
theorem SS {o i:Expr}{to ti:TE}{t:OL}(ho:PE X o to)(hi:PE X i ti)(hs:Pb X t)
  (ha:∀ v,assign (.Subscript o i pos) X.env v=(do
   let ov←holding [v] (eval o X.env)
   let iv←holding [v,ov] (eval i X.env)
   standAt pos
   holding [v,ov,iv] (setItem ov iv v)
   release [v,ov,iv] []):=by intro _;rfl):PG X (.Subscript o i pos) (Vg to ti t):=by
 intro pins s σ H v u Q I r h
 rw [ha]
 refine Aa (AS (thn (ho pins s σ H _ I h) λov s1 ⟨x,H1,I1,r1,q1⟩=>?_))
 refine Aa (AS (thn (hi pins s1 σ H1 _ I1 q1) λiv s2 ⟨y,H2,I2,r2,q2⟩=>?_))
 refine Aa (wpAny_standAt (Aa (AS (thn (hs pins s2 σ H2 x y v ov iv u _ I2 r1 r2 r q2) λ_ s3 ⟨H3,I3,q3⟩=>?_))))
 exact wpAny_release ⟨σ,H3,I3,q3⟩
def Rn (te:TE)(g:TG):TS:=λD σ H=>te σ H λx H1=>g x σ H1 D.nx
theorem R5 {tg e:Expr}{te:TE}{g:TG}(he:PE X e te)(hg:PG X tg g)(hs:swapsWithSole [tg] e pos.line X.env=pure false:=by rfl)(hw:swappedStores [tg] e X.env=pure none:=by rfl)
  (h1:(assignEach [tg] X.env).map (·.2)=[assign tg X.env]:=by rfl):PS X (.Assign [tg] e pos) (Rn te g):=by
 intro pins s σ H D I h
 refine wpAny_Assign_stores (thn (he pins s σ H _ I h) λv s1 ⟨x,H1,I1,r1,q1⟩=>?_) hs hw
 rw [h1]
 exact thn (hg pins s1 σ H1 x v _ I1 r1 q1) λ_ s2 q=>q
theorem RX {i:Nat}{x:Str}{e:Expr}{te:TE}{pos':Pos}(hN:X.N.Nodup)(hi:X.N[i]? = some x)(hx:Loc X.env.scope x)(he:PE X e te)(hs:swapsWith e (some (.Name x pos')) pos.line X.env=pure false:=by rfl)(hf:X.fn x=true∨X.env.scope.names.lookup x=some .local:=by first|exact .inl rfl|exact .inr rfl|assumption) :
  PS X (.Assign [.Name x pos'] e pos) (Rn te (QX i)):=by
 intro pins s σ H D I h
 refine wpAny_Assign_Name (thn (he pins s σ H _ I h) λv s1 ⟨y,H1,I1,r1,q1⟩=>?_) hs
 exact Ee I1 hN hi hx r1 (λs2 I2=>⟨_,H1,I2,q1⟩) hf
end
structure It where
 go:Nat->Hp->Prop
 yld:Nat->Hp->V->Hp->Prop
 stop:Nat->Hp->Prop
def GC (X:Cx)(pins:List (Addr×Obj))(H:Hp)(b:Addr):Prop:=
 H b=none∧b≠X.env.locals∧b∉X.fs∧(b∈X.ex∨X.s₀.heap.objs.size≤b)∧(∀ x c,X.env.cells.lookup x=some c->c≠b)∧∀ p∈X.pn++pins,p.1≠b
theorem Inv.fpOk {X:Cx}{pins:List (Addr×Obj)}{σ:St}{H H':Hp}{s:Shared}{b:Addr}(I:Inv X pins σ H s)(hb:s.heap.objs.size≤b)(hn:H' b=none):GC X pins H' b:=by
 refine ⟨hn,Nat.ne_of_gt (AD I.lt hb),I.nofs hb,.inr (AM I.sz hb),λx c e z=>?_,λp hp z=>?_⟩
 ·obtain ⟨v,q⟩:=I.cell x c e
  exact absurd (AD q.lt (by rw [z];exact hb)) (Bq _)
 ·exact absurd (AD (Ax (I.pin p hp).1) (by rw [z];exact hb)) (Bq _)
structure Turn (P:Program) (w:World) (K:PySem.W.Frag) (tg:Expr) (J:It) (fp:List Addr) (it:Addr) (tn:Nat->Heap->Prop):Prop where
 mem:it∈fp
 obj:∀ i h,tn i h->∀ b∈fp,∃ o,h.get? b=some o∧∀ v,o.data≠.cell v
 keep:∀ i h h',tn i h->(∀ b∈fp,∀ o,h.get? b=some o->h'.get? b=some o)->tn i h'
 item:∀ (X:Cx),X.prog=P->X.w=w->X.K=K->X.calm=true->∀ (i:Nat) (pins:List (Addr×Obj)) (s:Shared) (σ:St) (H:Hp) (E:Value->Shared->Prop),Inv X pins σ H s->(∀ b∈fp,GC X pins H b)->tn i s.heap->J.go i H ->
  wpAny (model P w) X.A (pyNext (.ref it)) (λr s1=>∃ u,r=some u ∧
   wpAny (model P w) X.A (letOwnedTupleGo tg (.ref it) u) (λ_ s2=>∃ x H',Inv X pins σ H' s2∧RelV x u∧J.yld i H x H'∧tn (i+1) s2.heap∧∀ b∈fp,H' b=none) E s1) E s
 done:∀ (X:Cx),X.prog=P->X.w=w->X.K=K->X.calm=true->∀ (i:Nat) (pins:List (Addr×Obj)) (s:Shared) (σ:St) (H:Hp) (E:Value->Shared->Prop),Inv X pins σ H s->(∀ b∈fp,GC X pins H b)->tn i s.heap->J.stop i H ->
  wpAny (model P w) X.A (pyNext (.ref it)) (λr s1=>r=none∧Inv X pins σ H s1) E s
 self:∀ (A:Around) (i:Nat) (s:Shared) (Q:Value->Shared->Prop) (E:Value->Shared->Prop),tn i s.heap->Q (.ref it) s->wpAny (model P w) A (pyIter (.ref it)) Q E s
abbrev TI:=St->Hp->(It->Hp->Prop)->Prop
def PIE (X:Cx)(pins:List (Addr×Obj))(σ:St)(tg:Expr)(R:It->Hp->Prop)(itv:Value)(s2:Shared):Prop:=
 ∃ (it:Addr) (fp:List Addr) (tn:Nat->Heap->Prop) (J:It) (H':Hp),itv=.ref it∧Inv X pins σ H' s2∧Turn X.prog X.w X.K tg J fp it tn∧tn 0 s2.heap∧(∀ b∈fp,GC X pins H' b)∧R J H'
def PI (X:Cx)(tg iter:Expr)(wi:TI):Prop:=
 ∀ (pins:List (Addr×Obj)) (s:Shared) (σ:St) (H:Hp) (R:It->Hp->Prop),Inv X pins σ H s->wi σ H R ->
  wpAny (model X.prog X.w) X.A (eval iter X.env) (λv s1=>wpAny (model X.prog X.w) X.A (pyIter v) (PIE X pins σ tg R) X.xe s1) X.xe s
theorem LA {M:Model}{A:Around}{E:Value->Shared->Prop}{s:Shared}{tg:Expr}{it:Addr}{u:Value}{o:Obj}{n:String}{vs:Array Value}{Q:Unit->Shared->Prop}(ho:s.heap.get? it=some o)(hc:o.cls=.type n)(hd:o.data=.fields vs)
  (hn:["enumerate","zip","dict_itemiterator","dict_reverseitemiterator","odict_iterator","itertools.zip_longest","itertools.pairwise"].contains n=false) (hQ:Q () s):wpAny M A (letOwnedTupleGo tg (.ref it) u) Q E s:=by
 unfold letOwnedTupleGo
 cases tg<;>first
  | exact Ac hQ
  | (cases u<;>first
    | exact Ac hQ
    | (refine Aa (wpAny_load ho ?_);rw [hc,hd];show wpAny M A (if (["enumerate","zip","dict_itemiterator","dict_reverseitemiterator","odict_iterator","itertools.zip_longest","itertools.pairwise"].contains n&&vs[0]?==some (rawInt _))=true then _ else _) Q E s;rw [if_neg (by intro h;rw [hn,Bool.false_and] at h;cases h)];exact Ac hQ))
noncomputable def Itl (K:PySem.W.Frag)(a:Addr):It:=
 ⟨λi H=>∃ xs x,SqL K H a xs∧xs[i]? = some x,λi H x H'=>H'=H∧∀ xs,SqL K H a xs->xs[i]? = some x,λi H=>∃ xs,SqL K H a xs∧xs.length≤i⟩
noncomputable def Itt (K:PySem.W.Frag)(a:Addr):It:=
 ⟨λi H=>∃ xs x,SqT K H a xs∧xs[i]? = some x,λi H x H'=>H'=H∧∀ xs,SqT K H a xs->xs[i]? = some x,λi H=>∃ xs,SqT K H a xs∧xs.length≤i⟩
noncomputable def Itr (lo:Int)(n:Nat):It:=⟨λi _=>i<n,λi H x H'=>H'=H∧x=.int (lo+i),λi _=>n≤i⟩
theorem MM {P:Program}{w:World}{K:PySem.W.Frag}{tg:Expr}(a it:Addr):Turn P w K tg (Itl K a) [it] it (λi h=>h.IsListIter it a i) where
 mem:=by simp
 obj:=λi h st b hb=>by
  have e:b=it:=by simpa using hb
  subst e
  obtain ⟨o,e,c,d⟩:=st
  exact ⟨o,e,λv z=>by rw [d] at z;cases z⟩
 keep:=λi h h' st k=>st.at λo e=>k it (by simp) o e
 item:=by
  intro X hP hw hK hc i pins s σ H E I hf st hg
  subst hP hw hK
  obtain ⟨xs,x,hq,hx⟩:=hg
  obtain ⟨its,rv,p,hz⟩:=I.list hq
  obtain ⟨u,hu,ru⟩:=rv.get hx
  obtain ⟨f0,f1,f2,f3,f4,f5⟩:=hf it (by simp)
  refine wpAny_pyNext_list_item st p.isList (x:=u) (by simpa using hu) λh' st' sb=>?_
  have I1:Inv X pins σ H { s with heap:=h' }:=I.turned (t':=s.toks) (λb o hb e=>(sb.2 b hb).trans e) f0 f1 f3 f4 f5
  obtain ⟨o,e,c,d⟩:=id st'
  exact ⟨u,rfl,LA (s:={ s with heap:=h' }) e c d (by decide) ⟨x,H,I1,ru,⟨rfl,λys hy=>by rw [I.list_inj hy hq];exact hx⟩,st',λb hb=>(hf b hb).1⟩⟩
 done:=by
  intro X hP hw hK hc i pins s σ H E I hf st hg
  subst hP hw hK
  obtain ⟨xs,hq,hx⟩:=hg
  obtain ⟨its,rv,p,hz⟩:=I.list hq
  obtain ⟨f0,f1,f2,f3,f4,f5⟩:=hf it (by simp)
  have hl:=rv.length
  exact wpAny_pyNext_list_end (I.ok.hd hc) st p.isList (by simp;ext) λh' eb=>⟨rfl,I.turned (t':=s.toks) (λb o hb e=>eb b o hb e) f0 f1 f3 f4 f5⟩
 self:=λ_ _ _ _ _ st h=>wpAny_pyIter_listiter st h
theorem KH {P:Program}{w:World}{K:PySem.W.Frag}{tg:Expr}(a it:Addr):Turn P w K tg (Itt K a) [it] it (λi h=>h.IsTupleIter it a i) where
 mem:=by simp
 obj:=λi h st b hb=>by
  have e:b=it:=by simpa using hb
  subst e
  obtain ⟨o,e,c,d⟩:=st
  exact ⟨o,e,λv z=>by rw [d] at z;cases z⟩
 keep:=λi h h' st k=>st.at λo e=>k it (by simp) o e
 item:=by
  intro X hP hw hK hc i pins s σ H E I hf st hg
  subst hP hw hK
  obtain ⟨xs,x,hq,hx⟩:=hg
  obtain ⟨its,rv,p,hz⟩:=I.tuple hq
  obtain ⟨u,hu,ru⟩:=rv.get hx
  obtain ⟨f0,f1,f2,f3,f4,f5⟩:=hf it (by simp)
  refine wpAny_pyNext_tuple_item st (show s.heap.IsTuple a its.toArray from p) (x:=u) (by simpa using hu) λh' st' sb=>?_
  have I1:Inv X pins σ H { s with heap:=h' }:=I.turned (t':=s.toks) (λb o hb e=>(sb.2 b hb).trans e) f0 f1 f3 f4 f5
  obtain ⟨o,e,c,d⟩:=id st'
  exact ⟨u,rfl,LA (s:={ s with heap:=h' }) e c d (by decide) ⟨x,H,I1,ru,⟨rfl,λys hy=>by rw [I.tuple_inj hy hq];exact hx⟩,st',λb hb=>(hf b hb).1⟩⟩
 done:=by
  intro X hP hw hK hc i pins s σ H E I hf st hg
  subst hP hw hK
  obtain ⟨xs,hq,hx⟩:=hg
  obtain ⟨its,rv,p,hz⟩:=I.tuple hq
  obtain ⟨f0,f1,f2,f3,f4,f5⟩:=hf it (by simp)
  have hl:=rv.length
  exact wpAny_pyNext_tuple_end (I.ok.hd hc) st (show s.heap.IsTuple a its.toArray from p) (by simp;ext) λh' eb=>⟨rfl,I.turned (t':=s.toks) (λb o hb e=>eb b o hb e) f0 f1 f3 f4 f5⟩
 self:=λ_ _ _ _ _ st h=>wpAny_pyIter_tupleiter st h
theorem Kl {P:Program}{w:World}{K:PySem.W.Frag}{tg:Expr}(it:Addr)(lo:Int)(n:Nat):Turn P w K tg (Itr lo n) [it] it (λi h=>IsRangeIter h it (lo+(i:Nat)*1) ((n:Int)-(i:Nat)) 1) where
 mem:=by simp
 obj:=λi h st b hb=>by
  have e:b=it:=by simpa using hb
  subst e
  exact ⟨_,st,λv z=>by
   have z':Data.fields _=Data.cell v:=z
   cases z'⟩
 keep:=λi h h' st k=>k it (by simp) _ st
 item:=by
  intro X hP hw hK hc i pins s σ H E I hf st hg
  subst hP hw hK
  obtain ⟨f0,f1,f2,f3,f4,f5⟩:=hf it (by simp)
  have W:=Walks.range (prog:=X.prog) (w:=X.w) (I.ok.hd hc) it lo 1 n
  refine W.item i s _ _ hg st λv h' tk hv st' kk=>?_
  obtain ⟨t,rfl⟩:=hv
  have I1:Inv X pins σ H { s with heap:=h',toks:=tk }:=I.turned (λb o hb e=>kk b o (by simpa using hb) e) f0 f1 f3 f4 f5
  refine ⟨_,rfl,LA (s:={ s with heap:=h',toks:=tk }) (n:="range_iterator") st' rfl rfl (by decide) ⟨.int (lo+i),H,I1,⟨t,?_⟩,⟨rfl,rfl⟩,st',λb hb=>(hf b hb).1⟩⟩
  rw [Int.mul_one]
 done:=by
  intro X hP hw hK hc i pins s σ H E I hf st hg
  subst hP hw hK
  obtain ⟨f0,f1,f2,f3,f4,f5⟩:=hf it (by simp)
  exact wpAny_pyNext_range_end (I.ok.hd hc) st (by have:n≤i:=hg;ext) λh' eb=>⟨rfl,I.turned (t':=s.toks) (λb o hb e=>eb b o hb e) f0 f1 f3 f4 f5⟩
 self:=λ_ _ _ _ _ st h=>wpAny_pyIter_rangeiter st h
section
variable {X:Cx} {tg:Expr}
def Uo (K:PySem.W.Frag)(tl:TE):TI:=fun σ H R=>tl σ H λx H1=>∃ a,x=.ref a∧(∃ xs,SqL K H1 a xs)∧R (Itl K a) H1
def VW (K:PySem.W.Frag)(tl:TE):TI:=fun σ H R=>tl σ H λx H1=>∃ a,x=.ref a∧(∃ xs,SqT K H1 a xs)∧R (Itt K a) H1
theorem L4 {l:Expr}{tl:TE}(hl:PE X l tl):PI X tg l (Uo X.K tl):=by
 intro pins s σ H R I h
 refine thn (hl pins s σ H _ I h) λv s1 ⟨x,H1,I1,r1,q1⟩=>?_
 obtain ⟨a,e,⟨xs,hq⟩,q⟩:=q1
 subst e
 cases r1
 obtain ⟨its,rv,p,hz⟩:=I1.list hq
 refine wpAny_pyIter_list p.isList ?_
 refine ⟨s1.heap.objs.size,[s1.heap.objs.size],_,_,H1,rfl,I1.kept (t':=s1.toks) λb o e=>Af _ e,MM a _,⟨_,Av _ rfl,rfl,rfl⟩,λb hb=>?_,q⟩
 have e:b=s1.heap.objs.size:=by simpa using hb
 subst e
 exact I1.fpOk (Ak _) (I1.hok.fresh (Ak _))
theorem Rk {l:Expr}{tl:TE}(hl:PE X l tl):PI X tg l (VW X.K tl):=by
 intro pins s σ H R I h
 refine thn (hl pins s σ H _ I h) λv s1 ⟨x,H1,I1,r1,q1⟩=>?_
 obtain ⟨a,e,⟨xs,hq⟩,q⟩:=q1
 subst e
 cases r1
 obtain ⟨its,rv,p,hz⟩:=I1.tuple hq
 refine wpAny_pyIter_tuple (show s1.heap.IsTuple a its.toArray from p) ?_
 refine ⟨s1.heap.objs.size,[s1.heap.objs.size],_,_,H1,rfl,I1.kept (t':=s1.toks) λb o e=>Af _ e,KH a _,⟨_,Av _ rfl,rfl,rfl⟩,λb hb=>?_,q⟩
 have e:b=s1.heap.objs.size:=by simpa using hb
 subst e
 exact I1.fpOk (Ak _) (I1.hok.fresh (Ak _))
theorem Ou {pins:List (Addr×Obj)}{σ:St}{H:Hp}{s:Shared}{R:It->Hp->Prop}{E:Value->Shared->Prop}{lo hi:Int}{t u v:Tok}{tk:Nat}(I:Inv X pins σ H s)(h1:-(2 ^ 62)≤lo)(h2:lo<2 ^ 62)(h3:-(2 ^ 62)≤hi)(h4:hi<2 ^ 62)
  (q:R (Itr lo (hi-lo).toNat) H):wpAny (model X.prog X.w) X.A (pyIter (.ref s.heap.objs.size)) (PIE X pins σ tg R) E { s with heap:=s.heap.push { cls:=.type "range",data:=.fields #[.int lo t,.int hi u,.int 1 v] },toks:=tk }:=by
 refine wpAny_pyIter_range (IsRange.new ..) (small_one h1 h2 h3 h4) ?_
 have I1:Inv X pins σ H { s with heap:=s.heap.push { cls:=.type "range",data:=.fields #[.int lo t,.int hi u,.int 1 v] },toks:=tk }:=I.kept λb o e=>Af _ e
 refine ⟨(s.heap.push { cls:=.type "range",data:=.fields #[.int lo t,.int hi u,.int 1 v] }).objs.size,[(s.heap.push { cls:=.type "range",data:=.fields #[.int lo t,.int hi u,.int 1 v] }).objs.size],_,_,H,rfl,
  I1.kept (t':=tk) λb o e=>Af _ e,Kl _ lo (hi-lo).toNat,?_,λb hb=>?_,q⟩
 ·have e1:lo+((0:Nat):Int)*1=lo:=by simp
  have e2:(((hi-lo).toNat:Nat):Int)-((0:Nat):Int)=Builtin.Range.rangeSize lo hi 1:=by rw [rangeSize_one];split<;>ext
  show IsRangeIter _ _ (lo+((0:Nat):Int)*1) ((((hi-lo).toNat:Nat):Int)-((0:Nat):Int)) 1
  rw [e1,e2]
  exact Av _ rfl
 ·have e:b=(s.heap.push { cls:=.type "range",data:=.fields #[.int lo t,.int hi u,.int 1 v] }).objs.size:=by simpa using hb
  subst e
  exact I1.fpOk (Ak _) (I1.hok.fresh (Ak _))
def TB (ta:TA):TI:=fun σ H R=>ta σ H λvs H1=>∃ j:Int,vs=[.int j]∧-(2 ^ 62)≤j∧j<2 ^ 62∧R (Itr 0 j.toNat) H1
theorem MS {a:Expr}{ta:TA}{p pos:Pos}(hg:Gl X "range")(hm:X.mg "range"=none)(ha:PA X [a] ta)(hs:starEach [a] X.env=[(false,eval a X.env)]:=by rfl):PI X tg (.Call (.Name "range" p) [a] [] pos) (TB ta):=by
 intro pins s σ H R I h
 refine Call_ (Jd I hg hm boot_range (PyProof.Rows.callWith_type1 (thn (ha pos pins s σ H _ I h) λus s1 ⟨vs,H1,I1,r1,q1⟩=>?_) hs rfl))
 obtain ⟨j,e,q1,q2,q⟩:=q1
 subst e
 cases r1 with
 | cons r rr =>
  cases rr
  obtain ⟨t,rfl⟩:=r
  exact call_range_1 (Ou I1 (by ext) (by ext) q1 q2 (by simpa using q))
def Vt (wi:TI)(g:TG)(tb:TS):TS:=λD σ H=>wi σ H λJ H1=>∃ W:Nat->Nat->St->Hp->Prop,(∃ m,W 0 m σ H1)∧∀ i m σ H,W i m σ H ->
 (J.stop i H∧D.nx σ H)∨(J.go i H∧∃ N:St->Hp->Prop,(∀ σ' H',N σ' H'->∃ m',m'<m∧W (i+1) m' σ' H')∧∀ x H',J.yld i H x H'->g x σ H' fun σ2 H2=>tb { D with nx:=N,ct:=N,bk:=D.nx } σ2 H2)
noncomputable def F0 (fp:List Addr)(h:Heap):List (Addr×Obj):=fp.filterMap λb=>(h.get? b).map λo=>(b,o)
theorem E5 {fp:List Addr}{h:Heap}{b:Addr}{o:Obj}(hb:b∈fp)(e:h.get? b=some o):(b,o)∈F0 fp h:=List.mem_filterMap.mpr ⟨b,hb,by rw [e];rfl⟩
theorem Ie {fp:List Addr}{h:Heap}{p:Addr×Obj}(hp:p∈F0 fp h):p.1∈fp∧h.get? p.1=some p.2:=by
 obtain ⟨b,hb,e⟩:=List.mem_filterMap.mp hp
 cases q:h.get? b with
 | none=>rw [q] at e;cases e
 | some o =>
  rw [q] at e
  have e':(b,o)=p:=AB e
  subst e'
  exact ⟨hb,q⟩
theorem Inv.pinned {pins:List (Addr×Obj)}{σ:St}{H:Hp}{s:Shared}{fp:List Addr}(I:Inv X pins σ H s)(hf:∀ b∈fp,GC X pins H b)(ho:∀ b∈fp,∃ o,s.heap.get? b=some o∧∀ v,o.data≠.cell v):Inv X (pins++F0 fp s.heap) σ H s:=
 I.pins_of λp hp=>(AA.mp hp).elim (λz=>I.pin p (As _ z)) λz=>by
  obtain ⟨hb,e⟩:=Ie z
  obtain ⟨f0,f1,f2,_⟩:=hf p.1 hb
  obtain ⟨o,e',d⟩:=ho p.1 hb
  rw [e] at e';cases e'
  exact ⟨e,f0,f1,f2,d⟩
theorem Inv.unpinned {pins pl:List (Addr×Obj)}{σ:St}{H:Hp}{s:Shared}(I:Inv X (pins++pl) σ H s):Inv X pins σ H s:=I.pins_of λp hp=>I.pin p (As _ (AK _ hp))
theorem Sj {iter:Expr}{body:List Stmt}{wi:TI}{g:TG}{tb:TS}{pos:Pos}(hp:PassesOwn (model X.prog X.w) X.A X.env X.xe)(hc:X.calm=true)(hi:PI X tg iter wi)(hg:PG X tg g)(hb:PSs X body tb)
  (hs:∀ x,foldedSetIterable iter X.env x=pure x:=by intro _;rfl):PS X (.For tg iter body [] pos) (Vt wi g tb):=by
 intro pins s σ H D I h
 refine wpAny_For (thn (hi pins s σ H _ I h) λv s1 h1=>thn h1 λitv s2 h2=>?_) hs
 obtain ⟨it,fp,tn,J,H2,e,I2,T,st2,f2,W,⟨m0,w0⟩,turn⟩:=h2
 subst e
 have stat:∀ {H':Hp},(∀ b∈fp,H' b=none)->∀ b∈fp,GC X pins H' b:=λhn b hb=>⟨hn b hb,(f2 b hb).2⟩
 refine codeAny_forLoop_any (λn s'=>∃ i σ' H',Inv X pins σ' H' s'∧tn i s'.heap∧(∀ b∈fp,H' b=none)∧W i n σ' H') ?_ m0 ⟨0,σ,H2,I2,st2,λb hb=>(f2 b hb).1,w0⟩
 rintro n s3 ⟨i,σ3,H3,I3,st3,fr3,w3⟩
 rcases turn i n σ3 H3 w3 with ⟨stop,qn⟩|⟨go,N,hN,step⟩
 ·refine wpAny_passesOwn hp (thn (T.done X rfl rfl rfl hc i pins s3 σ3 H3 X.xe I3 (stat fr3) st3 stop) λr s4 ⟨hr,I4⟩=>?_)
  subst hr
  exact wpAny_execs_nil ⟨σ3,H3,I4,qn⟩
 ·refine wpAny_passesOwn hp (thn (T.item X rfl rfl rfl hc i pins s3 σ3 H3 X.xe I3 (stat fr3) st3 go) λr s4 ⟨u,hr,h4⟩=>?_)
  subst hr
  refine wpAny_passesOwn hp (thn h4 λ_ s5 ⟨x,H5,I5,r5,y5,st5,fr5⟩=>?_)
  have I5':=I5.pinned (stat fr5) (T.obj _ _ st5)
  refine wpAny_passesOwn hp (thn (hg _ s5 σ3 H5 x u _ I5' r5 (step x H5 y5)) λ_ s6 ⟨σ6,H6,I6,q6⟩=>?_)
  refine wpAny_passesOwn hp (thn (hb _ s6 σ6 H6 _ I6 q6) λf s7 q7=>?_)
  have again:∀ {σ7:St} {H7:Hp},Inv X (pins++F0 fp s5.heap) σ7 H7 s7->N σ7 H7->∃ m,m<n∧∃ i σ' H',Inv X pins σ' H' s7∧tn i s7.heap∧(∀ b∈fp,H' b=none)∧W i m σ' H':=λ{σ7 H7} I7 n7=>by
   obtain ⟨m',hm,w7⟩:=hN σ7 H7 n7
   refine ⟨m',hm,i+1,σ7,H7,I7.unpinned,T.keep _ _ _ st5 λb hb o e=>(I7.pin (b,o) (As _ (As _ (E5 hb e)))).1,λb hb=>?_,w7⟩
   obtain ⟨o,e,d⟩:=T.obj _ _ st5 b hb
   exact (I7.pin (b,o) (As _ (As _ (E5 hb e)))).2.1
  cases f with
  | next=>obtain ⟨σ7,H7,I7,n7⟩:=q7;exact again I7 n7
  | cont=>obtain ⟨σ7,H7,I7,n7⟩:=q7;exact again I7 n7
  | brk=>obtain ⟨σ7,H7,I7,q7⟩:=q7;exact ⟨σ7,H7,I7.unpinned,q7⟩
  | ret v=>obtain ⟨x7,σ7,H7,I7,r7,q7⟩:=q7;exact ⟨x7,σ7,H7,I7.unpinned,r7,q7⟩
end
abbrev R2:=V->V->Hp->VK->Prop
def OpR (X:Cx)(f:Value->Value->Sem Value)(r:R2):Prop:=
 ∀ (pins:List (Addr×Obj)) (s:Shared) (σ:St) (H:Hp) (x y:V) (v u:Value) (Q:VK),Inv X pins σ H s->RelV x v->RelV y u->r x y H Q ->
  wpAny (model X.prog X.w) X.A (f v u) (EP X pins σ Q) X.xe s
def EB (X:Cx)(f:Value)(r:List V->Hp->VK->Prop):Prop:=
 ∀ (pins:List (Addr×Obj)) (s:Shared) (σ:St) (H:Hp) (xs:List V) (us:List Value) (Q:VK),Inv X pins σ H s->Vals xs us->r xs H Q ->
  wpAny (model X.prog X.w) X.A (call f us) (EP X pins σ Q) X.xe s
def tOp (r:R2)(ta tb:TE):TE:=fun σ H Q=>ta σ H λx H1=>tb σ H1 λy H2=>r x y H2 Q
def rI (C:Int->Int->Prop)(g:Int->Int->V):R2:=λx y H Q=>∃ i j,x=.int i∧y=.int j∧C i j∧Q (g i j) H
def rI0 (g:Int->Int->V):R2:=λx y H Q=>∃ i j,x=.int i∧y=.int j∧Q (g i j) H
section
variable {X:Cx} {a b c:Expr} {ta tb tc:TE} {pos:Pos}
theorem Si (ha:PE X a ta)(hb:PE X b tb){pins:List (Addr×Obj)}{s:Shared}{σ:St}{H:Hp}{R:V->V->Hp->Prop}(I:Inv X pins σ H s)
  (h:ta σ H λx H1=>tb σ H1 λy H2=>R x y H2) {Q:Value->Shared->Prop} {f:Value->Value->Sem Value}
  (hf:∀ v u s2 x y H2,Inv X pins σ H2 s2->RelV x v->RelV y u->R x y H2->wpAny (model X.prog X.w) X.A (f v u) Q X.xe s2) :
  wpAny (model X.prog X.w) X.A (eval a X.env) (λv s₁=>wpAny (model X.prog X.w) X.A (eval b X.env) (λu s₂=>wpAny (model X.prog X.w) X.A (f v u) Q X.xe s₂) X.xe s₁) X.xe s:=by
 refine thn (ha pins s σ H _ I h) λv s1 ⟨x,H1,I1,r1,q1⟩=>?_
 refine thn (hb pins s1 σ H1 _ I1 q1) λu s2 ⟨y,H2,I2,r2,q2⟩=>?_
 exact hf v u s2 x y H2 I2 r1 r2 q2
theorem T7 {op:Operator}{r:R2}(ho:OpR X (binaryOp op) r)(ha:PE X a ta)(hb:PE X b tb):PE X (.BinOp a op b pos) (tOp r ta tb):=by
 intro pins s σ H Q I h
 exact wpAny_BinOp (Si ha hb I h λv u s2 x y H2 I2 rx ry q=>ho pins s2 σ H2 x y v u Q I2 rx ry q)
theorem opI {f:Value->Value->Sem Value}{C:Int->Int->Prop}{g:Int->Int->Int}
  (rule:∀ (i j:Int) (t u:Tok) (s:Shared) (Q:Value->Shared->Prop) (E:Value->Shared->Prop),C i j->Q (.int (g i j) s.toks) { s with toks:=s.toks+1 }->wpAny (model X.prog X.w) X.A (f (.int i t) (.int j u)) Q E s) :
  OpR X f (rI C λi j=>.int (g i j)):=by
 intro pins s σ H x y v u Q I rx ry h
 obtain ⟨i,j,rfl,rfl,hc,q⟩:=h
 obtain ⟨t,rfl⟩:=rx
 obtain ⟨t',rfl⟩:=ry
 exact rule i j t t' s _ _ hc ⟨.int (g i j),H,I.tok _,⟨_,rfl⟩,q⟩
theorem UQ {f:Value->Value->Sem Value}{g:Int->Int->Int}
  (rule:∀ (i j:Int) (t u:Tok) (s:Shared) (Q:Value->Shared->Prop) (E:Value->Shared->Prop),Q (.int (g i j) s.toks) { s with toks:=s.toks+1 }->wpAny (model X.prog X.w) X.A (f (.int i t) (.int j u)) Q E s) :
  OpR X f (rI0 λi j=>.int (g i j)):=by
 intro pins s σ H x y v u Q I rx ry h
 obtain ⟨i,j,rfl,rfl,q⟩:=h
 obtain ⟨t,rfl⟩:=rx
 obtain ⟨t',rfl⟩:=ry
 exact rule i j t t' s _ _ ⟨.int (g i j),H,I.tok _,⟨_,rfl⟩,q⟩
theorem UZ {f:Value->Value->Sem Value}{g:Int->Int->Bool}
  (rule:∀ (i j:Int) (t u:Tok) (s:Shared) (Q:Value->Shared->Prop) (E:Value->Shared->Prop),Q (.bool (g i j)) s->wpAny (model X.prog X.w) X.A (f (.int i t) (.int j u)) Q E s) :
  OpR X f (rI0 λi j=>.bl (g i j)):=by
 intro pins s σ H x y v u Q I rx ry h
 obtain ⟨i,j,rfl,rfl,q⟩:=h
 obtain ⟨t,rfl⟩:=rx
 obtain ⟨t',rfl⟩:=ry
 exact rule i j t t' s _ _ ⟨.bl (g i j),H,I,rfl,q⟩
def IP (i j:Int):Prop:=0<j∧j<1073741824
def L8 (i j:Int):Prop:=0≤j∧j≤1000000∧i.natAbs<2 ^ 64
def CMul (i j:Int):Prop:=(-(2 ^ 64)<i∧i<2 ^ 64)∨(-(2 ^ 64)<j∧j<2 ^ 64)
theorem CMul.ok {i j:Int}(h:CMul i j):IntMulOk i j:=by
 rcases h with ⟨h1,h2⟩|⟨h1,h2⟩
 ·exact .of_left (intBits_le_64 h1 h2)
 ·exact .of_right (intBits_le_64 h1 h2)
theorem Q5:OpR X (binaryOp .Add) (rI0 λi j=>.int (i+j)):=UQ λ_ _ _ _ _ _ _ q=>add_int q
theorem Q4:OpR X (binaryOp .Sub) (rI0 λi j=>.int (i-j)):=UQ λ_ _ _ _ _ _ _ q=>sub_int q
theorem So:OpR X (binaryOp .Mult) (rI CMul λi j=>.int (i*j)):=opI λ_ _ _ _ _ _ _ hc q=>mul_int q hc.ok
theorem O8:OpR X (binaryOp .FloorDiv) (rI IP λi j=>.int (i / j)):=opI λi j _ _ _ _ _ hc q=>by
 have h1:(0:Int)<j:=hc.1
 have h2:j<1073741824:=hc.2
 exact floordiv_int (by ext) (by rw [Int.fdiv_eq_ediv_of_nonneg i (by ext)];exact q) (.inl (PyProof.noPylong_small (by ext)))
theorem Sg:OpR X (binaryOp .Mod) (rI (λ_ j=>0<j) λi j=>.int (i % j)):=opI λi j _ _ _ _ _ hc q=>by
 have h1:(0:Int)<j:=hc
 exact mod_int' (by ext) (by rw [Int.fmod_eq_emod_of_nonneg i (by ext)];exact q)
theorem SJ:OpR X (binaryOp .Pow) (rI L8 λi j=>.int (i ^ j.toNat)):=opI λ_ _ _ _ _ _ _ hc q=>pow_int_small hc.1 hc.2.1 hc.2.2 q
theorem RN {pins:List (Addr×Obj)}{σ:St}{H:Hp}{s:Shared}{Q:VK}{k k':Bool}(I:Inv X pins σ H s)(q:Q (.bl k) H)(e:k=k'):EP X pins σ Q (.bool k') s:=by
 subst e
 exact ⟨.bl k,H,I,rfl,q⟩
theorem UP:OpR X (compareOp .Gt) (rI0 λi j=>.bl (decide (j<i))):=UZ λ_ _ _ _ _ _ _ q=>gt_int q
theorem TV:OpR X (compareOp .GtE) (rI0 λi j=>.bl (decide (j≤i))):=UZ λ_ _ _ _ _ _ _ q=>ge_int q
theorem ID:OpR X (compareOp .NotIn) (λx y H Q=>∃ i j,x=.str i∧y=.str j∧Q (.bl (!(!(Builtin.Str.occurrences j i 0 j.length 1).isEmpty))) H):=by
 intro pins s σ H x y v u Q I rx ry h
 obtain ⟨i,j,rfl,rfl,q⟩:=h
 obtain ⟨t,rfl⟩:=rx
 obtain ⟨t',rfl⟩:=ry
 exact notIn_str (RN I q rfl)
theorem Od (b:Expr){op:CmpOp}(h:op≠.In:=by decide)(h2:op≠.NotIn:=by decide):behindInMarks op b=false:=by
 have e1:(op==CmpOp.In)=false:=by cases op<;>first|rfl|exact absurd rfl h
 have e2:(op==CmpOp.NotIn)=false:=by cases op<;>first|rfl|exact absurd rfl h2
 cases b<;>simp [behindInMarks,e1,e2]
theorem OX {op:CmpOp}{r:R2}(ho:OpR X (compareOp op) r)(ha:PE X a ta)(hb:PE X b tb)(hm:behindInMarks op b=false):PE X (.Compare a [op] [b] pos) (tOp r ta tb):=by
 intro pins s σ H Q I h
 exact wpAny_Compare1 (Si ha hb I h λv u s2 x y H2 I2 rx ry q=>ho pins s2 σ H2 x y v u Q I2 rx ry q) hm
def QD (t:TE):TT:=fun σ H Q=>t σ H λx H'=>∃ k,x=.bl k∧Q k H'
theorem PL {op:CmpOp}{r:R2}(ho:OpR X (compareOp op) r)(ha:PE X a ta)(hb:PE X b tb)(hm:behindInMarks op b=false):PT X (.Compare a [op] [b] pos) (QD (tOp r ta tb)):=by
 intro pins s σ H Q I h
 refine wpAny_isTrue_Compare1 (thn (ha pins s σ H _ I h) λv s1 ⟨x,H1,I1,r1,q1⟩=>thn (hb pins s1 σ H1 _ I1 q1) λu s2 ⟨y,H2,I2,r2,q2⟩ =>
  thn (ho pins s2 σ H2 x y v u _ I2 r1 r2 q2) λc s3 ⟨z,H3,I3,r3,k,e,q3⟩=>?_) hm
 subst e
 cases r3
 exact wpAny_truthy_bool ⟨H3,I3,q3⟩
theorem Gr:(sizeLine:Nat)<2 ^ 63:=by rw [AR];decide
theorem KL:OpR X (binaryOp .Add) (λx y H Q=>∃ i j,x=.str i∧y=.str j∧i.length+j.length≤sizeLine∧Q (.str (i++j)) H):=by
 intro pins s σ H x y v u Q I rx ry h
 obtain ⟨i,j,rfl,rfl,hz,q⟩:=h
 obtain ⟨t,rfl⟩:=rx
 obtain ⟨t',rfl⟩:=ry
 exact add_str (λt' tk=>⟨.str (i++j),H,I.tok _,⟨_,rfl⟩,q⟩) hz
theorem vals1 {x:V}{us:List Value}(r:Vals [x] us):∃ u,us=[u]∧RelV x u:=by
 cases r with
 | cons r1 r2=>cases r2;exact ⟨_,rfl,r1⟩
theorem vals2 {x y:V}{us:List Value}(r:Vals [x,y] us):∃ u w',us=[u,w']∧RelV x u∧RelV y w':=by
 cases r with
 | cons r1 r2 =>
  cases r2 with
  | cons r3 r4=>cases r4;exact ⟨_,_,rfl,r1,r3⟩
theorem MQ (hc:X.calm=true):EB X (.builtin "max") (λxs H Q=>∃ i j,xs=[.int i,.int j]∧Q (.int (if j > i then j else i)) H):=by
 intro pins s σ H xs us Q I r h
 obtain ⟨i,j,rfl,q⟩:=h
 obtain ⟨u,w',rfl,⟨t,rfl⟩,⟨t',rfl⟩⟩:=vals2 r
 refine max_two_ints (I.ok.hd hc) λh' tk k=>⟨_,H,I.kept k,?_,q⟩
 by_cases hj:j > i
 ·rw [if_pos hj,if_pos hj];exact ⟨_,rfl⟩
 ·rw [if_neg hj,if_neg hj];exact ⟨_,rfl⟩
theorem Mc (hc:X.calm=true):EB X (.builtin "min") (λxs H Q=>∃ i j,xs=[.int i,.int j]∧Q (.int (if j<i then j else i)) H):=by
 intro pins s σ H xs us Q I r h
 obtain ⟨i,j,rfl,q⟩:=h
 obtain ⟨u,w',rfl,⟨t,rfl⟩,⟨t',rfl⟩⟩:=vals2 r
 refine min_two_ints (I.ok.hd hc) λh' tk k=>⟨_,H,I.kept k,?_,q⟩
 by_cases hj:j<i
 ·rw [if_pos hj,if_pos hj];exact ⟨_,rfl⟩
 ·rw [if_neg hj,if_neg hj];exact ⟨_,rfl⟩
theorem Ih:EB X (.type "int") (λxs H Q=>(∃ i,xs=[.int i]∧Q (.int i) H)∨∃ k,xs=[.bl k]∧Q (.int (if k then 1 else 0)) H):=by
 intro pins s σ H xs us Q I r h
 rcases h with ⟨i,rfl,q⟩|⟨k,rfl,q⟩
 ·obtain ⟨u,rfl,t,rfl⟩:=vals1 r
  exact call_int_int ⟨.int i,H,I,⟨_,rfl⟩,q⟩
 ·obtain ⟨u,rfl,r1⟩:=vals1 r
  cases r1
  exact call_int_bool ⟨.int (if k then 1 else 0),H,I.tok _,⟨_,rfl⟩,q⟩
end
structure ObjM (h:Heap) (x dx C:Addr) (mA:Str->Option Value):Prop where
 obj:h.get? x=some (PySem.W.instObj C dx)
 ns:h.Ns1 dx mA
 ne:dx≠x
theorem MY {h:Heap}{dx:Addr}{mA:Str->Option Value}(n:h.Ns1 dx mA):∃ od,h.get? dx=some od∧∀ name,PySem.W.lookIn name od=some (mA name):=by
 obtain ⟨o,es,ep,ho,hd,hk,_,hm⟩:=n
 refine ⟨o,ho,λname=>?_⟩
 have e:=hm name
 unfold nsFind findBy at e
 rw [← Array.find?_toList] at e
 unfold PySem.W.lookIn
 rw [hd]
 dsimp only
 split
 ·rename_i y q
  rw [q] at e
  exact congrArg some e
 ·rename_i q
  rw [q] at e
  have a:es.toList.any (·.refKey)=false:=by
   rw [List.any_eq_false]
   intro y hy
   obtain ⟨z,t,hkey⟩:=hk y (Array.mem_toList_iff.mp hy)
   simp [DictEntry.refKey,hkey]
  have a':¬ es.toList.any (·.refKey)=true:=by rw [a];exact AQ
  rw [if_neg a']
  exact congrArg some e
theorem ObjM.look {h:Heap}{x dx C:Addr}{mA:Str->Option Value}(I:ObjM h x dx C mA):∃ od,PySem.W.InstAt h x (PySem.W.instObj C dx) C (some od)∧∀ name,PySem.W.lookIn name od=some (mA name):=
 let ⟨od,ho,hl⟩:=MY I.ns
 ⟨od,⟨I.obj,rfl,rfl,ho⟩,hl⟩
section
variable {P:Program} {w:World} {H H':Hp} {h h':Heap} {a C dx:Addr} {fs fs':List (Str×V)}
theorem Pl (hok:HOk P w H h)(e:H a=some (.ins C dx fs)):∃ mA,ObjM h a dx C mA∧(∀ f,Sr (fs.lookup f) (mA f))∧PySem.Within mA (fs.map (·.1))∧fs.length≤1000∧H dx=some (.own a):=by
 obtain ⟨d,z,ne,ob,mA,n,r,q⟩:=(show ObjOk P w H h a (.ins C dx fs) from hok a _ e)
 exact ⟨mA,⟨ob,n,ne⟩,r,q,z,d⟩
end
structure Cls (K:PySem.W.Frag) (C:Addr):Prop where
 pg:PySem.W.plainGet K C Str.empty=true
 hd:PySem.W.hasDictIn K C=true
 po:PySem.W.plainOver K C=true
 sa:PySem.W.findIn K (.ref C) "__setattr__"=some (some (.builtin "object.__setattr__"))
theorem Cls.get {K:PySem.W.Frag}{C:Addr}(c:Cls K C)(f:Str):PySem.W.plainGet K C f=true:=c.pg
section
variable {X:Cx} {pins:List (Addr×Obj)} {σ:St} {H:Hp} {s:Shared} {A:Around} {E:Value->Shared->Prop} {Q:Value->Shared->Prop} {c:Value} {b:Bool}
inductive Gy (K:PySem.W.Frag) (H:Hp):V->Value->Prop where
 | non:Gy K H .non (.type "NoneType")
 | bl (x:Bool):Gy K H (.bl x) (.type "bool")
 | int (i:Int):Gy K H (.int i) (.type "int")
 | str (x:Str):Gy K H (.str x) (.type "str")
 | flt (x:UInt64):Gy K H (.flt x) (.type "float")
 | lst {a:Addr} {xs:List V} (e:H a=some (.lst xs)):Gy K H (.ref a) (.type "list")
 | frz {a:Addr} {o:Obj} {xs:List V} (e:H a=some (.frz o (.lst xs))):Gy K H (.ref a) (.type "list")
 | tup {a:Addr} {xs:List V} (e:H a=some (.tup xs)):Gy K H (.ref a) (.type "tuple")
 | dK {a:Addr} {kvs:List (Key×V)} (e:H a=some (.dK kvs)):Gy K H (.ref a) (.type "dict")
 | dT {a:Addr} {kvs:List (List Key×V)} (e:H a=some (.dT kvs)):Gy K H (.ref a) (.type "dict")
 | ins {a C dx:Addr} {fs:List (Str×V)} (e:H a=some (.ins C dx fs)) (cl:Cls K C) (ha:PySem.W.findIn K (.ref C) "__class__"=some (some (.builtin "object.__class__")))
   (hn:PySem.W.specialIn K (.builtin "object.__class__") "__get__"=some (some (.builtin "getset_descriptor.__get__"))) (htk:PySem.W.takesIn K (.builtin "object.__class__")=some true)
   (hm:PySem.W.mroIn K C (.type "object")=some true):Gy K H (.ref a) (.ref C)
theorem ED {x:V}{u t:Value}(I:Inv X pins σ H s)(rx:RelV x u)(ty:Gy X.K H x t)(e:PySem.W.kitOne X.K t c=some b)(h:∀ tk,Q (.bool b) { s with toks:=tk }) :
  wpAny (model X.prog X.w) A (call (.builtin "isinstance") [u,c]) Q E s:=by
 cases ty with
 | non=>cases (show u=Value.none from rx);exact A2 PySem.W.kitx_none I.kIn True.intro e (λz=>nomatch z) h
 | bl y=>cases (show u=Value.bool y from rx);exact A2 PySem.W.kitx_bool I.kIn True.intro e (λz=>nomatch z) h
 | int i=>obtain ⟨t,q⟩:=(show ∃ t,u=Value.int i t from rx);cases q;exact A2 PySem.W.kitx_int I.kIn True.intro e (λz=>nomatch z) h
 | str y=>obtain ⟨t,q⟩:=(show ∃ t,u=Value.str y t from rx);cases q;exact A2 PySem.W.kitx_str I.kIn True.intro e (λz=>nomatch z) h
 | flt y=>obtain ⟨t,q⟩:=(show ∃ t,u=Value.float y t from rx);cases q;exact A2 PySem.W.kitx_float I.kIn True.intro e (λz=>nomatch z) h
 | @lst a xs ea =>
  cases (show u=Value.ref a from rx)
  obtain ⟨_,_,n,_,h1⟩:=(show ObjOk X.prog X.w H s.heap a (.lst xs) from I.hok a _ ea)
  exact A2 PySem.W.kitx_list I.kIn ⟨_,h1,rfl⟩ e (λz=>nomatch z) h
 | @frz a ob xs ea =>
  cases (show u=Value.ref a from rx)
  obtain ⟨_,_,_,n,_,h1⟩:=(show ObjOk X.prog X.w H s.heap a (.frz ob (.lst xs)) from I.hok a _ ea)
  exact A2 PySem.W.kitx_list I.kIn ⟨_,h1,rfl⟩ e (λz=>nomatch z) h
 | @tup a xs ea =>
  cases (show u=Value.ref a from rx)
  obtain ⟨_,_,_,p⟩:=(show ObjOk X.prog X.w H s.heap a (.tup xs) from I.hok a _ ea)
  obtain ⟨o,h1,h2,_⟩:=p
  exact A2 PySem.W.kitx_tuple I.kIn ⟨o,h1,h2⟩ e (λz=>nomatch z) h
 | @dK a kvs ea =>
  cases (show u=Value.ref a from rx)
  obtain ⟨_,_,vs,_,p⟩:=(show ObjOk X.prog X.w H s.heap a (.dK kvs) from I.hok a _ ea)
  obtain ⟨o,es,ep,h1,h2,_⟩:=p
  exact A2 PySem.W.kitx_dict I.kIn ⟨o,h1,h2.1⟩ e (λz=>nomatch z) h
 | @dT a kvs ea =>
  cases (show u=Value.ref a from rx)
  obtain ⟨_,_,xs,_,o,es,ep,h1,h2,_⟩:=(show ObjOk X.prog X.w H s.heap a (.dT kvs) from I.hok a _ ea)
  exact A2 PySem.W.kitx_dict I.kIn ⟨o,h1,h2.1⟩ e (λz=>nomatch z) h
 | @ins a C dx fs ea cl ha hn htk hm =>
  cases (show u=Value.ref a from rx)
  obtain ⟨mA,O,_⟩:=Pl I.hok ea
  obtain ⟨od,J,_⟩:=O.look
  exact A2 (PySem.W.kitx_own (cl.get _) cl.hd ha hn htk hm) I.kIn J e (λz=>nomatch z) h
end
structure Room (k:Nat) (A:Around):Prop where
 hd:A.handled=none
 dp:A.depth+3*k+5<recursionLimit
 un:A.units+16*k+200<cLine
 gd:A.guards=some []
theorem Room.mono {j k:Nat}{A:Around}(r:Room k A)(h:j≤k):Room j A:=⟨r.hd,by have:=r.dp;ext,by have:=r.un;ext,r.gd⟩
theorem Room.deeper {k:Nat}{A:Around}(r:Room (k+1) A)(env:Env):Room k (A.deeper env):=
 ⟨r.hd,by have:=r.dp;show A.depth+1+3*k+5<_;ext,by have:=r.un;show A.units+3+16*k+200<_;ext,r.gd⟩
theorem Room.depth {k:Nat}{A:Around}(r:Room k A):A.depth<recursionLimit:=by have:=r.dp;ext
theorem Room.units {k:Nat}{A:Around}(r:Room k A):A.units+64<cLine:=by have:=r.un;ext
def Wa:TA:=λ_ H Q=>Q [] H
def TJ (ta:TE)(tr:TA):TA:=fun σ H Q=>ta σ H λx H1=>tr σ H1 λxs H2=>Q (x::xs) H2
section
variable {X:Cx} {e:Expr} {es:List Expr} {te:TE} {t:TA} {pos:Pos}
theorem NR:PA X [] Wa:=λ_ _ _ _ H Q I h=>Calls.spliced_nil ⟨[],H,I,.nil,h⟩
theorem IH (ha:PE X e te)(hr:PA X es t)(hs:starEach (e::es) X.env=(false,eval e X.env)::starEach es X.env:=by rfl):PA X (e::es) (TJ te t):=by
 intro pos pins s σ H Q I h
 rw [hs]
 show wpAny _ _ (spliced ((false,eval e X.env)::backTo pos (starEach es X.env))) _ _ s
 refine Calls.spliced_cons (thn (ha pins s σ H _ I h) λu s1 ⟨x,H1,I1,r1,q1⟩=>?_)
 exact thn (hr pos pins s1 σ H1 _ I1 q1) λus s2 ⟨xs,H2,I2,r2,q2⟩=>⟨x::xs,H2,I2,.cons r1 r2,q2⟩
def Vj (t:TA):TE:=fun σ H Q=>t σ H λxs H1=>xs.length≤sizeLine∧∀ p,H1 p=none->Q (.ref p) (upd H1 p (.tup xs))
def V1 (t:TA):TE:=fun σ H Q=>t σ H λxs H1=>xs.length≤sizeLine∧∀ p,H1 p=none->Q (.ref p) (upd H1 p (.lst xs))
theorem Sn {x1}(h:PA X es t):PE X (.Tuple es x1 pos) (Vj t):=by
 intro pins s σ H Q I hq
 refine wpAny_Tuple_spliced (thn (h pos pins s σ H _ I hq) λus s1 ⟨xs,H1,I1,r,z,q⟩=>⟨by rw [← r.length];exact z,?_⟩)
 have hf:H1 s1.heap.objs.size=none:=I1.hok.fresh (Ak _)
 refine ⟨.ref s1.heap.objs.size,upd H1 s1.heap.objs.size (.tup xs),I1.laid (t':=s1.toks) (λb u e=>Af _ e) (Ak _) ?_,rfl,q _ hf⟩
 exact ⟨⟨z,⟨_,Av _ rfl,rfl⟩⟩,us,r,⟨_,Av _ rfl,rfl,_,rfl⟩⟩
theorem NH (h:PA X es t):PE X (.List es pos) (V1 t):=by
 intro pins s σ H Q I hq
 refine wpAny_List_spliced (thn (h pos pins s σ H _ I hq) λus s1 ⟨xs,H1,I1,r,z,q⟩=>⟨by rw [← r.length];exact z,?_⟩)
 have hf:H1 s1.heap.objs.size=none:=I1.hok.fresh (Ak _)
 refine ⟨.ref s1.heap.objs.size,upd H1 s1.heap.objs.size (.lst xs),I1.laid (t':=s1.toks) (λb u e=>Af _ e) (Ak _) ?_,rfl,q _ hf⟩
 exact ⟨z,us,0,r,Av _ rfl⟩
end
abbrev Sp:=List V->Hp->VK->XK->Prop
abbrev CXT:=List Env->Hp->Shared->XK->Value->Shared->Prop
structure OU (P:Program) (w:World) (K:PySem.W.Frag) (mg:Str->Option Value) (base:Heap) (A:Around) (outer:List Env) (s:Shared) (H:Hp):Prop where
 frames:A.frames=some outer
 mod:Mod K mg base
 bs:∀ b o,base.get? b=some o->s.heap.get? b=some o∧H b=none
 bsz:base.objs.size≤s.heap.objs.size
 funs:s.heap.FunFrames base outer
 frf:∀ b∈frs outer,H b=none
 hok:HOk P w H s.heap
 bare:AllBare s.gens
def CE (outer:List Env)(P:Program)(w:World)(H:Hp)(s:Shared)(Q:VK)(u:Value)(s':Shared):Prop:=
 ∃ v H',s'.os=s.os∧AllBare s'.gens∧Un (frs outer) [] H H' s.heap s'.heap∧HOk P w H' s'.heap∧RelV v u∧Q v H'
def CR (CX:CXT)(outer:List Env)(P:Program)(w:World)(H:Hp)(s:Shared)(Q:VK)(E:XK)(r:Result)(s':Shared):Prop:=
 match r with
 | .ok (.ret u)=>CE outer P w H s Q u s'
 | .ok _=>False
 | .error e=>CX outer H s E e s'
structure DJ (P:Program) (w:World) (K:PySem.W.Frag) (mg:Str->Option Value) (base:Heap) (CX:CXT) (k:Nat) (f:Addr) (fd:FuncData) (ps:List Str) (sp:Sp):Prop where
 len:∀ vs H Q E,sp vs H Q E->vs.length=ps.length
 run:∀ (A:Around) (outer:List Env) (s:Shared) (H:Hp) (args:Args) (us:List Value) (vs:List V) (Q:VK) (E:XK),Room k A->OU P w K mg base A outer s H->BindsTo s fd args (ps.zip us)->Vals vs us->sp vs H Q E ->
  codeAny (model P w) A (.call (.ref f) args) (CR CX outer P w H s Q E) s
section
variable {X:Cx} {pins:List (Addr×Obj)} {σ:St} {H:Hp} {s s':Shared}
theorem Inv.env0 (I:Inv X pins σ H s):OU X.prog X.w X.K X.mg X.base X.A X.stack s H:=
 ⟨I.ok.frames,I.ok.mod,I.bs,AM I.ok.bsz I.sz,I.stack,I.stkFree,I.hok,I.bare⟩
theorem Inv.after {Q:VK}{u:Value}(I:Inv X pins σ H s)(h:CE X.stack X.prog X.w H s Q u s'):EP X pins σ Q u s':=by
 obtain ⟨v,H',os,bare,un,hok,r,q⟩:=h
 obtain ⟨hh,g,d,t,os'⟩:=s'
 obtain rfl:os'=s.os:=os
 exact ⟨v,H',I.call (h':=hh) (g':=g) (d':=d) (t':=t) (ch:=[]) un hok bare (λb z=>absurd z (by simp)),r,q⟩
end
def Uz (sp:Sp)(dvs:List V)(E:XK)(t:TA):TE:=fun σ H Q=>t σ H λvs H1=>sp (vs++dvs) H1 Q E
def Binds (K:PySem.W.Frag)(fd:FuncData)(ps:List Str)(ds:List Value):Prop:=
 ∀ (s:Shared) (us:List Value),K.In s.heap->(us++ds).length=ps.length->BindsTo s fd ⟨us,[]⟩ (ps.zip (us++ds))
theorem Binds.all {K:PySem.W.Frag}{fd:FuncData}{ps:List Str}(h:∀ us:List Value,us.length=ps.length->bindArgs fd ⟨us,[]⟩=pure (ps.zip us)):Binds K fd ps []:=λs us _ hl=>by
 rw [BA] at hl ⊢
 exact .of_eq (h us hl)
def Passes (CX:CXT)(X:Cx)(E:XK):Prop:=∀ (pins:List (Addr×Obj)) (σ:St) (H:Hp) (s:Shared) (e:Value) (s':Shared),Inv X pins σ H s->CX X.stack H s E e s'->X.xe e s'
section
variable {X:Cx} {CX:CXT} {k:Nat} {f C:Addr} {fd:FuncData} {ps:List Str} {sp:Sp} {dvs:List V} {ds:List Value} {E:XK} {x m:Str} {p pos apos:Pos} {e o:Expr} {es:List Expr} {ta:TE} {t:TA}
theorem R4 {pins:List (Addr×Obj)}{σ:St}{H:Hp}{s:Shared}{Q:VK}{us:List Value}{vs:List V}(F:DJ X.prog X.w X.K X.mg X.base CX k f fd ps sp)(hr:Room k X.A)(hb:Binds X.K fd ps ds)(hd:Vals dvs ds)(hx:Passes CX X E)
  (I:Inv X pins σ H s) (r:Vals vs us) (h:sp (vs++dvs) H Q E):wpAny (model X.prog X.w) X.A (call (.ref f) us) (EP X pins σ Q) X.xe s:=by
 have r2:Vals (vs++dvs) (us++ds):=r.append hd
 have hl:(us++ds).length=ps.length:=by rw [← r2.length];exact F.len _ _ _ _ h
 refine wpAny_call (codeAny_mono (F.run X.A X.stack s H ⟨us,[]⟩ (us++ds) (vs++dvs) Q E hr I.env0 (hb s us I.kIn hl) r2 h) λr s' hq=>?_)
 cases r with
 | error e=>exact hx pins σ H s e s' I hq
 | ok fl =>
  cases fl with
  | ret u=>exact I.after hq
  | next=>exact False.elim hq
  | brk=>exact False.elim hq
  | cont=>exact False.elim hq
theorem PD (F:DJ X.prog X.w X.K X.mg X.base CX k f fd ps sp)(hr:Room k X.A)(hg:Gl X x)(hm:X.mg x=some (.ref f))(hk:PySem.W.keepIn X.K (.ref f)=true)(hb:Binds X.K fd ps ds)(hd:Vals dvs ds)(hx:Passes CX X E)
  (ha:PA X (e::es) t) (hdb:(x==("__debug__":Str))=false:=by decide) (he:starEach (e::es) X.env=(false,eval e X.env)::starEach es X.env:=by rfl) (hpl:(backTo pos (starEach es X.env)).any (·.1)=false:=by rfl) :
  PE X (.Call (.Name x p) (e::es) [] pos) (Uz sp dvs E t):=by
 intro pins s σ H Q I h
 refine wpAny_Call_Name_kw (PZ I hg hm ?_ hdb)
 refine PySem.W.callWith_K (h₀:=X.base) I.ok.mod.kin hk (thn (ha pos pins s σ H _ I h) λus s1 ⟨vs,H1,I1,r,q⟩=>⟨I1.kIn,?_⟩) he hpl
 exact R4 F hr hb hd hx I1 r q
end
structure Cp (N P:List Str) (sc:Scope):Prop where
 kind:sc.kind=.function
 co:sc.isCoroutine=false
 gen:sc.isGenerator=false
 nd:N.Nodup
 pre:N.take P.length=P
 par:∀ x∈P,sc.names.lookup x=some .local∨sc.names.lookup x=some .cell
 nofree:∀ y∈sc.names,y.2≠.free
theorem HS {kindOf:Str->Option NameKind}{x:Str}:∀ {binds:List (Str×Value)} {m:Str->Option Value},(∀ v,(x,v)∉binds)->bindL kindOf binds m x=m x
 | [],_,_=>rfl
 | (n,v)::r,m,h=>by
  unfold bindL
  rw [HS λw hw=>h w (Bu _ hw)]
  split
  ·have:x≠n:=by rintro rfl;exact h v List.mem_cons_self
   simp [this]
  ·rfl
theorem Ip {kindOf:Str->Option NameKind}{x:Str}:∀ {binds:List (Str×Value)} {m:Str->Option Value},(∀ v,(x,v)∉binds)->bindC kindOf binds m x=m x
 | [],_,_=>rfl
 | (n,v)::r,m,h=>by
  unfold bindC
  rw [Ip λw hw=>h w (Bu _ hw)]
  split
  ·rfl
  ·have:x≠n:=by rintro rfl;exact h v List.mem_cons_self
   simp [this]
theorem Ir {kindOf:Str->Option NameKind}{x:Str}{v:Value}:∀ {P:List Str} {vs:List Value} {i:Nat} {m:Str->Option Value},P.Nodup->P[i]? = some x->vs[i]? = some v->kindOf x=some .local ->
  bindL kindOf (P.zip vs) m x=some v
 | [],_,_,_,_,h,_,_=>by simp at h
 | _::_,[],_,_,_,_,h,_=>by simp at h
 | p::P,w::vs,0,m,nd,h1,h2,hk=>by
  simp at h1 h2;subst h1;subst h2
  show bindL kindOf ((p,w)::P.zip vs) m p=_
  unfold bindL
  rw [HS λv hv=>(Bt.mp nd).1 (List.of_mem_zip hv).1,if_pos hk]
  simp
 | p::P,w::vs,i+1,m,nd,h1,h2,hk=>by
  show bindL kindOf ((p,w)::P.zip vs) m x=_
  unfold bindL
  exact Ir (i:=i) (Bt.mp nd).2 (by simpa using h1) (by simpa using h2) hk
theorem H8 {kindOf:Str->Option NameKind}{x:Str}{v:Value}:∀ {P:List Str} {vs:List Value} {i:Nat} {m:Str->Option Value},P.Nodup->P[i]? = some x->vs[i]? = some v->kindOf x≠some .local ->
  bindC kindOf (P.zip vs) m x=some v
 | [],_,_,_,_,h,_,_=>by simp at h
 | _::_,[],_,_,_,_,h,_=>by simp at h
 | p::P,w::vs,0,m,nd,h1,h2,hk=>by
  simp at h1 h2;subst h1;subst h2
  show bindC kindOf ((p,w)::P.zip vs) m p=_
  unfold bindC
  rw [Ip λv hv=>(Bt.mp nd).1 (List.of_mem_zip hv).1,if_neg hk]
  simp
 | p::P,w::vs,i+1,m,nd,h1,h2,hk=>by
  show bindC kindOf ((p,w)::P.zip vs) m x=_
  unfold bindC
  exact H8 (i:=i) (Bt.mp nd).2 (by simpa using h1) (by simpa using h2) hk
noncomputable def start (N:List Str)(vs:List V):St:=vs.map some++List.replicate (N.length-vs.length) none
noncomputable def HL (CX:CXT)(P:Program)(w:World)(K:PySem.W.Frag)(mg:Str->Option Value)(base:Heap)(N:List Str)(qual:Str)(scope:Scope)(f:Addr)(cd:Value)(A:Around)(outer:List Env)(s:Shared)(H:Hp)(E:XK):Cx where
 prog:=P
 w:=w
 K:=K
 mg:=mg
 base:=base
 A:=A.deeper (envOfC qual scope s.heap.objs.size f cd)
 N:=N
 s₀:=s
 H₀:=H
 env:=envOfC qual scope s.heap.objs.size f cd
 outer:=outer
 stack:=envOfC qual scope s.heap.objs.size f cd::outer
 ex:=[]
 calm:=true
 fn:=λ_=>true
 pn:=[]
 xe:=λe s'=>wpAny (model P w) (A.deeper (envOfC qual scope s.heap.objs.size f cd)) (leaving (envOfC qual scope s.heap.objs.size f cd) e) (λ_ s''=>CX outer H s E e s'') (λe' s''=>CX outer H s E e' s'') s'
theorem JE {sc:Scope}{n:Nat}{x:Str}(h:sc.names.lookup x=some .cell):∃ c,(cellsFrom n sc.names []).lookup x=some c:=by
 have q:=PySem.W.cellsFrom_some sc.names n [] (.inl h)
 exact Option.isSome_iff_exists.mp q
theorem ML {CX:CXT}{P:Program}{w:World}{K:PySem.W.Frag}{mg:Str->Option Value}{base:Heap}{N ps:List Str}{qual:Str}{scope:Scope}{f:Addr}{cd:Value}{A:Around}{outer:List Env}{s s1:Shared}{H:Hp}{E:XK}{us:List Value}{vs:List V}
  (S:Cp N ps scope) (hd:A.handled=none) (e0:OU P w K mg base A outer s H) (hl:vs.length=ps.length) (r:Vals vs us)
  (x:InCallC s s.heap.objs.size (bindL (envOfC qual scope s.heap.objs.size f cd).kindOf (ps.zip us) λ_=>none) (cellsFrom (s.heap.objs.size+1) scope.names []) (bindC (envOfC qual scope s.heap.objs.size f cd).kindOf (ps.zip us) λ_=>none) s1) :
  Inv (HL CX P w K mg base N qual scope f cd A outer s H E) [] (start N vs) H s1:=by
 have hpl:ps.length≤N.length:=by have:=congrArg List.length S.pre;rw [AE] at this;ext
 obtain ⟨h1,tk,rfl,hk⟩:=x.done
 have noA:∀ b:Addr,b∉(HL CX P w K mg base N qual scope f cd A outer s H E).ex:=λb z=>absurd (show b∈([]:List Addr) from z) (by simp)
 refine ⟨⟨e0.mod,S.kind,rfl,rfl,Ak _,λy z c h1 h2=>?_,λy hy=>?_,λy c _ h=>?_,λ_=>hd,Around.frames_deeper e0.frames,.inr ⟨rfl,rfl⟩,λb z=>absurd z (noA b),e0.bs,e0.bsz,λb _ _=>noA b,λb z=>absurd z (noA b),e0.funs,e0.frf⟩,
  rfl,e0.bare,Un.kept hk,⟨_,x.toInCall.ns,λi y v h1 h2 h3=>?_⟩,λy c h=>⟨_,x.cell y c h⟩,e0.hok.fresh (Ak _),λy c h=>?_,λp hp=>absurd (show p∈([]:List (Addr×Obj)) from hp) (by simp),e0.hok.kept hk,?_⟩
 ·exact name_of_addr x.apart (BP h1) (BP h2)
 ·have hy:scope.names.lookup y=some .cell∨scope.names.lookup y=some .free:=hy
  rcases hy with hy|hy
  ·exact JE hy
  ·exact absurd rfl (S.nofree _ (BP hy))
 ·exact Nat.le_of_lt (x.above y c (BP h))
 ·have hi:i<vs.length:=by
   unfold start at h2
   by_cases hi:i<vs.length
   ·exact hi
   ·rw [AX (by simpa using hi)] at h2
    rw [BG] at h2
    split at h2<;>cases h2
  have ha:vs[i]? = some v:=by
   unfold start at h2
   rw [Ai (by simpa using hi),Ar] at h2
   cases e:vs[i]? with
   | none=>rw [e] at h2;cases h2
   | some a=>rw [e] at h2;cases h2;rfl
  obtain ⟨u,hu,rv⟩:=r.get ha
  have hp:ps[i]? = some y:=by
   rw [← S.pre,Bh (by ext)];exact h1
  have ndP:ps.Nodup:=by rw [← S.pre];exact S.nd.sublist (List.take_sublist _ _)
  refine ⟨u,rv,?_⟩
  rcases S.par y (Ag hp) with k|k
  ·exact .inl ⟨k,Ir ndP hp hu k⟩
  ·obtain ⟨c,e⟩:=JE (n:=s.heap.objs.size+1) k
   refine .inr ⟨.inl k,c,e,?_⟩
   have q:=x.cell y c e
   rw [H8 ndP hp hu (by show scope.names.lookup y≠_;rw [k];decide)] at q
   exact q
 ·exact e0.hok.fresh (Nat.le_of_lt (x.above y c (BP h)))
 ·unfold start
  show _=N.length
  rw [An,Ae,List.length_replicate]
  ext
theorem Tw {CX:CXT}{P:Program}{w:World}{K:PySem.W.Frag}{mg:Str->Option Value}{base:Heap}{k:Nat}{f:Addr}{name qual:Str}{params:Arguments}{body:List Stmt}{scope:Scope}{dV kV doc pm cdv ct oc:Value}{an od:Option Addr}
  {osl:Array (Option Value)} {N ps:List Str} {sp:Sp} (lk:K.lookup f=some ⟨oc,od,.func (PySem.W.fnOf name qual params body scope dV kV doc pm an cdv ct),osl⟩) (hcd:PySem.W.codeIn K cdv qual=true) (S:Cp N ps scope)
  (len:∀ vs H Q E,sp vs H Q E->vs.length=ps.length)
  (hbody:∀ (A:Around) (outer:List Env) (s:Shared) (H:Hp) (vs:List V) (Q:VK) (E:XK),Room k (A.deeper (envOfC qual scope s.heap.objs.size f cdv))->sp vs H Q E ->
   ∃ t,PSs (HL CX P w K mg base N qual scope f cdv A outer s H E) body t∧t { nx:=λ_ H'=>Q .non H',rt:=Q } (start N vs) H) :
  DJ P w K mg base CX (k+1) f (PySem.W.fnOf name qual params body scope dV kV doc pm an cdv ct) ps sp:=by
 refine ⟨len,λA outer s H args us vs Q E hr e0 hb r hsp=>?_⟩
 have hl:=len _ _ _ _ hsp
 have KX:K.In s.heap:=e0.mod.kin.keeps λb o e=>(e0.bs b o e).1
 have lim:s.heap.NoLimit:=e0.mod.nolimit.keeps λb o e=>(e0.bs b o e).1
 have hkind:∀ y∈ps.zip us,scope.names.lookup y.1=some .local∨(scope.names.lookup y.1=some .cell∧((cellsFrom (s.heap.objs.size+1) scope.names []).lookup y.1).isSome=true):=λ⟨n,v⟩ hy=>by
  rcases S.par n (List.of_mem_zip hy).1 with q|q
  ·exact .inl q
  ·exact .inr ⟨q,PySem.W.cellsFrom_some _ _ _ (.inl q)⟩
 refine codeAny_call_function hr.depth (KX _ _ lk) rfl S.co S.gen rfl (PySem.W.codeRec_of KX hcd) (hb _ _ _ _ ?_)
 refine wpAny_newFunctionEnv_cells S.kind hkind λenv he s1 x=>?_
 subst he
 refine ⟨lim.keeps x.toInCall.keep,codeAny_func ?_⟩
 obtain ⟨t,ht,hq⟩:=hbody A outer s H vs Q E (hr.deeper _) hsp
 have I:Inv (HL CX P w K mg base N qual scope f cdv A outer s H E) [] (start N vs) H s1:=ML S hr.hd e0 hl r x
 refine BL (ht [] s1 (start N vs) H _ I hq) (λfl s' hs=>?_) λe s' hs=>hs
 have fin:∀ {σ':St} {H':Hp} {v:V} {u:Value},Inv (HL CX P w K mg base N qual scope f cdv A outer s H E) [] σ' H' s'->RelV v u->Q v H'->CE outer P w H s Q u s':=
  λ{σ' H' v u} J rv q=>⟨v,H',J.os,J.bare,J.base,J.hok,rv,q⟩
 cases fl with
 | ret u =>
  obtain ⟨v,σ',H',J,rv,q⟩:=hs
  exact fin J rv q
 | next =>
  obtain ⟨σ',H',J,q⟩:=hs
  exact fin (v:=V.non) (u:=Value.none) J rfl q
 | brk =>
  obtain ⟨_,_,_,q⟩:=hs
  exact False.elim q
 | cont =>
  obtain ⟨_,_,_,q⟩:=hs
  exact False.elim q
section
variable {X:Cx} {x:Str} {p pos:Pos} {e:Expr} {es:List Expr} {t:TA} {id T:String} {r:List V->Hp->VK->Prop}
def tCB (r:List V->Hp->VK->Prop)(t:TA):TE:=fun σ H Q=>t σ H λvs H1=>r vs H1 Q
theorem JU (hc:EB X (.builtin id) r)(hg:Gl X x)(hm:X.mg x=none)(hv:bootBuiltins x=some (.builtin id))(ha:PA X (e::es) t)(hn:x≠"__name__":=by decide)(hdb:(x==("__debug__":Str))=false:=by decide)
  (he:starEach (e::es) X.env=(false,eval e X.env)::starEach es X.env:=by rfl) (hpl:(backTo pos (starEach es X.env)).any (·.1)=false:=by rfl):PE X (.Call (.Name x p) (e::es) [] pos) (tCB r t):=by
 intro pins s σ H Q I h
 refine wpAny_Call_Name_kw (Jd I hg hm hv ?_ hn hdb)
 exact PyProof.Rows.callWith_builtin1 (thn (ha pos pins s σ H _ I h) λus s1 ⟨vs,H1,I1,r1,q1⟩=>hc pins s1 σ H1 vs us Q I1 r1 q1) he hpl
theorem MH (hc:EB X (.type T) r)(hg:Gl X x)(hm:X.mg x=none)(hv:bootBuiltins x=some (.type T))(ha:PA X (e::es) t)(hn:x≠"__name__":=by decide)(hdb:(x==("__debug__":Str))=false:=by decide)
  (he:starEach (e::es) X.env=(false,eval e X.env)::starEach es X.env:=by rfl) (hpl:(backTo pos (starEach es X.env)).any (·.1)=false:=by rfl):PE X (.Call (.Name x p) (e::es) [] pos) (tCB r t):=by
 intro pins s σ H Q I h
 refine wpAny_Call_Name_kw (Jd I hg hm hv ?_ hn hdb)
 exact PyProof.Rows.callWith_type1 (thn (ha pos pins s σ H _ I h) λus s1 ⟨vs,H1,I1,r1,q1⟩=>hc pins s1 σ H1 vs us Q I1 r1 q1) he hpl
end
end L2
namespace HT
open PySem PyProof.Rows
section
open PySem.SeqAt
open PySem.AutoSeq1 (wpAny_loadPart')
open PySem.MeetsSeq PySem.MeetsSeq2 PySem.MeetsSeq3
end
section
variable {prog:Program} {w:World} {A:Around} {E:Value->Shared->Prop} {s:Shared}
theorem PH {t b:Addr}{vs ws:List Value}{Q:Value->Shared->Prop}(ht:IsTup s.heap t vs.toArray)(hb:IsTup s.heap b ws.toArray)(hv:vs≠[])
  (h1:ws=[]->Q (.ref t) s) (h2:ws≠[]->Q (.ref s.heap.objs.size) { s with heap:=s.heap.push { cls:=.type "tuple",data:=.seq (vs++ws).toArray } })
  (hsz:vs.length+ws.length≤sizeLine):wpAny (model prog w) A (binaryOp .Add (.ref t) (.ref b)) Q E s:=by
 obtain ⟨⟨cls,dd,data,sl⟩,ho,hc,n,hd⟩:=id ht
 obtain ⟨⟨cls2,dd2,data2,sl2⟩,ho2,hc2,n2,hd2⟩:=id hb
 simp only at hc hd hc2 hd2
 subst hc hd hc2 hd2
 have e:vs.toArray++ws.toArray=(vs++ws).toArray:=by simp
 by_cases hw:ws=[]
 ·exact concat_meets ⟨_,ho,rfl⟩ ⟨_,ho2,rfl⟩ noFill_tuple_add seq_tuple_add PySem.F.slot_tuple_add PySem.F.entry_tuple_add (PySem.F.args_tuple_add_2 _ _)
   (tuple_addW1 t b vs.toArray ws.toArray n n2 dd dd2 sl sl2 (by simpa using hv) (by simp [hw])) ⟨ho,ho2,h1 hw⟩
 ·refine concat_meets ⟨_,ho,rfl⟩ ⟨_,ho2,rfl⟩ noFill_tuple_add seq_tuple_add PySem.F.slot_tuple_add PySem.F.entry_tuple_add (PySem.F.args_tuple_add_2 _ _)
   (tuple_addW2 t b vs.toArray ws.toArray n n2 dd dd2 sl sl2 (by simpa using hv) (by simpa using hw) (by rw [Ap,Ap];exact hsz)) ⟨ho,ho2,?_⟩
  rw [e]
  exact h2 hw
noncomputable def sIx (n d:Nat):Option Int->Nat
 | none=>d
 | some v=>if v<0 then (v+(n:Int)).toNat else min v.toNat n
theorem Hm (n d:Nat):sIx n d none=d:=rfl
theorem Jj (n d k:Nat):sIx n d (some (k:Int))=min k n:=by
 show (if (k:Int)<0 then ((k:Int)+(n:Int)).toNat else min (k:Int).toNat n)=min k n
 rw [if_neg (by ext),Int.toNat_natCast]
theorem RR (n d:Nat)(hd:d≤n)(o:Option Int):sIx n d o≤n:=by
 cases o with
 | none=>exact hd
 | some v =>
  show (if v<0 then (v+(n:Int)).toNat else min v.toNat n)≤n
  by_cases hv:v<0
  ·rw [if_pos hv];ext
  ·rw [if_neg hv];exact Nat.min_le_right _ _
theorem Lf (v:Int)(n d:Nat):(if v<0 then max (v+(n:Int)) 0 else min v (n:Int))=((sIx n d (some v):Nat):Int):=by
 show (if v<0 then max (v+(n:Int)) 0 else min v (n:Int))=(((if v<0 then (v+(n:Int)).toNat else min v.toNat n):Nat):Int)
 by_cases hv:v<0
 ·simp only [if_pos hv];ext
 ·simp only [if_neg hv];ext
theorem Kr (lo hi:Option Int)(n:Nat):Builtin.Slice.sliceAdjust lo hi 1 (n:Int)=(((sIx n 0 lo:Nat):Int),((sIx n n hi:Nat):Int)):=by
 have h1:¬ ((1:Int)<0):=by ext
 unfold Builtin.Slice.sliceAdjust
 simp only [h1,if_false]
 refine Prod.ext ?_ ?_
 ·cases lo with
  | none=>rfl
  | some v=>exact Lf v n 0
 ·cases hi with
  | none=>rfl
  | some v=>exact Lf v n n
theorem KS (i j:Nat):Builtin.Slice.slicePlaces (i:Int) (j:Int) 1=j-i:=by
 unfold Builtin.Slice.slicePlaces
 have h1:(1:Int) > 0:=by ext
 simp only [h1,if_true,Int.ediv_one]
 split<;>ext
theorem Ho {v:Value}{o:Option Int}{Q:Option Int->Shared->Prop}(p:IsPart v o)(h:Q o s):wpAny (model prog w) A (Builtin.Slice.slicePartIndex v) Q E s:=by
 cases p with
 | none=>exact slicePart_none h
 | int i t=>exact slicePart_int h
theorem EC {sl:Addr}{vl vu:Value}{lo hi:Option Int}{n:Nat}{Q:Int×Int×Nat->Shared->Prop}(hs:s.heap.IsSliceOf sl vl vu .none)(pl:IsPart vl lo)(pu:IsPart vu hi)
  (h:Q (((sIx n 0 lo:Nat):Int),1,sIx n n hi-sIx n 0 lo) s):wpAny (model prog w) A (Builtin.Slice.sliceApplied (.ref sl) (pure (n:Int))) Q E s:=by
 obtain ⟨os,hos,hcs,hds⟩:=id hs
 unfold Builtin.Slice.sliceApplied Builtin.Slice.sliceFields
 refine Aa (Aa (wpAny_field hos hds (x:=vl) rfl (Aa (wpAny_field hos hds (x:=vu) rfl (Aa (wpAny_field hos hds (x:=.none) rfl (Ac ?_)))))))
 refine Aa (slicePart_none ?_)
 show wpAny _ _ (if ((1:Int)==0)=true then _ else _) _ _ s
 rw [if_neg (by decide)]
 refine Aa (Ho pl (Aa (Ho pu (Aa (Ac ?_)))))
 show wpAny _ _ (match Builtin.Slice.sliceAdjust lo hi 1 (n:Int) with|(lo,hi)=>pure (lo,(1:Int),Builtin.Slice.slicePlaces lo hi 1)) _ _ s
 rw [Kr lo hi n]
 show wpAny _ _ (pure (((sIx n 0 lo:Nat):Int),(1:Int),Builtin.Slice.slicePlaces ((sIx n 0 lo:Nat):Int) ((sIx n n hi:Nat):Int) 1)) _ _ s
 rw [KS]
 exact Ac h
theorem Nm (xs:Array Value)(i k:Nat):((List.range k).filterMap λ(m:Nat)=>xs[((i:Int)+(m:Int)*1).toNat]?).toArray=((xs.toList.drop i).take k).toArray:=by
 have e:(λ(m:Nat)=>xs[((i:Int)+(m:Int)*1).toNat]?)=λm=>xs[i+m]?:=by
  funext m
  have:((i:Int)+(m:Int)*1).toNat=i+m:=by ext
  rw [this]
 rw [e]
 have:=pick_run xs i k
 rw [List.filterMap_map] at this
 have e2:((λx=>xs[x]?)∘λx=>i+x)=λm=>xs[i+m]?:=rfl
 rw [e2] at this
 rw [this]
theorem Ge {t sl:Addr}{items:Array Value}{vl vu:Value}{lo hi:Option Int}{Q:Value->Shared->Prop}(ht:IsTup s.heap t items)(hs:s.heap.IsSliceOf sl vl vu .none)(pl:IsPart vl lo)(pu:IsPart vu hi)
  (hw:¬ (sIx items.size 0 lo=0∧sIx items.size items.size hi=items.size))
  (h:Q (.ref s.heap.objs.size) { s with heap:=s.heap.push { cls:=.type "tuple",data:=.seq ((items.toList.drop (sIx items.size 0 lo)).take (sIx items.size items.size hi-sIx items.size 0 lo)).toArray } })
  (hsz:items.size≤sizeLine):wpAny (model prog w) A (getItem (.ref t) (.ref sl)) Q E s:=by
 have htake:sizeOk (.seq ((items.toList.drop (sIx items.size 0 lo)).take (sIx items.size items.size hi-sIx items.size 0 lo)).toArray):=by
  show ((items.toList.drop (sIx items.size 0 lo)).take (sIx items.size items.size hi-sIx items.size 0 lo)).toArray.size≤sizeLine
  rw [Ap,AE,BD,Array.length_toList]
  ext
 have hj:sIx items.size items.size hi≤items.size:=RR _ _ (Ak _) hi
 obtain ⟨os,hos,hcs,hds⟩:=id hs
 have hTs:s.TypeIs (.ref sl) "slice":=⟨os,hos,hcs⟩
 unfold getItem
 try with_reducible refine AS ?_
 first|refine Aa (Ac ?_)|skip
 refine Aa (wpAny_sequenceKey ht.typeIs (by decide) ?_)
 refine Aa (A6 (name:=Str.ofString "__getitem__") ht.typeIs Ba
  (AY Ba ht.typeIs entry_tuple_getitem ?_ (args_tuple_getitem _ _)))
 show wpAny _ _ (Builtin.Tuple.tupleItemsOf (.ref t) >>= _) _ _ s
 refine Aa (tupleItemsOf_ ht ?_)
 refine Aa (wpAny_typeOf hTs ?_)
 rw [if_pos (by decide)]
 refine Aa (EC hs pl pu ?_)
 have hno:¬ ((((sIx items.size 0 lo:Nat):Int)==0&&(1:Int)==1&&(sIx items.size items.size hi-sIx items.size 0 lo)==items.size)=true):=by
  intro q
  rw [Ab,Ab] at q
  have q1:((sIx items.size 0 lo:Nat):Int)=0:=eq_of_beq q.1.1
  have q2:sIx items.size items.size hi-sIx items.size 0 lo=items.size:=eq_of_beq q.2
  exact hw ⟨by ext,by ext⟩
 show wpAny _ _ (if (((sIx items.size 0 lo:Nat):Int)==0&&(1:Int)==1&&(sIx items.size items.size hi-sIx items.size 0 lo)==items.size)=true then _ else _) _ _ s
 rw [if_neg hno,Nm]
 first
  | exact Aa (m:=Builtin.Tuple.tupleExact _) (A3 (Ac ⟨_,rfl,Ac h⟩) htake)
  | exact Aa (m:=Builtin.Tuple.tupleExact _) (A3 (Aa (Ac (Ac ⟨_,rfl,Ac h⟩))) htake)
  | exact Aa (Aa (m:=Builtin.Tuple.tupleExact _) (A3 (Ac (Ac ⟨_,rfl,Ac h⟩)) htake))
  | exact Aa (Aa (m:=Builtin.Tuple.tupleExact _) (A3 (Ac ⟨_,rfl,Ac h⟩) htake))
end
end HT
namespace L2
open PySem PySem.Spec PyProof.Rows
abbrev TO:=St->Hp->(Option Int->Hp->Prop)->Prop
def PO (X:Cx)(e:Option Expr)(t:TO):Prop:=
 ∀ (pins:List (Addr×Obj)) (s:Shared) (σ:St) (H:Hp) (Q:Option Int->Hp->Prop),Inv X pins σ H s->t σ H Q ->
  wpAny (model X.prog X.w) X.A (evalPart e X.env) (λu s'=>∃ o H',Inv X pins σ H' s'∧IsPart u o∧Q o H') X.xe s
def Qi:TO:=λ_ H Q=>Q none H
def Tp (t:TE):TO:=fun σ H Q=>t σ H λx H1=>∃ i,x=.int i∧Q (some i) H1
section
variable {X:Cx} {e:Expr} {te:TE} {lo hi:Option Expr} {tl th:TO} {pos p2:Pos}
theorem Qh:PO X none Qi:=by
 intro pins s σ H Q I h
 rw [evalPart_none]
 exact Ac ⟨none,H,I,.none,h⟩
theorem P6 (h:PE X e te):PO X (some e) (Tp te):=by
 intro pins s σ H Q I hw
 rw [evalPart_some]
 refine thn (h pins s σ H _ I hw) λu s1 ⟨x,H1,I1,r1,q1⟩=>?_
 obtain ⟨i,rfl,q⟩:=q1
 obtain ⟨t,rfl⟩:=r1
 exact ⟨some i,H1,I1,.int i t,q⟩
def SlR (X:Cx)(r:V->Option Int->Option Int->Hp->VK->Prop):Prop:=
 ∀ (pins:List (Addr×Obj)) (s:Shared) (σ:St) (H:Hp) (x:V) (v vl vu:Value) (lo hi:Option Int) (sl:Addr) (Q:VK),Inv X pins σ H s->RelV x v->s.heap.IsSliceOf sl vl vu .none->IsPart vl lo->IsPart vu hi->r x lo hi H Q ->
  ∃ T id,typeLookup (.type T) "__getitem__"=pure (some (.builtin id))∧s.TypeIs v T∧wpAny (model X.prog X.w) X.A (getItem v (.ref sl)) (EP X pins σ Q) X.xe s
def tSl (r:V->Option Int->Option Int->Hp->VK->Prop)(te:TE)(tl th:TO):TE:=fun σ H Q=>te σ H λx H1=>tl σ H1 λl H2=>th σ H2 λu H3=>r x l u H3 Q
theorem NQ {r:V->Option Int->Option Int->Hp->VK->Prop}(hr:SlR X r)(he:PE X e te)(hl:PO X lo tl)(hu:PO X hi th):PE X (.Subscript e (.Slice lo hi none p2) pos) (tSl r te tl th):=by
 intro pins s σ H Q I h
 refine Subscript_ (thn (he pins s σ H _ I h) λv s1 ⟨x,H1,I1,r1,q1⟩=>?_)
 refine wpAny_Slice (thn (hl pins s1 σ H1 _ I1 q1) λvl s2 ⟨l,H2,I2,pl,q2⟩=>thn (hu pins s2 σ H2 _ I2 q2) λvu s3 ⟨u,H3,I3,pu,q3⟩=>?_)
 rw [evalPart_none]
 refine Ac ?_
 have I4:Inv X pins σ H3 { s3 with heap:=s3.heap.push { cls:=.type "slice",data:=.fields #[vl,vu,.none] } }:=I3.kept (t':=s3.toks) λb ob q=>Af _ q
 obtain ⟨T,id,hT,ht,hg⟩:=hr pins { s3 with heap:=s3.heap.push { cls:=.type "slice",data:=.fields #[vl,vu,.none] } } σ H3 x v vl vu l u s3.heap.objs.size Q I4 r1 (Heap.IsSliceOf.new ..) pl pu q3
 show wpAny (model X.prog X.w) X.A (subscriptTail e (.Slice lo hi none p2) v (.ref s3.heap.objs.size)) (EP X pins σ Q) X.xe { s3 with heap:=s3.heap.push { cls:=.type "slice",data:=.fields #[vl,vu,.none] } }
 exact tail_any (ops:=[.ref s3.heap.objs.size,v]) ht hT hg (by with_unfolding_all rfl)
def JD (xs:List V)(lo hi:Option Int):List V:=(xs.drop (HT.sIx xs.length 0 lo)).take (HT.sIx xs.length xs.length hi-HT.sIx xs.length 0 lo)
theorem GR (xs:List V)(lo hi:Option Int):(JD xs lo hi).length≤xs.length:=by
 unfold JD
 rw [AE,BD]
 ext
def Vu (K:PySem.W.Frag):V->Option Int->Option Int->Hp->VK->Prop:=λx lo hi H Q=>∃ a xs,x=.ref a∧SqT K H a xs ∧
 ¬ (HT.sIx xs.length 0 lo=0∧HT.sIx xs.length xs.length hi=xs.length)∧∀ p,H p=none->Q (.ref p) (upd H p (.tup (JD xs lo hi)))
theorem RU:SlR X (Vu X.K):=by
 intro pins s σ H x v vl vu lo hi sl Q I rx hs pl pu h
 obtain ⟨a,xs,rfl,hx,hw,q⟩:=h
 cases rx
 obtain ⟨its,r,ht,hz⟩:=I.tuple hx
 have hlen:its.toArray.size=xs.length:=by rw [Ap];exact r.length.symm
 refine ⟨"tuple",_,Ba.lookup,ht.typeIs,?_⟩
 refine HT.Ge ht hs pl pu (by rw [hlen];exact hw) ?_ (by rw [hlen];exact hz)
 rw [hlen]
 refine ⟨.ref s.heap.objs.size,_,I.laid (t':=s.toks) (o:=.tup (JD xs lo hi)) (λb ob q=>Af _ q) (Ak _) ?_,rfl,q _ (I.hok.fresh (Ak _))⟩
 exact ⟨⟨AM (GR xs lo hi) hz,⟨_,Av _ rfl,rfl⟩⟩,_,(r.drop (HT.sIx xs.length 0 lo)).take (HT.sIx xs.length xs.length hi-HT.sIx xs.length 0 lo),IsTup.new _ _⟩
def UB (K:PySem.W.Frag):R2:=λx y H Q=>∃ a b xs ys,x=.ref a∧y=.ref b∧SqT K H a xs∧SqT K H b ys∧xs≠[]∧xs.length+ys.length≤sizeLine ∧
 (ys=[]->Q (.ref a) H)∧(ys≠[]->∀ p,H p=none->Q (.ref p) (upd H p (.tup (xs++ys))))
theorem Vals.nil_iff {xs:List V}{us:List Value}(r:Vals xs us):us=[] ↔ xs=[]:=by
 cases r with
 | nil=>simp
 | cons _ _=>simp
theorem Pg:OpR X (binaryOp .Add) (UB X.K):=by
 intro pins s σ H x y v u Q I rx ry h
 obtain ⟨a,b,xs,ys,rfl,rfl,ha,hb,hx,hz,q1,q2⟩:=h
 cases rx
 cases ry
 obtain ⟨its,r1,p1,_⟩:=I.tuple ha
 obtain ⟨its2,r2,p2,_⟩:=I.tuple hb
 refine HT.PH p1 p2 (λz=>hx (r1.nil_iff.mp z)) (λz=>⟨.ref a,H,I,rfl,q1 (r2.nil_iff.mp z)⟩) (λz=>?_) (by rw [← r1.length,← r2.length];exact hz)
 refine ⟨.ref s.heap.objs.size,_,I.laid (t':=s.toks) (o:=.tup (xs++ys)) (λb ob q=>Af _ q) (Ak _) ?_,rfl,q2 (λw=>z (r2.nil_iff.mpr w)) _ (I.hok.fresh (Ak _))⟩
 exact ⟨⟨by rw [An];exact hz,⟨_,Av _ rfl,rfl⟩⟩,_,r1.append r2,IsTup.new _ _⟩
end
noncomputable def ixN (n:Nat)(i:Int):Option Nat:=if 0≤i then (if i<n then some i.toNat else none) else if -(n:Int)≤i then some (i+n).toNat else none
def atI {α:Type}(xs:List α)(i:Int):Option α:=(ixN xs.length i).bind λj=>xs[j]?
theorem L5 {n:Nat}{i:Int}{j:Nat}(h:ixN n i=some j):seqIndex? i n=some j∧j<n∧-(n:Int)≤i∧i<n:=by
 unfold ixN at h
 by_cases h0:0≤i
 ·rw [if_pos h0] at h
  by_cases h1:i<n
  ·rw [if_pos h1] at h
   have e:i.toNat=j:=AB h
   exact ⟨by rw [seqIndex_of h0 h1,e],by ext,by ext,h1⟩
  ·rw [if_neg h1] at h;cases h
 ·rw [if_neg h0] at h
  by_cases h1:-(n:Int)≤i
  ·rw [if_pos h1] at h
   have e:(i+n).toNat=j:=AB h
   exact ⟨by rw [seqIndex_neg (by ext) h1,e],by ext,h1,by ext⟩
  ·rw [if_neg h1] at h;cases h
theorem GZ {α:Type}{xs:List α}{i:Int}{v:α}(h:atI xs i=some v):∃ j,seqIndex? i xs.length=some j∧xs[j]? = some v∧j<xs.length∧-(xs.length:Int)≤i∧i<xs.length:=by
 unfold atI at h
 cases e:ixN xs.length i with
 | none=>rw [e] at h;cases h
 | some j =>
  rw [e] at h
  obtain ⟨h1,h2,h3,h4⟩:=L5 e
  exact ⟨j,h1,h,h2,h3,h4⟩
def L3 (b:Expr):Prop:=∀ o i,subscripted b false o i=operate [o,i] (getItem o i)
def IxR (X:Cx)(r:R2):Prop:=
 ∀ (value slice:Expr) (pins:List (Addr×Obj)) (s:Shared) (σ:St) (H:Hp) (x y:V) (v u:Value) (Q:VK),Inv X pins σ H s->RelV x v->RelV y u->r x y H Q ->
  subscripted slice false v u=operate [v,u] (getItem v u)->wpAny (model X.prog X.w) X.A (subscriptTail value slice v u) (EP X pins σ Q) X.xe s
def MtR (X:Cx)(id:String)(r:V->List V->Hp->VK->Prop):Prop:=
 ∀ (pins:List (Addr×Obj)) (s:Shared) (σ:St) (H:Hp) (x:V) (xs:List V) (v:Value) (us:List Value) (Q:VK),Inv X pins σ H s->RelV x v->Vals xs us->r x xs H Q ->
  wpAny (model X.prog X.w) X.A (call (.builtin id) (v::us)) (EP X pins σ Q) X.xe s
section
variable {X:Cx} {a b:Expr} {ta tb:TE} {pos:Pos}
theorem IxR.or {r r':R2}(h:IxR X r)(h':IxR X r'):IxR X (λx y H Q=>r x y H Q∨r' x y H Q):=by
 intro value slice pins s σ H x y v u Q I rx ry q hs
 rcases q with q|q
 ·exact h value slice pins s σ H x y v u Q I rx ry q hs
 ·exact h' value slice pins s σ H x y v u Q I rx ry q hs
theorem UU {r:R2}(hr:IxR X r)(ha:PE X a ta)(hb:PE X b tb)(hs:L3 b):PE X (.Subscript a b pos) (tOp r ta tb):=by
 intro pins s σ H Q I h
 exact Subscript_ (Si ha hb I h λv u s2 x y H2 I2 rx ry q=>hr a b pins s2 σ H2 x y v u Q I2 rx ry q (hs _ _))
def Q7 (K:PySem.W.Frag):R2:=λx y H Q=>∃ p xs i v,x=.ref p∧y=.int i∧SqL K H p xs∧atI xs i=some v∧Q v H
def T4 (K:PySem.W.Frag):R2:=λx y H Q=>∃ p xs i v,x=.ref p∧y=.int i∧SqT K H p xs∧atI xs i=some v∧Q v H
def TU:R2:=λx y H Q=>∃ z i c,x=.str z∧y=.int i∧z.length≤sizeLine∧atI z.cps.toList i=some c∧Q (.str ⟨#[c]⟩) H
theorem Ql:IxR X (Q7 X.K):=by
 intro value slice pins s σ H x y v u Q I rx ry h hs
 obtain ⟨p,xs,i,z,rfl,rfl,hq,he,q⟩:=h
 cases rx
 obtain ⟨t,rfl⟩:=ry
 obtain ⟨its,r,pl,hz⟩:=I.list hq
 obtain ⟨j,h1,h2,h3,h4,h5⟩:=GZ he
 obtain ⟨w,ew,rw'⟩:=r.get h2
 have hl:=r.length
 have hn:=Gr
 have fin:EP X pins σ Q w s:=⟨z,H,I,rw',q⟩
 by_cases h0:0≤i
 ·have hj:i.toNat=j:=by
   rw [seqIndex_of h0 h5] at h1
   exact AB h1
  exact item_listR pl.isList h0 (by ext) (by rw [hj];simpa using ew) fin hs
 ·have hj:(i+(its.toArray.size:Int)).toNat=j:=by
   rw [seqIndex_neg (by ext) h4] at h1
   rw [Ap,← hl]
   exact AB h1
  exact subscriptTail_builtinR (x:=w) pl.isList.typeIs slot_list_getitem.lookup
   (wpAny_getItem_list_neg (Q:=λr s'=>r=w∧EP X pins σ Q r s') pl.isList (by ext) (by rw [Ap]<;>ext) (by ext) (by rw [hj];simpa using ew) ⟨rfl,fin⟩) hs
theorem SE:IxR X (T4 X.K):=by
 intro value slice pins s σ H x y v u Q I rx ry h hs
 obtain ⟨p,xs,i,z,rfl,rfl,hq,he,q⟩:=h
 cases rx
 obtain ⟨t,rfl⟩:=ry
 obtain ⟨its,r,pl,hz⟩:=I.tuple hq
 obtain ⟨j,h1,h2,h3,h4,h5⟩:=GZ he
 obtain ⟨w,ew,rw'⟩:=r.get h2
 have hl:=r.length
 have hn:=Gr
 have fin:EP X pins σ Q w s:=⟨z,H,I,rw',q⟩
 exact subscriptTail_builtinR (x:=w) pl.typeIs slot_tuple_getitem.lookup
  (getItem_tuple (j:=j) (Q:=λr s'=>r=w∧EP X pins σ Q r s') pl (by ext) (by ext) (by rw [Ap,← hl];exact h1) (by simpa using ew) ⟨rfl,fin⟩) hs
theorem SN:IxR X TU:=by
 intro value slice pins s σ H x y v u Q I rx ry h hs
 obtain ⟨z,i,c,rfl,rfl,hz,he,q⟩:=h
 obtain ⟨t,rfl⟩:=rx
 obtain ⟨t',rfl⟩:=ry
 obtain ⟨j,h1,h2,h3,h4,h5⟩:=GZ he
 have hl:z.cps.toList.length=z.length:=by simp [Str.length]
 rw [hl] at h1 h4 h5
 have hn:=Gr
 exact tail_any (typeIs_str s z t) slot_str_getitem.lookup (getItem_str (c:=c) (by
  have e1:decide (i < -(2 ^ 63:Int))=false:=A1 (by ext)
  have e2:decide (i ≥ 2 ^ 63)=false:=A1 (by ext)
  rw [e1,e2,Bool.or_false]) (by rw [h1];simpa using h2) ⟨.str ⟨#[c]⟩,H,I.tok _,⟨_,rfl⟩,q⟩) hs
def rIx (K:PySem.W.Frag):R2:=λx y H Q=>Q7 K x y H Q∨T4 K x y H Q∨TU x y H Q
theorem Q8:IxR X (rIx X.K):=Ql.or (SE.or SN)
theorem Kz (its:List Value)(n j:Nat)(u:Value):Obj.mapSeq (·.setIfInBounds j u) { cls:=.type "list",data:=.seq its.toArray n }={ cls:=.type "list",data:=.seq (its.set j u).toArray n }:=by
 simp [Obj.mapSeq]
theorem Inv.lst {pins:List (Addr×Obj)}{σ:St}{H:Hp}{s:Shared}{p:Addr}{xs:List V}(I:Inv X pins σ H s)(h:H p=some (.lst xs)) :
  ∃ (its:List Value) (n:Nat),Vals xs its∧s.heap.get? p=some { cls:=.type "list",data:=.seq its.toArray n }∧xs.length≤sizeLine:=by
 obtain ⟨z,its,n,r,e⟩:=I.hok p _ h
 exact ⟨its,n,r,e,z⟩
theorem Inv.lstUpd {pins:List (Addr×Obj)}{σ:St}{H:Hp}{s:Shared}{p:Addr}{xs ys:List V}{its its':List Value}{n n':Nat}{f:Obj->Obj}(I:Inv X pins σ H s)(h:H p=some (.lst xs))
  (ho:s.heap.get? p=some { cls:=.type "list",data:=.seq its.toArray n }) (hf:f { cls:=.type "list",data:=.seq its.toArray n }={ cls:=.type "list",data:=.seq its'.toArray n' }) (r:Vals ys its') (hz:ys.length≤sizeLine) (t:Nat) :
  Inv X pins σ (upd H p (.lst ys)) { s with heap:=s.heap.update p f,toks:=t }:=by
 have e:(s.heap.update p f).get? p=some { cls:=.type "list",data:=.seq its'.toArray n' }:=by
  rw [A5 f ho (by rw [hf]<;>rfl),hf]
 refine I.write (x:=p) (e:=p) (by rw [h];trivial) (.inl rfl) (λb u hb q=>(Bv _ _ (Ne.symm hb)).trans q) ⟨_,e⟩ ?_
 exact ⟨hz,its',n',r,e⟩
def Tq:V->V->V->Hp->(Hp->Prop)->Prop:=λo i v H Q=>∃ p xs k j,o=.ref p∧i=.int k∧H p=some (.lst xs)∧ixN xs.length k=some j∧Q (upd H p (.lst (xs.set j v)))
theorem set_list:Pb X Tq:=by
 intro pins s σ H o i v ov iv u Q I ro ri rv h
 obtain ⟨p,xs,k,j,rfl,rfl,hp,hj,q⟩:=h
 cases ro
 obtain ⟨t,rfl⟩:=ri
 obtain ⟨its,n,r,ho,hz⟩:=I.lst hp
 obtain ⟨h1,h2,h3,h4⟩:=L5 hj
 have hl:=r.length
 have hn:=Gr
 have I':Inv X pins σ (upd H p (.lst (xs.set j v))) { s with heap:=s.heap.update p (Obj.mapSeq (·.setIfInBounds j u)) }:=
  I.lstUpd hp ho (Kz its n j u) (r.set rv j) (by rw [Bb];exact hz) s.toks
 by_cases h0:0≤k
 ·have hk:k.toNat=j:=by
   rw [seqIndex_of h0 h4] at h1
   exact AB h1
  exact PySem.W.ki_setAt ho h0 (by ext) (by rw [Ap,← hl];exact h4) (by rw [hk];exact ⟨_,I',q⟩)
 ·have hk:(k+(its.toArray.size:Int)).toNat=j:=by
   rw [seqIndex_neg (by ext) h3] at h1
   rw [Ap,← hl]
   exact AB h1
  exact PySem.W.ki_setBack ho (by ext) (by rw [Ap,← hl];exact h3) (by ext) (by rw [hk];exact ⟨_,I',q⟩)
theorem IG (lo hi:Option Int)(n:Nat):(sliceBounds lo hi none n).1=((HT.sIx n 0 lo:Nat):Int)∧(sliceBounds lo hi none n).2.1=((HT.sIx n n hi:Nat):Int)∧(sliceBounds lo hi none n).2.2=1:=by
 refine ⟨?_,?_,rfl⟩
 ·cases lo with
  | none=>simp [sliceBounds,HT.sIx]
  | some i =>
   simp only [sliceBounds,HT.sIx,Option.getD_none,show (1:Int) > 0 by decide,if_true]
   by_cases h:i<0
   ·simp only [h,if_true]<;>ext
   ·simp only [h,if_false]<;>ext
 ·cases hi with
  | none=>simp [sliceBounds,HT.sIx]
  | some i =>
   simp only [sliceBounds,HT.sIx,Option.getD_none,show (1:Int) > 0 by decide,if_true]
   by_cases h:i<0
   ·simp only [h,if_true]<;>ext
   ·simp only [h,if_false]<;>ext
theorem HK (its:List Value)(lo hi:Option Int):slicePick its.toArray lo hi none=((its.drop (HT.sIx its.length 0 lo)).take (HT.sIx its.length its.length hi-HT.sIx its.length 0 lo)).toArray:=by
 obtain ⟨h1,h2,h3⟩:=IG lo hi its.toArray.size
 unfold slicePick
 rw [h1,h2,h3]
 simp only [sliceRange_one,pick_run,Ap]<;>rfl
def TR (K:PySem.W.Frag):V->Option Int->Option Int->Hp->VK->Prop:=λx lo hi H Q=>∃ a xs,x=.ref a∧SqL K H a xs∧∀ p,H p=none->Q (.ref p) (upd H p (.lst (JD xs lo hi)))
theorem Qq:SlR X (TR X.K):=by
 intro pins s σ H x v vl vu lo hi sl Q I rx hs pl pu h
 obtain ⟨a,xs,rfl,hx,q⟩:=h
 cases rx
 obtain ⟨its,r,ht,hz⟩:=I.list hx
 have hlen:=r.length
 refine ⟨"list",_,slot_list_getitem.lookup,ht.isList.typeIs,?_⟩
 refine wpAny_getItem_list_slice ht.isList hs pl pu .none (by simp) ?_ (by rw [Ap]<;>ext)
 rw [HK,← hlen]
 refine ⟨.ref s.heap.objs.size,_,I.laid (t':=s.toks) (o:=.lst (JD xs lo hi)) (λb ob q=>Af _ q) (Ak _) ?_,rfl,q _ (I.hok.fresh (Ak _))⟩
 exact ⟨AM (GR xs lo hi) hz,_,0,(r.drop (HT.sIx xs.length 0 lo)).take (HT.sIx xs.length xs.length hi-HT.sIx xs.length 0 lo),Av _ rfl⟩
theorem EX:EB X (.builtin "len") (λxs H Q=>∃ p ys,xs=[.ref p]∧(SqL X.K H p ys∨SqT X.K H p ys)∧Q (.int ys.length) H):=by
 intro pins s σ H xs us Q I r h
 obtain ⟨p,ys,rfl,hq,q⟩:=h
 obtain ⟨u,rfl,rx⟩:=vals1 r
 cases rx
 have hn:=Gr
 rcases hq with hq|hq
 ·obtain ⟨its,r',pl,hz⟩:=I.list hq
  have hlen:=r'.length
  exact Calls.call_len_list pl.isList (by simp only [Ap]<;>ext) ⟨.int ys.length,H,I.tok _,⟨s.toks+1,by rw [Ap,hlen]⟩,q⟩
 ·obtain ⟨its,r',pl,hz⟩:=I.tuple hq
  have hlen:=r'.length
  exact len_tuple pl (by simp only [Ap]<;>ext) ⟨.int ys.length,H,I.tok _,⟨s.toks+1,by rw [Ap,hlen]⟩,q⟩
theorem Jm:EB X (.builtin "len") (λxs H Q=>∃ z,xs=[.str z]∧z.length≤sizeLine∧Q (.int z.length) H):=by
 intro pins s σ H xs us Q I r h
 obtain ⟨z,rfl,hz,q⟩:=h
 obtain ⟨u,rfl,t,rfl⟩:=vals1 r
 have hn:=Gr
 exact len_str (by ext) ⟨.int z.length,H,I.tok _,⟨_,rfl⟩,q⟩
theorem IS:EB X (.type "list") (λxs H Q=>∃ p ys,xs=[.ref p]∧(SqL X.K H p ys∨SqT X.K H p ys)∧∀ l,H l=none->Q (.ref l) (upd H l (.lst ys))):=by
 intro pins s σ H xs us Q I r h
 obtain ⟨p,ys,rfl,hq,q⟩:=h
 obtain ⟨u,rfl,rx⟩:=vals1 r
 cases rx
 have fin:∀ (its:List Value),Vals ys its->ys.length≤sizeLine->∀ (h':Heap) (c':Nat),(∀ b o',s.heap.get? b=some o'->h'.get? b=some o') ->
   h'.get? s.heap.objs.size=some { cls:=.type "list",dict:=none,data:=.seq its.toArray c',slots:=#[] }->EP X pins σ Q (.ref s.heap.objs.size) { s with heap:=h' }:=λits r' hz h' c' kp e =>
  ⟨.ref s.heap.objs.size,_,I.laid (t':=s.toks) kp (Ak _) (show ObjOk X.prog X.w _ h' _ (.lst ys) from ⟨hz,its,c',r',e⟩),rfl,q _ (I.hok.fresh (Ak _))⟩
 rcases hq with hq|hq
 ·obtain ⟨its,r',pl,hz⟩:=I.list hq
  have hlen:=r'.length
  obtain ⟨o,ho,hc,n,hd⟩:=pl.isList
  exact call_list_seq p (.inl rfl) ho hc hd (λh' c' kp e=>fin its r' hz h' c' kp e) (by simp only [Ap]<;>ext)
 ·obtain ⟨its,r',pl,hz⟩:=I.tuple hq
  have hlen:=r'.length
  obtain ⟨o,ho,hc,n,hd⟩:=pl
  exact call_list_seq p (.inr rfl) ho hc hd (λh' c' kp e=>fin its r' hz h' c' kp e) (by simp only [Ap]<;>ext)
theorem HE:EB X (.type "tuple") (λxs H Q=>∃ p ys,xs=[.ref p]∧((SqL X.K H p ys∧∀ l,H l=none->Q (.ref l) (upd H l (.tup ys)))∨(SqT X.K H p ys∧Q (.ref p) H))):=by
 intro pins s σ H xs us Q I r h
 obtain ⟨p,ys,rfl,h⟩:=h
 obtain ⟨u,rfl,rx⟩:=vals1 r
 cases rx
 rcases h with ⟨hq,q⟩|⟨hq,q⟩
 ·obtain ⟨its,r',pl,hz⟩:=I.list hq
  have hlen:=r'.length
  refine call_tuple_list pl.isList (λh' kp=>?_) (by simp only [Ap]<;>ext)
  have I1:Inv X pins σ H { s with heap:=h' }:=I.kept (t':=s.toks) kp
  have I2:Inv X pins σ (upd H h'.objs.size (.tup ys)) { s with heap:=h'.push { cls:=.type "tuple",data:=.seq its.toArray } }:=
   I1.laid (t':=s.toks) (λb o e=>Af _ e) (Ak _) (show ObjOk X.prog X.w _ _ _ (.tup ys) from ⟨⟨hz,⟨_,Av _ rfl,rfl⟩⟩,its,r',IsTup.new _ _⟩)
  exact ⟨.ref h'.objs.size,_,I2,rfl,q _ (I1.hok.fresh (Ak _))⟩
 ·obtain ⟨its,r',pl,hz⟩:=I.tuple hq
  exact call_tuple_same pl ⟨.ref p,H,I,rfl,q⟩
def tyV (K:PySem.W.Frag)(T:String)(x:V)(H:Hp):Prop:=match x with
 | .str _=>T="str"
 | .int _=>T="int"
 | .ref p=>(T="list"∧∃ xs,SqL K H p xs)∨(T="tuple"∧∃ o,K.lookup p=some o∧o.cls=.type "tuple"∧o.dict=none) ∨
   (T="dict"∧((∃ kvs,H p=some (.dK kvs))∨∃ kvs,H p=some (.dT kvs)))∨(T="set"∧∃ S n,H p=some (.set S n))
 | _=>False
theorem Sk {pins:List (Addr×Obj)}{σ:St}{H:Hp}{s:Shared}{T:String}{x:V}{v:Value}(I:Inv X pins σ H s)(r:RelV x v)(ty:tyV X.K T x H) :
  s.TypeIs v T∧∀ a,v=.ref a->∃ ob,s.heap.get? a=some ob∧ob.dict=none:=by
 cases x with
 | str z =>
  obtain ⟨t,rfl⟩:=r
  cases (show T="str" from ty)
  exact ⟨typeIs_str s z t,λ_ e=>nomatch e⟩
 | int i =>
  obtain ⟨t,rfl⟩:=r
  cases (show T="int" from ty)
  exact ⟨typeIs_int s i t,λ_ e=>nomatch e⟩
 | ref p =>
  cases r
  rcases ty with ⟨rfl,xs,hq⟩|⟨rfl,o,hk,hc,hd⟩|⟨rfl,hk⟩|⟨rfl,S,n,hk⟩
  ·obtain ⟨its,_,pl,_⟩:=I.list hq
   refine ⟨pl.isList.typeIs,λa e=>?_⟩
   cases e
   obtain ⟨o,n,e,c,hd,_⟩:=pl
   exact ⟨o,e,hd⟩
  ·refine ⟨⟨o,I.kIn p o hk,hc⟩,λa e=>?_⟩
   cases e
   exact ⟨o,I.kIn _ o hk,hd⟩
  ·have z:∃ o,s.heap.get? p=some o∧o.ExactDict:=by
    rcases hk with ⟨kvs,hk⟩|⟨kvs,hk⟩
    ·obtain ⟨_,_,_,_,o,_,_,e,ex,_⟩:=I.hok p _ hk
     exact ⟨o,e,ex⟩
    ·obtain ⟨_,_,_,_,o,_,_,e,ex,_⟩:=I.hok p _ hk
     exact ⟨o,e,ex⟩
   obtain ⟨o,e,ex⟩:=z
   refine ⟨⟨o,e,ex.1⟩,λa e2=>?_⟩
   cases e2
   exact ⟨o,e,ex.2.1⟩
  ·obtain ⟨o,_,_,_,e,ex,_⟩:=I.hok p _ hk
   refine ⟨⟨o,e,ex.1⟩,λa e2=>?_⟩
   cases e2
   exact ⟨o,e,ex.2.1⟩
 | _=>exact False.elim ty
def tBM (K:PySem.W.Frag)(T:String)(r:V->List V->Hp->VK->Prop)(to:TE)(t:TA):TE:=fun σ H Q=>to σ H λx H1=>tyV K T x H1∧t σ H1 λxs H2=>r x xs H2 Q
variable {o e:Expr} {es:List Expr} {to:TE} {t:TA} {name:Str} {apos cpos:Pos} {T id:String} {r:V->List V->Hp->VK->Prop}
theorem QR (pa:PlainAttrs T)(slot:Slot T name id)(hty:typeOf (.builtin id)=pure (.type "method_descriptor"))(hm:MtR X id r)(ho:PE X o to)(ha:PA X (e::es) t)
  (hbase:attributeBase o name X.env (eval o X.env)=eval o X.env:=by rfl)
  (hfew:((backTo cpos (starEach (e::es) X.env)).all (λx=>!x.1)&&(backToKw cpos (keywordEach [] X.env)).all (λx=>x.1.isSome)
   && decide ((e::es).length+([]:List Keyword).length+(if ([]:List Keyword).isEmpty then 0 else 1)<30))=true:=by rfl)
  (hline:(apos.endLine==cpos.line)=true:=by rfl) (hs:starEach (e::es) X.env=(false,eval e X.env)::starEach es X.env:=by rfl) (hplain:(backTo cpos (starEach es X.env)).any (·.1)=false:=by rfl) :
  PE X (.Call (.Attribute o name apos) (e::es) [] cpos) (tBM X.K T r to t):=by
 intro pins s σ H Q I h
 refine wpAny_Call_method_late hbase hfew hline rfl (thn (ho pins s σ H _ I h) λv s1 ⟨x,H1,I1,r1,ty,q1⟩=>?_)
 obtain ⟨h1,h2⟩:=Sk I1 r1 ty
 refine ⟨T,id,pa,slot,hty,h1,h2,?_⟩
 have hA:=ha cpos pins s1 σ H1 _ I1 q1
 rw [hs] at hA ⊢
 refine Calls.callWith_builtin (by show (false||(backTo cpos (starEach es X.env)).any (·.1))=false;rw [hplain]<;>rfl) (Calls.evalArgs_plain ?_)
 exact thn hA λus s2 ⟨vs,H2,I2,r2,q2⟩=>hm pins s2 σ H2 x vs v us Q I2 r1 r2 q2
end
def MtM (X:Cx)(id:String)(r:V->List V->Hp->VK->Prop):Prop:=
 ∀ (pins:List (Addr×Obj)) (s:Shared) (σ:St) (H:Hp) (x:V) (xs:List V) (v:Value) (us:List Value) (Q:VK),Inv X pins σ H s->RelV x v->Vals xs us->r x xs H Q ->
  wpAny (model X.prog X.w) X.A (call (.builtin id) (v::us)) (EP X pins σ Q) X.xe s
theorem Vals.one:∀ {x:V} {us:List Value},Vals [x] us->∃ u,us=[u]∧RelV x u
 | _,_,.cons r .nil=>⟨_,rfl,r⟩
section
variable {X:Cx} {pins:List (Addr×Obj)} {σ:St} {H:Hp} {s:Shared} {l b:Addr} {xs ys zs:List V}
theorem Inv.lset {its its':List Value}{n:Nat}{f:Array Value->Array Value}{t':Nat}(I:Inv X pins σ H s)(hH:H l=some (.lst xs))
  (e:s.heap.get? l=some { cls:=.type "list",data:=.seq its.toArray n }) (hf:f its.toArray=its'.toArray) (hv:Vals ys its') (hz:ys.length≤sizeLine) :
  Inv X pins σ (upd H l (.lst ys)) { s with heap:=s.heap.update l (Obj.mapSeq f),toks:=t' }:=by
 have q:=PySem.IsL.update e f
 rw [hf] at q
 refine I.write (x:=l) (e:=l) (by rw [hH];exact trivial) (.inl rfl) (λb' u hb hu=>(Bv s.heap (Obj.mapSeq f) (Ne.symm hb)).trans hu) ⟨_,q⟩ ?_
 exact ⟨hz,its',_,hv,q⟩
theorem Inv.lstM (I:Inv X pins σ H s)(hH:H l=some (.lst xs)):xs.length≤sizeLine∧∃ (its:List Value) (n:Nat),Vals xs its∧xs.length=its.length∧s.heap.get? l=some { cls:=.type "list",data:=.seq its.toArray n }:=by
 obtain ⟨z,its,n,r,e⟩:=I.hok l _ hH
 exact ⟨z,its,n,r,r.length,e⟩
theorem Nq {n:Nat}(h:n≤sizeLine):Builtin.List.listTooLong n=false:=by
 unfold Builtin.List.listTooLong
 exact A1 (by ext)
end
section
variable {X:Cx}
def Qz:V->List V->Hp->VK->Prop:=λx vs H Q=>∃ l xs y,x=.ref l∧vs=[y]∧H l=some (.lst xs)∧xs.length<sizeLine∧Q .non (upd H l (.lst (xs++[y])))
theorem MA:MtM X "list.append" Qz:=by
 intro pins s σ H x vs v us Q I rx rv h
 obtain ⟨l,xs,y,rfl,rfl,hH,hz,q⟩:=h
 cases rx
 obtain ⟨u,rfl,ru⟩:=rv.one
 obtain ⟨z,its,n,r,hl,e⟩:=I.lstM hH
 refine call_meets F.slot_list_append ⟨_,e,rfl⟩ F.entry_list_append (F.args_list_append_2 _ _) (PySem.list_append l its.toArray n u (by rw [Ap];ext)) ⟨e,?_⟩
 refine ⟨.non,_,I.lset (its':=its++[u]) hH e (by simp) (r.append (.cons ru .nil)) ?_,rfl,q⟩
 rw [An,List.length_singleton]
 ext
end
end L2
namespace Att
open PySem PySem.W PySem.Calls PyProof.Rows
theorem GX {P:Params}{h:Heap}:∀ (ns:List Int) (vs:List Value),WellAll P h vs (ns.map WData.int)->IntsAre vs ns:=by
 intro ns
 induction ns with
 | nil =>
  intro vs w
  rw [List.map_nil] at w
  cases w
  exact .nil
 | cons n ns ih =>
  intro vs w
  rw [Bi] at w
  cases w with
  | cons a b =>
   cases a
   exact .cons _ _ (ih _ b)
theorem Mh {l:OpenLaw}{n:Nat}(hn:l.most=some n){P:Params}{h:Heap}{args:List WData}{vals:List Value}
  (hpre:l.row.toRowW.claim.pre args=true) (hwl:WellAll P h vals args) :
  ∃ a vs ns,vals=[Value.ref a]∧args=[WData.list (ns.map WData.int)]∧h.get? a=some { cls:=.type "list",data:=.seq vs.toArray }∧IntsAre vs ns∧ns.length≤n:=by
 have hsh:WShape.hasAll [] args [.list .int]=true:=(pre_splitW hpre).1
 have hc:l.pre.holds [] { args:=args }=true:=(pre_splitW hpre).2
 obtain ⟨d,r,rfl,h1,h2⟩:=hasAllW_cons hsh
 obtain rfl:=hasAllW_nil h2
 obtain ⟨xs,rfl,h3⟩:=hasW_list h1
 obtain ⟨ns,rfl⟩:=items_int h3
 have hlen:ns.length≤n:=by
  unfold OpenLaw.pre at hc
  have h4:(WTm.not (.lt (.lit (.int (n:Int))) (.len (.arg 0)))).holds [] { args:=[.list (ns.map .int)] }=true:=by
   have h4:=(holds_andW hc).1
   rw [hn] at h4
   exact h4
  have h5:=condW_of h4 (w_not (w_lt w_lit (w_len_list (w_arg rfl))))
  rw [Ae] at h5
  refine Nat.le_of_not_lt λq=>?_
  have q':(n:Int)<((ns.length:Nat):Int):=by ext
  first
   | (rw [Br q'] at h5;exact absurd h5 (by decide))
   | (simp at h5;ext)
 cases hwl with
 | cons w1 w2 =>
  cases w2
  cases w1 with
  | list ho hall=>exact ⟨_,_,ns,rfl,rfl,ho,GX ns _ hall,hlen⟩
theorem Mf (l:OpenLaw)(args:List WData):l.row.toRowW.claim.post args (.bool true) args=true:=
 postW_of (r:=l.row.toRowW) (X:=(true==true))
  (show WShape.has [] (.bool true) .bool=true by first|rfl|decide|simp [WShape.has,WShape.arms,WShape.armsAll])
  (show (WTm.eq .res (.lit (.bool true))).value [] { args:=args,res:=some (.bool true),after:=args }=some (.bool (true==true)) from w_eq_bool (w_res rfl) w_lit) rfl
theorem J0 {l:OpenLaw}{n:Nat}{q:Program}{loose:List Str}{XP:(Str->Option Value)->Heap->Prop}{YP:World->Heap->Prop}{d:DefRec}
  (hn:l.most=some n) (hdf:d.params.defaults=[])
  (call:∀ (w:World) (s₀ s₁:Shared) (mg mb:Str->Option Value) (fa:Addr) (o:Obj) (pm cd doc:Value) (a:Addr) (vs:List Value) (ns:List Int),
   Ground q loose [] XP w s₀ mg mb s₁.heap->YP w s₁.heap ->
   s₁.heap.get? fa=some o->o.data=.func (docDef d.name d.params d.body d.scope pm cd doc)->s₁.heap.CodeRec cd d.name->mg d.name=some (.ref fa) ->
   s₁.heap.get? a=some { cls:=.type "list",data:=.seq vs.toArray }->IntsAre vs ns->ns.length≤n->s₁.gens=#[] ->
   codeAny (model l.prog w) callerA (.call (.ref fa) ⟨[.ref a],[]⟩) (λr s'=>r=.ok (.ret (.bool true))∧OldK s₁.heap s'.heap∧s'.os=s₁.os∧AllBare s'.gens) s₁) :
  WalkO q loose XP YP l.row.toRowW d [] (λf vs=>PySem.call f vs):=by
 intro w s₀ s₁ mg mb G Y fa o pm cd doc dV kV ho hd hcd hD hmg hg args vals as hpre hlay hrd hwl hlo
 obtain rfl:dV=.none:=Dflts.none hD hdf
 obtain rfl:kV=.none:=Dflts.noKw hD
 obtain ⟨a,vs,ns,rfl,rfl,hobj,hints,hlen⟩:=Mh hn hpre hwl
 refine enter_call (codeAny_mono (call w s₀ s₁ mg mb fa o pm cd doc a vs ns G Y ho (fd_plain hd) hcd hmg hobj hints hlen hg) λr s' hq=>?_)
 obtain ⟨rfl,h2,h3,h4⟩:=hq
 exact ⟨.inl ⟨.bool true,.bool true,[],rfl,λ_=>rfl,.bool true,Mf l _,λ_=>⟨List.Pairwise.nil,λ_ hm=>(nomatch hm)⟩⟩,h2,h3,h4⟩
end Att
namespace L2
open PySem PySem.Spec PyProof.Rows
theorem H0:∀ {vs:List Value} {ns:List Int},IntsAre vs ns->Vals (ns.map V.int) vs
 | _,_,.nil=>.nil
 | _,_,.cons n t h=>.cons ⟨t,rfl⟩ (H0 h)
def RW (H:Hp):Prop:=∀ b,H b=none∨∃ o xs,H b=some (.frz o (.lst xs))
theorem OB {P:Program}{w:World}{K:PySem.W.Frag}{mg mb:Str->Option Value}{CX:CXT}{k:Nat}{fa a:Addr}{fd:FuncData}{x:Str}{sp:Sp}{s₁:Shared}{vs:List Value}{ns:List Int}
  (KX:K.In s₁.heap) (hns:s₁.heap.Ns mainGlobals mg) (hb:s₁.heap.Ns builtinsNs mb) (hbb:∀ x:Str,x≠"__name__"->mb x=bootBuiltins x) (hlim:s₁.heap.NoLimit) (hg:s₁.gens=#[])
  (ha:s₁.heap.get? a=some { cls:=.type "list",data:=.seq vs.toArray }) (hi:IntsAre vs ns) (hl:ns.length≤sizeLine) (hr:Room k callerA)
  (F:∀ base:Heap,K.In base->base.Ns mainGlobals mg->DJ P w K mg base CX k fa fd [x] sp) (hbind:∀ (s:Shared) (u:Value),BindsTo s fd ⟨[u],[]⟩ [(x,u)])
  (hsp:∀ H:Hp,RW H->SqL K H a (ns.map V.int)->sp [.ref a] H (λv _=>v=.bl true) λ_ _ _=>False)
  (hCX:∀ H e s',CX [] H s₁ (λ_ _ _=>False) e s'->False) :
  codeAny (model P w) callerA (.call (.ref fa) ⟨[.ref a],[]⟩) (λr s'=>r=.ok (.ret (.bool true))∧OldK s₁.heap s'.heap∧s'.os=s₁.os∧AllBare s'.gens) s₁:=by
 have rv:=H0 hi
 have lenV:=hi.length
 have core:∀ H:Hp,RW H->SqL K H a (ns.map V.int)->HOk P w H s₁.heap->(∀ b,H b≠none->b=a)->(H a≠none->K.lookup a=none) ->
   codeAny (model P w) callerA (.call (.ref fa) ⟨[.ref a],[]⟩) (λr s'=>r=.ok (.ret (.bool true))∧OldK s₁.heap s'.heap∧s'.os=s₁.os∧AllBare s'.gens) s₁:=by
  intro H hO hS hok hA hK
  have base_of:∀ {b:Addr} {o:Obj},s₁.heap.get? b=some o->H b=none->(IQ s₁.heap H).get? b=some o:=λe n=>Oo e n
  have noA:∀ {b:Addr} {o:Obj} {es:Array DictEntry} {ep:Nat},s₁.heap.get? b=some o->o.data=.dict es ep->H b=none:=λ{b o es ep} e d=>by
   cases q:H b with
   | none=>rfl
   | some u =>
    have e':b=a:=hA b (by rw [q];simp)
    subst e'
    rw [ha] at e;cases e
    have d':Data.seq vs.toArray _=Data.dict es ep:=d
    cases d'
  have nsK:∀ {b:Addr} {m:Str->Option Value},s₁.heap.Ns b m->(IQ s₁.heap H).Ns b m:=λ{b m} ⟨o,es,ep,e,d,r⟩=>⟨o,es,ep,base_of e (noA e d),d,r⟩
  have hKb:K.In (IQ s₁.heap H):=λb o e=>base_of (KX b o e) (by
   cases q:H b with
   | none=>rfl
   | some u =>
    have e':b=a:=hA b (by rw [q];simp)
    subst e'
    rw [hK (by rw [q];simp)] at e;cases e)
  have hM:Mod K mg (IQ s₁.heap H):=⟨hKb,nsK hns,⟨mb,nsK hb,hbb⟩,let ⟨mc,h1,h2⟩:=hlim;⟨mc,nsK h1,h2⟩⟩
  have e0:OU P w K mg (IQ s₁.heap H) callerA [] s₁ H:=⟨rfl,hM,λb o e=>Qu e,Nat.le_of_eq (MB _ _),trivial,λb hb=>absurd (show b∈([]:List Addr) from hb) (by simp),hok,.of_eq hg⟩
  refine codeAny_mono ((F _ hKb (nsK hns)).run callerA [] s₁ H ⟨[.ref a],[]⟩ [.ref a] [.ref a] _ _ hr e0 (hbind s₁ (.ref a)) (.cons rfl .nil) (hsp H hO hS)) λr s' h=>?_
  cases r with
  | error e=>exact (hCX H e s' h).elim
  | ok fl =>
   cases fl with
   | next=>exact False.elim h
   | brk=>exact False.elim h
   | cont=>exact False.elim h
   | ret u =>
    obtain ⟨v,H',os,bare,un,hok',r',q⟩:=h
    have q':v=.bl true:=q
    subst q'
    obtain rfl:u=Value.bool true:=r'
    refine ⟨rfl,OldK.of_keep λb o e=>?_,os,bare⟩
    cases q:H b with
    | none=>exact un.keep b o e q (by intro z;exact absurd (show b∈([]:List Addr) from z) (by simp)) (by simp)
    | some u =>
     rcases hO b with z|⟨ob,xs,z⟩
     ·rw [q] at z;cases z
     ·have z2:=un.frzs b ob _ z
      obtain ⟨e1,_⟩:=hok b _ z
      obtain ⟨e2,_⟩:=hok' b _ z2
      rw [e] at e1;cases e1
      exact e2
 cases hk:K.lookup a with
 | some o =>
  have e:=KX a o hk
  rw [ha] at e
  cases e
  refine core (λ_=>none) (λ_=>.inl rfl) (.inr ⟨_,vs.toArray,_,hk,rfl,rfl,rfl,by rw [Ap,lenV];exact hl,by simpa using rv⟩) (λb u z=>by have z':(none:Option HO)=some u:=z;cases z') (λb z=>absurd rfl z) λz=>absurd rfl z
 | none =>
  refine core (λb=>if b=a then some (.frz { cls:=.type "list",data:=.seq vs.toArray } (.lst (ns.map V.int))) else none) (λb=>?_) (.inl (.inr ⟨{ cls:=.type "list",data:=.seq vs.toArray },if_pos rfl⟩)) (λb u z=>?_) (λb z=>?_) λ_=>hk
  ·by_cases hb:b=a
   ·exact .inr ⟨_,_,if_pos hb⟩
   ·exact .inl (if_neg hb)
  ·by_cases hb:b=a
   ·have z':=(if_pos hb).symm.trans z
    cases z'
    subst hb
    exact ⟨ha,by rw [Ae];exact hl,vs,_,rv,ha⟩
   ·have z':=(if_neg hb).symm.trans z
    cases z'
  ·by_cases hb:b=a
   ·exact hb
   ·exact absurd (if_neg hb) z
theorem Pk {l:PySem.W.OpenLaw}{n k:Nat}{q:Program}{loose:List Str}{XP:(Str->Option Value)->Heap->Prop}{YP:World->Heap->Prop}{d:DefRec}{K:Params->PySem.W.Frag}{CX:World->CXT}{sp:World->Sp}{x:Str}
  (hn:l.most=some n) (hn2:n≤sizeLine) (hdf:d.params.defaults=[]) (hr:Room k callerA)
  (hY:∀ (w:World) (h:Heap),YP w h->(K w.params).In h)
  (F:∀ (w:World) (mg:Str->Option Value) (fa:Addr) (h:Heap),(K w.params).In h->h.Ns mainGlobals mg->mg d.name=some (.ref fa) ->
   ∃ fd:FuncData,(∀ (s:Shared) (u:Value),BindsTo s fd ⟨[u],[]⟩ [(x,u)]) ∧
    ∀ base:Heap,(K w.params).In base->base.Ns mainGlobals mg->DJ l.prog w (K w.params) mg base (CX w) k fa fd [x] (sp w))
  (hsp:∀ (w:World) (H:Hp) (a:Addr) (ns:List Int),ns.length≤n->RW H->SqL (K w.params) H a (ns.map V.int)->sp w [.ref a] H (λv _=>v=.bl true) λ_ _ _=>False)
  (hCX:∀ (w:World) (H:Hp) (s:Shared) (e:Value) (s':Shared),CX w [] H s (λ_ _ _=>False) e s'->False) :
  PySem.W.WalkO q loose XP YP l.row.toRowW d [] (λf vs=>PySem.call f vs):=by
 refine Att.J0 hn hdf λw s₀ s₁ mg mb fa o pm cd doc a vs ns G Y ho hd hcd hmg hobj hints hlen hg=>?_
 have KX:=hY w _ Y
 obtain ⟨fd,hb,hF⟩:=F w mg fa _ KX G.T.g hmg
 exact OB KX G.T.g G.T.b G.T.builtins G.T.nolimit hg hobj hints (AM hlen hn2) hr hF hb (λH hO hS=>hsp w H a ns hlen hO hS) λH e s'=>hCX w H s₁ e s'
noncomputable def E8 (s:Stmt):Arguments:=match s with
 | .FunctionDef _ a _ _ _ _ _ _ _ _=>a
 | _=>{ posonlyargs:=[],args:=[],vararg:=none,kwonlyargs:=[],kw_defaults:=[],kwarg:=none,defaults:=[] }
noncomputable def Dj (s:Stmt):List Stmt:=match s with
 | .FunctionDef _ _ b _ _ _ _ _ _ _=>b
 | _=>[]
noncomputable def BY (s:Stmt):Scope:=match s with
 | .FunctionDef _ _ _ _ _ _ sc _ _ _=>sc
 | _=>{ kind:=.function,names:=[],isGenerator:=false,isCoroutine:=false }
abbrev CX0:CXT:=λ_ _ _ _ _ _=>False
abbrev E0:XK:=λ_ _ _=>False
theorem Vc {X:Cx}:Passes CX0 X E0:=λ_ _ _ _ _ _ _ h=>h.elim
structure Fun (K:PySem.W.Frag) (x qual:Str) (st:Stmt) (f:Addr) (fd:FuncData):Prop where
 ex:∃ (oc:Value) (od:Option Addr) (kV doc pm:Value) (an:Option Addr) (cdv ct:Value) (osl:Array (Option Value)),
  fd=PySem.W.fnOf x qual (E8 st) (Dj st) (BY st) .none kV doc pm an cdv ct∧K.lookup f=some ⟨oc,od,.func fd,osl⟩∧PySem.W.codeIn K cdv qual=true
 kp:PySem.W.keepIn K (.ref f)=true
section
variable {P:Program} {w:World} {K:PySem.W.Frag} {mg:Str->Option Value} {base:Heap}
theorem Fun.ok {x qual:Str}{st:Stmt}{f:Addr}{fd:FuncData}{N ps:List Str}{k:Nat}{sp:Sp}(F:Fun K x qual st f fd)(S:Cp N ps (BY st))(len:∀ vs H Q E,sp vs H Q E->vs.length=ps.length)
  (hbody:∀ (cdv:Value) (A:Around) (outer:List Env) (s:Shared) (H:Hp) (vs:List V) (Q:VK) (E:XK),Room k (A.deeper (envOfC qual (BY st) s.heap.objs.size f cdv))->sp vs H Q E ->
   ∃ t,PSs (HL CX0 P w K mg base N qual (BY st) f cdv A outer s H E).nox (Dj st) t∧t { nx:=λ_ H'=>Q .non H',rt:=Q } (start N vs) H):DJ P w K mg base CX0 (k+1) f fd ps sp:=by
 obtain ⟨oc,od,kV,doc,pm,an,cdv,ct,osl,rfl,lk,hcd⟩:=F.ex
 refine Tw lk hcd S len λA outer s H vs Q E hr hsp=>?_
 obtain ⟨t,h,q⟩:=hbody cdv A outer s H vs Q E hr hsp
 exact ⟨t,h.nox,q⟩
theorem Fun.binds {x qual:Str}{st:Stmt}{f:Addr}{fd:FuncData}{ps:List Str}(F:Fun K x qual st f fd)
  (h:∀ (kV doc pm:Value) (an:Option Addr) (cdv ct:Value) (us:List Value),us.length=ps.length->bindArgs (PySem.W.fnOf x qual (E8 st) (Dj st) (BY st) .none kV doc pm an cdv ct) ⟨us,[]⟩=pure (ps.zip us)):Binds K fd ps []:=by
 obtain ⟨oc,od,kV,doc,pm,an,cdv,ct,osl,rfl,lk,hcd⟩:=F.ex
 exact .all (h kV doc pm an cdv ct)
theorem N1 {x qual:Str}{st:Stmt}{f:Addr}{oc:Value}{od an:Option Addr}{osl:Array (Option Value)}{kV doc pm cdv ct:Value}(l:K.lookup f=some ⟨oc,od,.func (PySem.W.fnOf x qual (E8 st) (Dj st) (BY st) .none kV doc pm an cdv ct),osl⟩)
  (c:PySem.W.codeIn K cdv qual=true) (k:PySem.W.keepIn K (.ref f)=true):Fun K x qual st f (PySem.W.fnOf x qual (E8 st) (Dj st) (BY st) .none kV doc pm an cdv ct):=⟨⟨oc,od,kV,doc,pm,an,cdv,ct,osl,rfl,l,c⟩,k⟩
end
abbrev Go (prog:Program) (w:World) (A:Around) {α:Type} (t:Sem α) (Q:α->Shared->Prop) (s:Shared):Prop:=wpAny (model prog w) A t Q (λ_ _=>False) s
noncomputable def tests (env:Env)(ifs:List Expr):Sem Bool:=forIn ifs true λc r =>
 if r=true then (isTrue c env (eval c env) >>= λok=>pure (ForInStep.yield ok)) else pure (ForInStep.yield r)
theorem K9 {scope:Scope}{env:Env}(h:∀ y∈scope.names,y.2=.free->∃ c,env.cells.lookup y.1=some c) :
  ∃ cl,closureFor scope env=pure cl∧(∀ x c,cl.lookup x=some c->env.cells.lookup x=some c)∧∀ y∈scope.names,y.2=.free->∃ c,cl.lookup y.1=some c:=by
 have gen:∀ (l:List (Str×NameKind)) (acc:List (Str×Addr)),(∀ y∈l,y.2=.free->∃ c,env.cells.lookup y.1=some c)->(∀ x c,acc.lookup x=some c->env.cells.lookup x=some c) ->
   ∃ cl,(forIn l acc λ(x:Str×NameKind) (r:List (Str×Addr))=>if (x.2==NameKind.free)=true then do let c←cellOf env x.1;pure (ForInStep.yield ((x.1,c)::r)) else pure (ForInStep.yield r))=(pure cl:Sem (List (Str×Addr))) ∧
    (∀ x c,cl.lookup x=some c->env.cells.lookup x=some c)∧(∀ y∈l,y.2=.free->∃ c,cl.lookup y.1=some c)∧∀ x c,acc.lookup x=some c->∃ c',cl.lookup x=some c':=by
  intro l
  induction l with
  | nil=>intro acc _ ha;exact ⟨acc,rfl,ha,λ_ z=>(nomatch z),λx c e=>⟨c,e⟩⟩
  | cons y r ih =>
   intro acc hl ha
   obtain ⟨n,k⟩:=y
   by_cases hk:k=.free
   ·subst hk
    obtain ⟨c,hc⟩:=hl (n,.free) List.mem_cons_self rfl
    have ha':∀ x c',((n,c)::acc).lookup x=some c'->env.cells.lookup x=some c':=λx c' e=>by
     by_cases hx:x=n
     ·subst hx
      have hb:(x==x)=true:=beq_iff_eq.mpr rfl
      simp only [List.lookup,hb] at e
      cases e;exact hc
     ·have hb:(x==n)=false:=beq_eq_false_iff_ne.mpr hx
      simp only [List.lookup,hb] at e
      exact ha x c' e
    obtain ⟨cl,h1,h2,h3,h4⟩:=ih ((n,c)::acc) (λy hy=>hl y (Bu _ hy)) ha'
    refine ⟨cl,?_,h2,λy hy hf=>?_,λx c' e=>?_⟩
    ·rw [List.forIn_cons]
     have e:cellOf env n=pure c:=by unfold cellOf;rw [hc]
     simp only [beq_self_eq_true,if_true,e,pure_bind]
     exact h1
    ·refine (AH.mp hy).elim (λz=>?_) λhy=>?_
     ·subst z
      have hb:(n==n)=true:=beq_iff_eq.mpr rfl
      exact h4 n c (by simp only [List.lookup,hb])
     ·exact h3 y hy hf
    ·by_cases hx:x=n
     ·subst hx
      have hb:(x==x)=true:=beq_iff_eq.mpr rfl
      exact h4 x c (by simp only [List.lookup,hb])
     ·have hb:(x==n)=false:=beq_eq_false_iff_ne.mpr hx
      exact h4 x c' (by simp only [List.lookup,hb];exact e)
   ·obtain ⟨cl,h1,h2,h3,h4⟩:=ih acc (λy hy=>hl y (Bu _ hy)) ha
    refine ⟨cl,?_,h2,λy hy hf=>?_,h4⟩
    ·rw [List.forIn_cons]
     have e:(k==NameKind.free)=false:=by simpa using hk
     simp only [e,AZ,if_false,pure_bind]
     exact h1
    ·refine (AH.mp hy).elim (λz=>?_) λhy=>?_
     ·subst z
      exact absurd hf hk
     ·exact h3 y hy hf
 obtain ⟨cl,h1,h2,h3,_⟩:=gen scope.names [] h (λx c e=>by simp at e)
 refine ⟨cl,?_,h2,h3⟩
 unfold closureFor
 rw [← h1]
 simp only [bind_pure]
noncomputable def Cf (X:Cx)(scope:Scope)(N:List Str)(cl:List (Str×Addr))(C:Addr)(s₁:Shared)(H₁:Hp)(fp:List Addr):Cx where
 prog:=X.prog
 w:=X.w
 K:=X.K
 mg:=X.mg
 base:=X.base
 A:=X.A
 N:=N
 s₀:=s₁
 H₀:=H₁
 env:=compEnvC scope cl C X.env
 outer:=X.stack
 stack:=X.stack
 ex:=fp
 fn:=λ_=>false
 calm:=X.calm
 pn:=[]
 xe:=λ_ _=>False
def PF (X:Cx)(ifs:List Expr)(t:TT):Prop:=
 ∀ (pins:List (Addr×Obj)) (s:Shared) (σ:St) (H:Hp) (Q:Bool->Hp->Prop),Inv X pins σ H s->t σ H Q ->
  wpAny (model X.prog X.w) X.A (tests X.env ifs) (TP X pins σ Q) X.xe s
def Vn:TT:=λ_ H Q=>Q true H
theorem SU {X:Cx}:PF X [] Vn:=λ_ _ _ H _ I h=>wpAny_tests_nil ⟨H,I,h⟩
theorem Su {X:Cx}{c:Expr}{t:TT}(h:PT X c t):PF X [c] t:=λpins s σ H Q I q=>wpAny_tests_one (h pins s σ H Q I q)
def FvOk (X:Cx)(sc:Scope):List (Nat×Str)->Prop
 | []=>True
 | p::r=>(X.N[p.1]? = some p.2∧(X.env.scope.names.lookup p.2=some .cell∨X.env.scope.names.lookup p.2=some .free)∧(sc.names.lookup p.2=some .cell∨sc.names.lookup p.2=some .free))∧FvOk X sc r
theorem FvOk.get {X:Cx}{sc:Scope}:∀ {l:List (Nat×Str)} {k:Nat} {p:Nat×Str},FvOk X sc l->l[k]? = some p ->
  X.N[p.1]? = some p.2∧(X.env.scope.names.lookup p.2=some .cell∨X.env.scope.names.lookup p.2=some .free)∧(sc.names.lookup p.2=some .cell∨sc.names.lookup p.2=some .free)
 | [],_,_,_,h=>(by simp at h)
 | _::_,0,_,hf,h=>by simp at h;subst h;exact hf.1
 | _::_,k+1,_,hf,h=>FvOk.get (k:=k) hf.2 (by simpa using h)
noncomputable def st0 (nc:Nat)(fv:List (Nat×Str))(σ:St):St:=List.replicate nc none++fv.map λp=>σ.getD p.1 none
theorem GS {scope:Scope}{env:Env}{x:Str}(hcell:∀ y∈scope.names,y.2≠.cell)
  (h:(relabel scope env).names.lookup x=some .cell∨(relabel scope env).names.lookup x=some .free):(x,NameKind.free)∈scope.names:=by
 have key:∀ k,(relabel scope env).names.lookup x=some k->k=.cell∨k=.free->(x,NameKind.free)∈scope.names:=λk hk hkk=>by
  have hm:=BP hk
  obtain ⟨⟨n,k'⟩,hy,e⟩:=Aj.mp hm
  dsimp only at e
  by_cases hc:(k'==NameKind.free&&env.scope.kind==.function&&env.kindOf n==some .cell)=true
  ·rw [if_pos hc] at e
   cases e
   have:k'=.free:=by
    rw [Ab,Ab] at hc
    exact beq_iff_eq.mp hc.1.1
   subst this
   exact hy
  ·rw [if_neg hc] at e
   cases e
   rcases hkk with e|e
   ·subst e;exact absurd rfl (hcell _ hy)
   ·subst e;exact hy
 rcases h with h|h
 ·exact key _ h (.inl rfl)
 ·exact key _ h (.inr rfl)
theorem Un.lay {fs ex:List Addr}{H H':Hp}{h h':Heap}{D:Addr}{o:HO}(u:Un fs ex H H' h h')(hD:h.objs.size≤D)(hn:H' D=none):Un fs ex H (upd H' D o) h h' where
 keep:=u.keep
 slot:=u.slot
 free:=λb ob q n hx=>by
  rw [Cn (AJ (AD (Ax q) hD))]
  exact u.free b ob q n hx
 there:=u.there
 tups:=λb xs q=>by have:=u.tups b xs q;rw [Cn (Cd this hn)];exact this
 frzs:=λb ob xs q=>by have:=u.frzs b ob xs q;rw [Cn (Cd this hn)];exact this
 tbls:=λb ps q=>by
  obtain ⟨m,e⟩:=u.tbls b ps q
  exact ⟨m,by rw [Cn (Cd e hn)];exact e⟩
theorem HOk.lay {P:Program}{w:World}{H:Hp}{h:Heap}{D:Addr}{o:HO}(x:HOk P w H h)(hn:H D=none)(new:ObjOk P w (upd H D o) h D o):HOk P w (upd H D o) h:=λb u e=>by
 by_cases hb:b=D
 ·subst hb;rw [CV] at e;cases e;exact new
 ·rw [Cn hb] at e
  exact (x b u e).stay (λc v _ q=>q) (λc q=>by rw [Cn (Cd q hn)];exact q) λc xs q=>by rw [Cn (Cd q hn)];exact q
section
variable {X:Cx} {tg iter elt:Expr} {ifs:List Expr} {scope:Scope} {pos:Pos} {wi:TI} {own:List Str} {fv:List (Nat×Str)} {g:TG} {tt:TT} {te:TE}
structure JP (X:Cx) (scope:Scope) (fv:List (Nat×Str)):Prop where
 calm:X.calm=true
 kind:scope.kind=.function
 cell:∀ y∈scope.names,y.2≠.cell
 names:∀ y∈scope.names,y.2=.local->scope.names.lookup y.1=some .local
 free:∀ y∈scope.names,y.2=.free->X.env.kindOf y.1=some .cell∨X.env.kindOf y.1=some .free
 fv:FvOk X (relabel scope X.env) fv
end
section
variable {X:Cx}
theorem OP {bs:List Bool}{us:List Value}(r:Vals (bs.map V.bl) us){i:Nat}{v:Value}(e:us[i]? = some v):∃ b,bs[i]? = some b∧v=.bool b:=by
 have hl:=r.length
 rw [Ae] at hl
 have hi:i<us.length:=(Ad.mp e).1
 obtain ⟨u,hu,ru⟩:=r.get (i:=i) (x:=V.bl (bs[i]'(by ext))) (by simp)
 rw [e] at hu
 cases hu
 exact ⟨_,by simp,ru⟩
theorem Kj (bs:List Bool):((List.range bs.length).all λi=>(bs[i]?).getD true)=bs.all id:=by
 refine Bool.eq_iff_iff.mpr ⟨λh=>Ay.mpr λb hb=>?_,λh=>Ay.mpr λi hi=>?_⟩
 ·obtain ⟨k,lk,rfl⟩:=List.mem_iff_getElem.mp hb
  simpa [lk] using Ay.mp h k (List.mem_range.mpr lk)
 ·have lk:i<bs.length:=List.mem_range.mp hi
  simpa [lk] using Ay.mp h bs[i] (Bl lk)
theorem NA (hc:X.calm=true):EB X (.builtin "all") (λxs H Q=>∃ (p:Addr) (bs:List Bool),xs=[.ref p]∧SqL X.K H p (bs.map V.bl)∧Q (.bl (bs.all id)) H):=by
 intro pins s σ H xs us Q I r h
 obtain ⟨p,bs,rfl,hq,q⟩:=h
 obtain ⟨u,rfl,ru⟩:=vals1 r
 cases ru
 obtain ⟨its,rv,pl,hz⟩:=I.list hq
 obtain ⟨m,F⟩:=I.fr
 have hlt:p<s.heap.objs.size:=by obtain ⟨o,n,e,_⟩:=pl;exact Ax e
 refine call_all_walk (wpAny_pyIter_list pl.isList ?_)
 refine ⟨s.heap.objs.size,[s.heap.objs.size,p],[s.heap.objs.size],its.toArray.size,_,_,λi=>(bs[i]?).getD true,rfl,
  Walks.list (A:=X.A.in1) (I.ok.hd hc) _ p (AJ hlt) its.toArray,⟨⟨_,Av _ rfl,rfl,rfl⟩,pl.isList.push _⟩,λi v s' Q' E' hP hQ=>?_,λh' tk hk=>?_⟩
 ·obtain ⟨b,e,rfl⟩:=OP rv (i:=i) (v:=v) (by simpa using hP)
  exact wpAny_truthy_bool (by simpa only [e,Option.getD_some] using hQ)
 ·have e:((List.range its.toArray.size).all λi=>(bs[i]?).getD true)=bs.all id:=by
   rw [Ap,← rv.length,Ae]
   exact Kj bs
  rw [e]
  exact ⟨.bl _,H,I.kept λb x e=>hk b x (λhm=>absurd (Ax e) (by rw [Aq.mp hm];exact Bq _)) (Af _ e),rfl,q⟩
theorem KY:OpR X (binaryOp .Mult) (λx y H Q=>∃ (z:Str) (n:Int),x=.str z∧y=.int n∧MulOk z n∧Q (.str (Txt.mul z n)) H):=by
 intro pins s σ H x y v u Q I rx ry h
 obtain ⟨z,n,rfl,rfl,hok,q⟩:=h
 obtain ⟨t,rfl⟩:=rx
 obtain ⟨t',rfl⟩:=ry
 exact SB.mul hok λt' k=>⟨.str _,H,I.tok _,⟨_,rfl⟩,q⟩
theorem part_of {v:Value}{o:Option Int}(p:IsPart v o):∃ l:Option (Int×Tok),v=partValue l∧l.map (·.1)=o:=by
 cases p with
 | none=>exact ⟨none,rfl,rfl⟩
 | int i t=>exact ⟨some (i,t),rfl,rfl⟩
theorem R0:SlR X (λx lo hi H Q=>∃ z:Str,x=.str z∧z.length≤sizeLine∧Q (.str (Txt.slice z lo hi)) H):=by
 intro pins s σ H x v vl vu lo hi sl Q I rx hs pl pu h
 obtain ⟨z,rfl,hz,q⟩:=h
 obtain ⟨t,rfl⟩:=rx
 obtain ⟨l,rfl,rfl⟩:=part_of pl
 obtain ⟨u,rfl,rfl⟩:=part_of pu
 refine ⟨"str",_,PySem.F.slot_str_getitem.lookup,typeIs_str _ _ _,?_⟩
 refine wpAny_getItem_str_slice (l:=l) (u:=u) (st:=none) hs rfl (post_val_or_str ⟨AM (Txt.slice_le z _ _) hz,λt' k=>?_⟩)
 exact ⟨.str _,H,I.tok _,⟨_,rfl⟩,q⟩
end
section
variable {X:Cx} {pins:List (Addr×Obj)} {σ:St} {H:Hp} {s:Shared} {h':Heap}
theorem Inv.turnedL {t':Nat}{ch:List Addr}(I:Inv X pins σ H s)(k:∀ b o,b∉ch->s.heap.get? b=some o->h'.get? b=some o)(hf:∀ b∈ch,GC X pins H b):Inv X pins σ H { s with heap:=h',toks:=t' }:=by
 have nit:∀ b u,H b=some u->b∉ch:=λb u e z=>by rw [(hf b z).1] at e;cases e
 refine I.step (g':=s.gens) (d':=s.drawn) (ch:=ch) (λb hb=>?_) (λb o _ _ hc e _=>k b o hc e) (λb o _ _ hc e _=>⟨o.slots,k b o hc e⟩) (λ_ _ _ _ n=>n) (λb o hc e=>⟨o,k b o hc e⟩)
  (λ_ _ e=>e) (λ_ _ _ e=>e) (λb ps e=>⟨#[],by rw [e];simp⟩) (λm hm=>?_) (λb u e=>?_) I.bare
 ·obtain ⟨_,f1,_,f3,f4,f5⟩:=hf b hb
  exact ⟨f3,f1,f4,f5⟩
 ·obtain ⟨o,es,ep,ho,r⟩:=hm
  exact ⟨o,es,ep,k _ o (λz=>(hf _ z).2.1 rfl) ho,r⟩
 ·refine (I.hok b u e).stay (λc v hc q=>k c v ?_ q) (λ_ q=>q) λ_ _ q=>q
  rcases hc with z|z
  ·rw [z];exact nit b u e
  ·exact nit c _ z
end
noncomputable def Its (x:Str):It:=⟨λi _=>i<x.cps.size,λi H v H'=>H'=H∧∃ c,x.cps[i]? = some c∧v=.str ⟨#[c]⟩,λi _=>i=x.cps.size⟩
theorem Ng {P:Program}{w:World}{K:PySem.W.Frag}{tg:Expr}{ty:String}(x:Str)(t:Tok)(it:Addr)
  (W:∀ A:Around,A.handled=none->Walks P w A it [it] [it] x.cps.size (SignAt x) (λi h=>h.IsStrIter it ty x t i)) (W0:∀ A:Around,∀ i (s:Shared) (Q:Value->Shared->Prop) (E:Value->Shared->Prop),s.heap.IsStrIter it ty x t i->Q (.ref it) s->wpAny (model P w) A (pyIter (.ref it)) Q E s)
  (hn:["enumerate","zip","dict_itemiterator","dict_reverseitemiterator","odict_iterator","itertools.zip_longest","itertools.pairwise"].contains ty=false):Turn P w K tg (Its x) [it] it (λi h=>h.IsStrIter it ty x t i) where
 mem:=by simp
 obj:=λi h st b hb=>by
  have e:b=it:=by simpa using hb
  subst e
  obtain ⟨o,e,c,d⟩:=st
  exact ⟨o,e,λv z=>by rw [d] at z;cases z⟩
 keep:=λi h h' st k=>by
  obtain ⟨o,e,r⟩:=st
  exact ⟨o,k it (by simp) o e,r⟩
 item:=by
  intro X hP hw hK hc i pins s σ H E I hf st hg
  subst hP hw hK
  refine (W X.A (I.ok.hd hc)).item i s _ _ hg st λv h' tk hv st' kk=>?_
  obtain ⟨c,u,hc',rfl⟩:=hv
  have I1:Inv X pins σ H { s with heap:=h',toks:=tk }:=I.turnedL kk hf
  obtain ⟨o,e,c2,d⟩:=id st'
  exact ⟨_,rfl,LA (s:={ s with heap:=h',toks:=tk }) e c2 d hn ⟨.str ⟨#[c]⟩,H,I1,⟨u,rfl⟩,⟨rfl,c,hc',rfl⟩,st',λb hb=>(hf b hb).1⟩⟩
 done:=by
  intro X hP hw hK hc i pins s σ H E I hf st hg
  subst hP hw hK
  have e:i=x.cps.size:=hg
  subst e
  exact (W X.A (I.ok.hd hc)).done s _ _ st λh' tk kk=>⟨rfl,I.turnedL kk hf⟩
 self:=λA i s Q E st h=>W0 A i s Q E st h
def VD (tl:TE):TI:=fun σ H R=>tl σ H λx H1=>∃ z,x=.str z∧R (Its z) H1
theorem R3 {X:Cx}{tg l:Expr}{tl:TE}(hl:PE X l tl):PI X tg l (VD tl):=by
 intro pins s σ H R I h
 refine thn (hl pins s σ H _ I h) λv s1 ⟨x,H1,I1,r1,q1⟩=>?_
 obtain ⟨z,e,q⟩:=q1
 subst e
 obtain ⟨t,rfl⟩:=r1
 have fin:∀ ty:String,(∀ A:Around,A.handled=none->Walks X.prog X.w A s1.heap.objs.size [s1.heap.objs.size] [s1.heap.objs.size] z.cps.size (SignAt z) (λi h=>h.IsStrIter s1.heap.objs.size ty z t i)) ->
   (∀ A:Around,∀ i (s:Shared) (Q:Value->Shared->Prop) (E:Value->Shared->Prop),s.heap.IsStrIter s1.heap.objs.size ty z t i->Q (.ref s1.heap.objs.size) s->wpAny (model X.prog X.w) A (pyIter (.ref s1.heap.objs.size)) Q E s) ->
   ["enumerate","zip","dict_itemiterator","dict_reverseitemiterator","odict_iterator","itertools.zip_longest","itertools.pairwise"].contains ty=false ->
   PIE X pins σ tg R (.ref s1.heap.objs.size) { s1 with heap:=s1.heap.push { cls:=.type ty,data:=.fields #[.str z t,.int 0 0] } }:=λty W W0 hn=>by
  refine ⟨s1.heap.objs.size,[s1.heap.objs.size],_,_,H1,rfl,I1.kept (t':=s1.toks) λb o e=>Af _ e,Ng z t _ W W0 hn,⟨_,Av _ rfl,rfl,rfl⟩,λb hb=>?_,q⟩
  have e:b=s1.heap.objs.size:=by simpa using hb
  subst e
  exact I1.fpOk (Ak _) (I1.hok.fresh (Ak _))
 cases ha:z.cps.all (·<128)
 ·exact wpAny_pyIter_wide ha (fin _ (λA hA=>Walks.strWide hA _ z t) (λA i s Q E st h=>wpAny_pyIter_striter_wide st h) (by decide))
 ·exact wpAny_pyIter_ascii ha (fin _ (λA hA=>Walks.strAscii hA _ z t) (λA i s Q E st h=>wpAny_pyIter_striter_ascii st h) (by decide))
structure LcS (esc scope:Scope):Prop where
 kind:scope.kind=.function
 cell:∀ y∈scope.names,y.2≠.cell
 names:∀ y∈scope.names,y.2=.local->scope.names.lookup y.1=some .local
 free:∀ y∈scope.names,y.2=.free->esc.names.lookup y.1=some .cell∨esc.names.lookup y.1=some .free
theorem Jn {X:Cx}{scope:Scope}{fv:List (Nat×Str)}(esc:Scope)(he:X.env.scope=esc)(hc:X.calm=true)(h:LcS esc scope)(hf:FvOk X (relabel scope X.env) fv):JP X scope fv:=
 ⟨hc,h.kind,h.cell,h.names,λy hy hk=>by subst he;exact h.free y hy hk,hf⟩
end L2
namespace PV
open PySem L2 PySem.Spec PyProof.Rows
noncomputable def adv (mask:Nat)(p:SetTable.Probe):SetTable.Probe:=
 if p.more > 0 then { p with j:=p.j+1,more:=p.more-1 } else
 { p with j:=(SetTable.leap mask p.i p.perturb).1,more:=SetTable.runEnd mask (SetTable.leap mask p.i p.perturb).1-(SetTable.leap mask p.i p.perturb).1,i:=(SetTable.leap mask p.i p.perturb).1,perturb:=(SetTable.leap mask p.i p.perturb).2 }
noncomputable def rn (mask:Nat)(q:Nat×Nat):SetTable.Probe:={ j:=q.1,more:=SetTable.runEnd mask q.1-q.1,i:=q.1,perturb:=q.2,dummy:=none }
noncomputable def lp (mask:Nat)(h:Int):Nat->Nat×Nat
 | 0=>(SetTable.bits h % (mask+1),SetTable.bits h)
 | k+1=>SetTable.leap mask (lp mask h k).1 (lp mask h k).2
noncomputable def pth (mask:Nat)(h:Int):Nat->SetTable.Probe
 | 0=>rn mask (lp mask h 0)
 | n+1=>adv mask (pth mask h n)
def RA (mask:Nat):Prop:=mask=7∨mask=31∨mask=127∨mask=15∨mask=63∨mask=255
structure TW (mask:Nat) (pl:List Nat) (es:List (Int×Value)):Prop where
 so:pl.Pairwise (·<·)
 ln:pl.length=es.length
 mo:RA mask
 lt:es.length≤mask
 bd:∀ j∈pl,j≤mask
 rc:∀ (i j:Nat) (e:Int×Value),pl[i]? = some j->es[i]? = some e->∃ n,n<10*SetTable.turns mask∧(pth mask e.1 n).j=j∧∀ m,m≤n->(pth mask e.1 m).j∈pl
structure Zc where
 K:PySem.W.Frag
 P:Program
 w:World
noncomputable abbrev _root_.L2.Cx.z (X:Cx):Zc:=⟨X.K,X.prog,X.w⟩
inductive D where
 | non|bl (b:Bool)|int (i:Int)|str (x:Str)|tup (ds:List D)|lst (ds:List D)|dct (ks vs:List D)|set (ds:List D)|ref (k:Nat)
noncomputable instance:DecidableEq D:=λa b=>Classical.propDecidable (a=b)
inductive MO where
 | lst (ds:List D)|dct (ks ds:List D)
abbrev Sto:=List MO
abbrev Rs (α:Type):=Option (α×Sto)
abbrev Ro:=List (Option D)
abbrev Ex:=Ro->Sto->Rs D
abbrev Exs:=Ro->Sto->Rs (List D)
abbrev Tx:=Ro->Sto->Rs Bool
inductive Fl where
 | nx|bk|ct|rt (d:D)
abbrev Sx:=Ro->Sto->Rs (Fl×Ro)
abbrev Fn:=List D->Sto->Rs D
noncomputable def bM {α β:Type}(r:Rs α)(f:α->Sto->Rs β):Rs β:=match r with
 | none=>none
 | some (a,m)=>f a m
theorem B7 {α β:Type}{a:α}{m:Sto}{f:α->Sto->Rs β}:bM (some (a,m)) f=f a m:=rfl
theorem DI {α β:Type}{r:Rs α}{f:α->Sto->Rs β}{b:β}{m':Sto}(h:bM r f=some (b,m')):∃ a m,r=some (a,m)∧f a m=some (b,m'):=by
 cases r with
 | none=>cases h
 | some p=>exact ⟨p.1,p.2,rfl,h⟩
mutual
noncomputable def CT (w:World):D->Int
 | .non=>reduceHash 0xFCA86420
 | .int i=>hashInt i
 | .str x=>hashStr w x
 | .tup ds=>reduceHash (Builtin.Tuple.tupleHashOf (DT w ds))
 | _=>0
noncomputable def DT (w:World):List D->List Int
 | []=>[]
 | d::ds=>CT w d::DT w ds
end
mutual
noncomputable def dpt:D->Nat
 | .tup ds=>Hs ds+1
 | _=>0
noncomputable def Hs:List D->Nat
 | []=>0
 | d::ds=>max (dpt d) (Hs ds)
end
mutual
noncomputable def hsh:D->Bool
 | .non=>true
 | .int _=>true
 | .str _=>true
 | .tup ds=>Fm ds
 | _=>false
noncomputable def Fm:List D->Bool
 | []=>true
 | d::ds=>hsh d&&Fm ds
end
def Fj (d:D):Bool:=hsh d&&decide (dpt d≤8)
structure KeysOk (ks:List D):Prop where
 len:ks.length≤sizeLine
 nd:ks.Nodup
 ok:∀ k∈ks,Fj k=true
theorem Dk (w:World)(ds:List D):DT w ds=ds.map (CT w):=by induction ds with
 | nil=>rfl
 | cons d ds ih=>rw [DT,ih];rfl
def Rf (a:Addr)(xs:List (Int×V×V))(h:Heap):Prop:=(a==sysModules)=false∧∃ o es ep,h.get? a=some o∧o.ExactDict∧o.data=.dict es ep∧Paired (λ(x:Int×V×V) (e:DictEntry)=>e.hash=x.1∧RelV x.2.1 e.key∧RelV x.2.2 e.val) xs es.toList∧ep=es.size
noncomputable def En (a:Addr)(xs:List (Int×V×V)):HO:=.ext (Rf a xs)
def Vr (w:World)(a:Addr)(us:List (Int×V))(h:Heap):Prop:=∃ o es ep t,h.get? a=some o∧o.ExactSet∧o.data=.set es ep t∧es.size<scanBound∧t.fits es.size=true∧Vals (us.map (·.2)) (es.toList.map (·.2)) ∧
 (w.params.followText "set-order"=true∨t.led=true∧(t.plain=false∨es.size≤1)) ∧
 ((∃ n x,(n,V.str x)∈us)∨t.dummies=#[]∧TW t.mask t.place.toList es.toList∧es.size*5<t.mask*3∧t.led=(!w.params.followText "set-order")∧(t.plain=false∨es.size=0))∧us.map (·.1)=es.toList.map (·.1)
noncomputable def Pz (w:World)(a:Addr)(us:List (Int×V)):HO:=.ext (Vr w a us)
def FzL (K:Zc)(th:List Addr)(H:Hp)(a:Addr)(vs:List V):Prop:=(a∉th∧Rd H a (.lst vs)) ∨
 ∃ (o:Obj) (its:Array Value) (n:Nat),K.K.lookup a=some o∧o.cls=.type "list"∧o.dict=none∧o.data=.seq its n∧its.size≤sizeLine∧Vals vs its.toList
theorem FzL.sq {K:Zc}{th:List Addr}{H:Hp}{a:Addr}{vs:List V}(h:FzL K th H a vs):SqL K.K H a vs:=h.elim (λh=>.inl h.2) .inr
mutual
def Rep (K:Zc)(th:List Addr)(H:Hp):D->V->Prop
 | .non,v=>v=.non
 | .bl b,v=>v=.bl b
 | .int i,v=>v=.int i
 | .str x,v=>v=.str x∧x.length≤sizeLine∧PyData.strOk x=true
 | .tup ds,v=>∃ a vs,v=.ref a∧SqT K.K H a vs∧RepL K th H ds vs∧ds.length≤sizeLine
 | .lst ds,v=>∃ a vs,v=.ref a∧FzL K th H a vs∧RepL K th H ds vs∧ds.length≤sizeLine
 | .dct ks ds,v=>∃ a xs,v=.ref a∧a∉th∧H a=some (En a xs)∧xs.map (·.1)=DT K.w ks∧RepL K th H ks (xs.map (·.2.1))∧RepL K th H ds (xs.map (·.2.2))∧KeysOk ks
 | .set ds,v=>∃ a us vs,v=.ref a∧a∉th∧H a=some (Pz K.w a us)∧us.Perm ((DT K.w ds).zip vs)∧RepL K th H ds vs∧ds.Nodup
 | .ref k,v=>∃ a,v=.ref a∧th[k]? = some a
def RepL (K:Zc)(th:List Addr)(H:Hp):List D->List V->Prop
 | [],vs=>vs=[]
 | d::ds,vs=>∃ v r,vs=v::r∧Rep K th H d v∧RepL K th H ds r
end
section
variable {K:Zc} {th th':List Addr} {H H':Hp}
theorem RepL.nil:RepL K th H [] []:=by unfold RepL;rfl
theorem RepL.cons {d:D}{ds:List D}{v:V}{r:List V}(h:Rep K th H d v)(t:RepL K th H ds r):RepL K th H (d::ds) (v::r):=by unfold RepL;exact ⟨v,r,rfl,h,t⟩
theorem RepL.inv {d:D}{ds:List D}{vs:List V}(h:RepL K th H (d::ds) vs):∃ v r,vs=v::r∧Rep K th H d v∧RepL K th H ds r:=by unfold RepL at h;exact h
theorem RepL.inv0 {vs:List V}(h:RepL K th H [] vs):vs=[]:=by unfold RepL at h;exact h
theorem RepL.len:∀ {ds:List D} {vs:List V},RepL K th H ds vs->vs.length=ds.length
 | [],_,h=>by rw [h.inv0];rfl
 | d::ds,_,h=>by obtain ⟨v,r,rfl,_,t⟩:=h.inv;simp [RepL.len t]
theorem RepL.get:∀ {ds:List D} {vs:List V} {i:Nat} {d:D},RepL K th H ds vs->ds[i]? = some d->∃ v,vs[i]? = some v∧Rep K th H d v
 | [],_,_,_,_,e=>by simp at e
 | d::ds,_,0,d',h,e=>by obtain ⟨v,r,rfl,h1,_⟩:=h.inv;simp at e;subst e;exact ⟨v,rfl,h1⟩
 | d::ds,_,i+1,d',h,e=>by
  obtain ⟨v,r,rfl,_,t⟩:=h.inv
  obtain ⟨u,e1,e2⟩:=RepL.get (i:=i) t (by simpa using e)
  exact ⟨u,by simpa using e1,e2⟩
theorem RepL.getV:∀ {ds:List D} {vs:List V} {i:Nat} {v:V},RepL K th H ds vs->vs[i]? = some v->∃ d,ds[i]? = some d∧Rep K th H d v
 | [],_,_,_,h,e=>by rw [h.inv0] at e;simp at e
 | d::ds,_,0,v',h,e=>by obtain ⟨v,r,rfl,h1,_⟩:=h.inv;simp at e;subst e;exact ⟨d,rfl,h1⟩
 | d::ds,_,i+1,v',h,e=>by
  obtain ⟨v,r,rfl,_,t⟩:=h.inv
  obtain ⟨u,e1,e2⟩:=RepL.getV (i:=i) t (by simpa using e)
  exact ⟨u,by simpa using e1,e2⟩
theorem RepL.app:∀ {ds es:List D} {vs us:List V},RepL K th H ds vs->RepL K th H es us->RepL K th H (ds++es) (vs++us)
 | [],_,_,_,h,t=>by rw [h.inv0];exact t
 | d::ds,_,_,_,h,t=>by obtain ⟨v,r,rfl,h1,h2⟩:=h.inv;exact .cons h1 (RepL.app h2 t)
theorem RepL.take:∀ {ds:List D} {vs:List V} (n:Nat),RepL K th H ds vs->RepL K th H (ds.take n) (vs.take n)
 | _,_,0,_=>by simp only [List.take_zero];exact .nil
 | [],_,n+1,h=>by rw [h.inv0];exact .nil
 | d::ds,_,n+1,h=>by obtain ⟨v,r,rfl,h1,h2⟩:=h.inv;exact .cons h1 (RepL.take n h2)
theorem RepL.drop:∀ {ds:List D} {vs:List V} (n:Nat),RepL K th H ds vs->RepL K th H (ds.drop n) (vs.drop n)
 | _,_,0,h=>h
 | [],_,n+1,h=>by rw [h.inv0];exact .nil
 | d::ds,_,n+1,h=>by obtain ⟨v,r,rfl,h1,h2⟩:=h.inv;exact RepL.drop n h2
theorem RepL.setAt:∀ {ds:List D} {vs:List V} (i:Nat) {d:D} {v:V},RepL K th H ds vs->Rep K th H d v->RepL K th H (ds.set i d) (vs.set i v)
 | [],_,_,_,_,h,_=>by rw [h.inv0];exact .nil
 | d::ds,_,0,_,_,h,g=>by obtain ⟨v,r,rfl,h1,h2⟩:=h.inv;exact .cons g h2
 | d::ds,_,i+1,_,_,h,g=>by obtain ⟨v,r,rfl,h1,h2⟩:=h.inv;exact .cons h1 (RepL.setAt i h2 g)
structure Ext (th:List Addr) (H:Hp) (th':List Addr) (H':Hp):Prop where
 pre:∃ more,th'=th++more
 out:∀ a o,a∉th->H a=some o->a∉th'
 keep:∀ a o,a∉th->H a=some o->H' a=some o
theorem Ext.refl (th:List Addr)(H:Hp):Ext th H th H:=⟨⟨[],by simp⟩,λ_ _ n _=>n,λ_ _ _ h=>h⟩
theorem Ext.trans {th2:List Addr}{H2:Hp}(a:Ext th H th' H')(b:Ext th' H' th2 H2):Ext th H th2 H2:=by
 obtain ⟨m1,e1⟩:=a.pre
 obtain ⟨m2,e2⟩:=b.pre
 exact ⟨⟨m1++m2,by rw [e2,e1,A4]⟩,λx o n h=>b.out x o (a.out x o n h) (a.keep x o n h),λx o n h=>b.keep x o (a.out x o n h) (a.keep x o n h)⟩
theorem Ext.at (e:Ext th H th' H'){k:Nat}{a:Addr}(h:th[k]? = some a):th'[k]? = some a:=by
 obtain ⟨m,rfl⟩:=e.pre
 rw [Ai (Ad.mp h).1]
 exact h
theorem Ext.new {p:Addr}(h:H p=none)(o:HO):Ext th H th (upd H p o):=⟨⟨[],by simp⟩,λ_ _ n _=>n,λa u _ e=>by rw [Cn (Cd e h)];exact e⟩
theorem Ext.newM {p:Addr}(h:H p=none)(o:HO):Ext th H (th++[p]) (upd H p o):=⟨⟨[p],rfl⟩,λa u n e z=>(AA.mp z).elim n λz=>(by rw [Aq.mp z,h] at e;cases e),
 λa u _ e=>by rw [Cn (Cd e h)];exact e⟩
theorem Ext.mut {p:Addr}(h:p∈th)(o:HO):Ext th H th (upd H p o):=⟨⟨[],by simp⟩,λ_ _ n _=>n,λa u n e=>by rw [Cn (λz=>n (by rw [z];exact h))];exact e⟩
theorem Ext.rd (e:Ext th H th' H'){a:Addr}{u:HO}(n:a∉th)(h:Rd H a u):a∉th'∧Rd H' a u:=by
 rcases h with h|⟨o,h⟩
 ·exact ⟨e.out _ _ n h,.inl (e.keep _ _ n h)⟩
 ·exact ⟨e.out _ _ n h,.inr ⟨o,e.keep _ _ n h⟩⟩
theorem Ext.fz (e:Ext th H th' H'){a:Addr}{vs:List V}(h:FzL K th H a vs):FzL K th' H' a vs:=h.elim (λh=>.inl (e.rd h.1 h.2)) .inr
def F2 (th:List Addr)(H:Hp):Prop:=∀ a,a∈th->∃ o,H a=some o∧((∃ xs,o=.lst xs)∨∃ φ,o=.ext φ)
theorem Ext.sqT (e:Ext th H th' H')(t:F2 th H){a:Addr}{xs:List V}(h:SqT K.K H a xs):SqT K.K H' a xs:=by
 rcases h with h|h
 ·refine .inl (e.rd (λz=>?_) h).2
  obtain ⟨o',q,q2⟩:=t a z
  rcases h with h|⟨o,h⟩
  ·rcases q2 with ⟨_,rfl⟩|⟨_,rfl⟩<;>(rw [q] at h;cases h)
  ·rcases q2 with ⟨_,rfl⟩|⟨_,rfl⟩<;>(rw [q] at h;cases h)
 ·exact .inr h
mutual
theorem Rep.ext (e:Ext th H th' H')(t:F2 th H):∀ {d:D} {v:V},Rep K th H d v->Rep K th' H' d v
 | .non,_,h=>h
 | .bl _,_,h=>h
 | .int _,_,h=>h
 | .str _,_,h=>h
 | .tup ds,_,h=>by
  unfold Rep at h ⊢
  obtain ⟨a,vs,q,h1,h2,z⟩:=h
  exact ⟨a,vs,q,e.sqT t h1,RepL.ext e t h2,z⟩
 | .lst ds,_,h=>by
  unfold Rep at h ⊢
  obtain ⟨a,vs,q,h1,h2,z⟩:=h
  exact ⟨a,vs,q,e.fz h1,RepL.ext e t h2,z⟩
 | .dct ks ds,_,h=>by
  unfold Rep at h ⊢
  obtain ⟨a,xs,q,n,h1,h2,h3,h4,h5⟩:=h
  exact ⟨a,xs,q,e.out _ _ n h1,e.keep _ _ n h1,h2,RepL.ext e t h3,RepL.ext e t h4,h5⟩
 | .set ds,_,h=>by
  unfold Rep at h ⊢
  obtain ⟨a,us,vs,q,n,h1,h2,h3,h4⟩:=h
  exact ⟨a,us,vs,q,e.out _ _ n h1,e.keep _ _ n h1,h2,RepL.ext e t h3,h4⟩
 | .ref k,_,h=>by
  unfold Rep at h ⊢
  obtain ⟨a,q,h1⟩:=h
  exact ⟨a,q,e.at h1⟩
theorem RepL.ext (e:Ext th H th' H')(t:F2 th H):∀ {ds:List D} {vs:List V},RepL K th H ds vs->RepL K th' H' ds vs
 | [],_,h=>by rw [h.inv0];exact .nil
 | _::_,_,h=>by
  obtain ⟨v,r,rfl,h1,h2⟩:=h.inv
  exact .cons (Rep.ext e t h1) (RepL.ext e t h2)
end
theorem QN {N:List Addr}(hN:N.Nodup){i j:Nat}{x:Addr}(a:N[i]? = some x)(b:N[j]? = some x):i=j:=by
 obtain ⟨hi,ei⟩:=Ad.mp a
 obtain ⟨hj,ej⟩:=Ad.mp b
 have:=List.pairwise_iff_getElem.mp hN
 rcases Nat.lt_trichotomy i j with h|h|h
 ·exact absurd (ei.trans ej.symm) (this i j hi hj h)
 ·exact h
 ·exact absurd (ej.trans ei.symm) (this j i hj hi h)
def MRep (K:Zc)(th:List Addr)(H:Hp)(a:Addr):MO->Prop
 | .lst ds=>∃ vs,H a=some (.lst vs)∧RepL K th H ds vs∧ds.length≤sizeLine
 | .dct ks ds=>∃ xs,H a=some (En a xs)∧xs.map (·.1)=DT K.w ks∧RepL K th H ks (xs.map (·.2.1))∧RepL K th H ds (xs.map (·.2.2))∧KeysOk ks
theorem MRep.ext (e:Ext th H th' H')(t:F2 th H){a:Addr}{o:MO}(ha:∀ u,H a=some u->H' a=some u)(h:MRep K th H a o):MRep K th' H' a o:=by
 cases o with
 | lst ds=>obtain ⟨vs,q1,q2,z⟩:=h;exact ⟨vs,ha _ q1,q2.ext e t,z⟩
 | dct ks ds=>obtain ⟨xs,q1,q2,q3,q4,z⟩:=h;exact ⟨xs,ha _ q1,q2,q3.ext e t,q4.ext e t,z⟩
structure StoOk (K:Zc) (th:List Addr) (mu:Sto) (H:Hp):Prop where
 len:th.length=mu.length
 nd:th.Nodup
 at':∀ (k:Nat) (a:Addr) (o:MO),th[k]? = some a->mu[k]? = some o->MRep K th H a o
theorem StoOk.out {mu:Sto}(s:StoOk K th mu H):F2 th H:=λa ha=>by
 obtain ⟨k,hk,rfl⟩:=List.mem_iff_getElem.mp ha
 have hk':k<mu.length:=by rw [← s.len];exact hk
 have q:=s.at' k th[k] mu[k] (by simp) (by simp)
 cases e:mu[k] with
 | lst ds=>rw [e] at q;obtain ⟨vs,q,_⟩:=q;exact ⟨_,q,.inl ⟨_,rfl⟩⟩
 | dct ks ds=>rw [e] at q;obtain ⟨vs,q,_⟩:=q;exact ⟨_,q,.inr ⟨_,rfl⟩⟩
theorem StoOk.new {mu:Sto}(s:StoOk K th mu H){p:Addr}(h:H p=none)(o:HO):StoOk K th mu (upd H p o):=
 ⟨s.len,s.nd,λk a o' e1 e2=>(s.at' k a o' e1 e2).ext (.new h o) s.out λu q=>by rw [Cn (Cd q h)];exact q⟩
theorem StoOk.newG {mu:Sto}(s:StoOk K th mu H){p:Addr}(h:H p=none)(o:HO)(mo:MO)(r:MRep K (th++[p]) (upd H p o) p mo):StoOk K (th++[p]) (mu++[mo]) (upd H p o):=by
 have ex:Ext th H (th++[p]) (upd H p o):=.newM h _
 refine ⟨by simp [s.len],?_,λk a o' e1 e2=>?_⟩
 ·refine List.nodup_append.mpr ⟨s.nd,by simp,λx hx y hy=>?_⟩
  rw [Aq.mp hy]
  obtain ⟨xs,q,_⟩:=s.out x hx
  exact Cd q h
 ·by_cases hk:k<th.length
  ·rw [Ai hk] at e1
   rw [Ai (by rw [← s.len];exact hk)] at e2
   exact (s.at' k a o' e1 e2).ext ex s.out λu q=>by rw [Cn (Cd q h)];exact q
  ·have hk2:k=th.length:=by
    have:=(Ad.mp e1).1
    simp at this
    ext
   subst hk2
   have e1':a=p:=by simpa using e1.symm
   have e2':o'=mo:=by rw [s.len] at e2;simpa using e2.symm
   subst e1' e2'
   exact r
theorem StoOk.newM {mu:Sto}(s:StoOk K th mu H){p:Addr}(h:H p=none){ds:List D}{vs:List V}(r:RepL K th H ds vs)(hz:ds.length≤sizeLine):StoOk K (th++[p]) (mu++[.lst ds]) (upd H p (.lst vs)):=
 s.newG h _ _ ⟨vs,CV,r.ext (.newM h _) s.out,hz⟩
theorem StoOk.putG {mu:Sto}(s:StoOk K th mu H){k:Nat}{a:Addr}(hk:th[k]? = some a)(o:HO)(mo:MO)(r:MRep K th (upd H a o) a mo):StoOk K th (mu.set k mo) (upd H a o):=by
 have ex:Ext th H th (upd H a o):=.mut (Ag hk) _
 refine ⟨by simp [s.len],s.nd,λj b o' e1 e2=>?_⟩
 by_cases hj:j=k
 ·subst hj
  rw [hk] at e1
  cases e1
  have:j<mu.length:=by rw [← s.len];exact (Ad.mp hk).1
  have e2':o'=mo:=by simpa [this] using e2.symm
  subst e2'
  exact r
 ·rw [Aw (Ne.symm hj)] at e2
  have nb:b≠a:=λz=>by
   subst z
   exact hj (QN s.nd e1 hk)
  exact (s.at' j b o' e1 e2).ext ex s.out λu q=>by rw [Cn nb];exact q
theorem StoOk.put {mu:Sto}(s:StoOk K th mu H){k:Nat}{a:Addr}(hk:th[k]? = some a){ds:List D}{vs:List V}(r:RepL K th H ds vs)(hz:ds.length≤sizeLine):StoOk K th (mu.set k (.lst ds)) (upd H a (.lst vs)):=
 s.putG hk _ _ ⟨vs,CV,r.ext (.mut (Ag hk) _) s.out,hz⟩
theorem KeysOk.nil:KeysOk []:=⟨AW _,List.nodup_nil,λ_ h=>nomatch h⟩
theorem StoOk.newD {mu:Sto}(s:StoOk K th mu H){p:Addr}(h:H p=none):StoOk K (th++[p]) (mu++[.dct [] []]) (upd H p (En p [])):=
 s.newG h _ _ ⟨[],CV,rfl,.nil,.nil,.nil⟩
def Tr (K:Zc){A:Type}(th:List Addr)(H:Hp)(r:Rs A)(k:A->List Addr->Sto->Hp->Prop):Prop:=
 ∃ a mu',r=some (a,mu')∧∀ th' H',Ext th H th' H'->StoOk K th' mu' H'->k a th' mu' H'
theorem Tr.mono {A:Type}{r:Rs A}{k k':A->List Addr->Sto->Hp->Prop}(h:Tr K th H r k)(f:∀ a th' mu' H',Ext th H th' H'->StoOk K th' mu' H'->k a th' mu' H'->k' a th' mu' H'):Tr K th H r k':=by
 obtain ⟨a,mu',e,q⟩:=h
 exact ⟨a,mu',e,λth' H' x s=>f a th' mu' H' x s (q th' H' x s)⟩
theorem Tr.ahead {A:Type}{r:Rs A}{k:A->List Addr->Sto->Hp->Prop}(h:Tr K th H r k)(x:Ext th H th' H'):Tr K th' H' r k:=by
 obtain ⟨a,mu',e,q⟩:=h
 exact ⟨a,mu',e,λth2 H2 y s=>q th2 H2 (x.trans y) s⟩
theorem Tr.bind {A B:Type}{r:Rs A}{f:A->Sto->Rs B}{k:B->List Addr->Sto->Hp->Prop}(h:Tr K th H (bM r f) k):Tr K th H r λa th1 mu1 H1=>Tr K th1 H1 (f a mu1) k:=by
 obtain ⟨b,mu',e,q⟩:=h
 obtain ⟨a,m,e1,e2⟩:=DI e
 exact ⟨a,m,e1,λth1 H1 x1 s1=>⟨b,mu',e2,λth' H' x s=>q th' H' (x1.trans x) s⟩⟩
theorem Tr.bindE {A B:Type}{r:Rs A}{f:A->Sto->Rs B}{k:B->List Addr->Sto->Hp->Prop}(h:Tr K th H (bM r f) k):Tr K th H r λa th1 mu1 H1=>r=some (a,mu1)∧Tr K th1 H1 (f a mu1) k:=by
 obtain ⟨b,mu',e,q⟩:=h
 obtain ⟨a,m,e1,e2⟩:=DI e
 exact ⟨a,m,e1,λth1 H1 x1 s1=>⟨e1,b,mu',e2,λth' H' x s=>q th' H' (x1.trans x) s⟩⟩
theorem Tr.ret {A:Type}{a:A}{mu:Sto}{k:A->List Addr->Sto->Hp->Prop}(h:Tr K th H (some (a,mu)) k)(s:StoOk K th mu H):k a th mu H:=by
 obtain ⟨b,mu',e,q⟩:=h
 cases e
 exact q th H (.refl _ _) s
theorem Tr.retX {A:Type}{a:A}{mu:Sto}{k:A->List Addr->Sto->Hp->Prop}(h:Tr K th H (some (a,mu)) k)(x:Ext th H th' H')(s:StoOk K th' mu H'):k a th' mu H':=by
 obtain ⟨b,mu',e,q⟩:=h
 cases e
 exact q th' H' x s
theorem Tr.no {A:Type}{k:A->List Addr->Sto->Hp->Prop}(h:Tr K th H (none:Rs A) k):False:=by
 obtain ⟨b,mu',e,q⟩:=h
 cases e
def EnvOk (K:Zc)(th:List Addr)(H:Hp)(ro:Ro)(st:L2.St):Prop:=ro.length=st.length∧∀ (i:Nat) (d:D),ro[i]? = some (some d)->∃ v,st[i]? = some (some v)∧Rep K th H d v
theorem EnvOk.ext {ro:Ro}{st:L2.St}(h:EnvOk K th H ro st)(e:Ext th H th' H')(t:F2 th H):EnvOk K th' H' ro st:=⟨h.1,λi d q=>by
 obtain ⟨v,a,b⟩:=h.2 i d q
 exact ⟨v,a,b.ext e t⟩⟩
theorem EnvOk.set {ro:Ro}{st:L2.St}(h:EnvOk K th H ro st)(i:Nat){d:D}{v:V}(r:Rep K th H d v):EnvOk K th H (ro.set i (some d)) (st.set i (some v)):=by
 refine ⟨by simp [h.1],λj d' q=>?_⟩
 by_cases hj:j=i
 ·subst hj
  have hl:j<ro.length:=by
   have:=(Ad.mp q).1
   simpa using this
  have:d'=d:=by simpa [hl] using q.symm
  subst this
  exact ⟨v,by simp [← h.1,hl],r⟩
 ·rw [Aw (Ne.symm hj)] at q ⊢
  exact h.2 j d' q
abbrev KV' (K:Zc) (Q:VK):D->List Addr->Sto->Hp->Prop:=λd th' _ H'=>∀ v,Rep K th' H' d v->Q v H'
def rdE (K:Zc)(m:Ex):TE:=λst H Q=>∃ th mu ro,StoOk K th mu H∧EnvOk K th H ro st∧Tr K th H (m ro mu) (KV' K Q)
def rdA (K:Zc)(m:Exs):TA:=λst H Q=>∃ th mu ro,StoOk K th mu H∧EnvOk K th H ro st∧Tr K th H (m ro mu) λds th' _ H'=>∀ vs,RepL K th' H' ds vs->Q vs H'
def rdT (K:Zc)(m:Tx):TT:=λst H Q=>∃ th mu ro,StoOk K th mu H∧EnvOk K th H ro st∧Tr K th H (m ro mu) λb _ _ H'=>Q b H'
def Q6 (K:Zc)(E:Ends)(p:Fl×Ro)(th:List Addr)(_:Sto)(H:Hp):Prop:=∀ st',EnvOk K th H p.2 st'->match p.1 with
 | .nx=>E.nx st' H
 | .bk=>E.bk st' H
 | .ct=>E.ct st' H
 | .rt d=>∀ v,Rep K th H d v->E.rt v H
def rdS (K:Zc)(m:Sx):TS:=λE st H=>∃ th mu ro,StoOk K th mu H∧EnvOk K th H ro st∧Tr K th H (m ro mu) (Q6 K E)
def r2 (K:Zc)(op:D->D->Sto->Rs D):R2:=λx y H Q=>∃ th mu d e,StoOk K th mu H∧Rep K th H d x∧Rep K th H e y∧Tr K th H (op d e mu) (KV' K Q)
def rL (K:Zc)(f:Fn):List V->Hp->VK->Prop:=λxs H Q=>∃ th mu ds,StoOk K th mu H∧RepL K th H ds xs∧Tr K th H (f ds mu) (KV' K Q)
end
structure SV (X:Cx) (e:Expr) (m:Ex):Prop where
 r:PE X e (rdE X.z m)
structure SVT (X:Cx) (e:Expr) (m:Tx):Prop where
 r:PT X e (rdT X.z m)
structure SVW (X:Cx) (e:Expr) (m:Tx):Prop where
 r:PW X e (rdT X.z m)
def SVA (X:Cx)(es:List Expr)(m:Exs):Prop:=PA X es (rdA X.z m)∧∀ ro mu ds mu',m ro mu=some (ds,mu')->ds.length=es.length
structure SVS (X:Cx) (s:Stmt) (m:Sx):Prop where
 r:PS X s (rdS X.z m)
structure SVB (X:Cx) (b:List Stmt) (m:Sx):Prop where
 r:PSs X b (rdS X.z m)
def OpV (X:Cx)(f:Value->Value->Sem Value)(op:D->D->Sto->Rs D):Prop:=OpR X f (r2 X.z op)
def CallV (X:Cx)(f:Value)(g:Fn):Prop:=EB X f (rL X.z g)
theorem PE.weak {X:Cx}{e:Expr}{t t':TE}(h:PE X e t)(f:∀ st H Q,t' st H Q->t st H Q):PE X e t':=λpins s st H Q I q=>h pins s st H Q I (f st H Q q)
theorem PT.weak {X:Cx}{e:Expr}{t t':TT}(h:PT X e t)(f:∀ st H Q,t' st H Q->t st H Q):PT X e t':=λpins s st H Q I q=>h pins s st H Q I (f st H Q q)
theorem PW.weak {X:Cx}{e:Expr}{t t':TT}(h:PW X e t)(f:∀ st H Q,t' st H Q->t st H Q):PW X e t':=λwh pins s st H Q I q=>h wh pins s st H Q I (f st H Q q)
theorem PA.weak {X:Cx}{e:List Expr}{t t':TA}(h:PA X e t)(f:∀ st H Q,t' st H Q->t st H Q):PA X e t':=λpos pins s st H Q I q=>h pos pins s st H Q I (f st H Q q)
theorem PS.weak {X:Cx}{e:Stmt}{t t':TS}(h:PS X e t)(f:∀ E st H,t' E st H->t E st H):PS X e t':=λpins s st H E I q=>h pins s st H E I (f E st H q)
theorem PSs.weak {X:Cx}{e:List Stmt}{t t':TS}(h:PSs X e t)(f:∀ E st H,t' E st H->t E st H):PSs X e t':=λpins s st H E I q=>h pins s st H E I (f E st H q)
section
variable {X:Cx} {K:Zc} {th:List Addr} {mu:Sto} {H:Hp}
noncomputable def BS (i:Nat):Ex:=λro mu=>match ro[i]? with
 | some (some d)=>some (d,mu)
 | _=>none
noncomputable def eC (d:D):Ex:=λ_ mu=>some (d,mu)
theorem BU (i:Nat){x:Str}{pos:Pos}(hN:X.N[i]? = some x:=by rfl)(hv:Vis X.env.scope x:=by first|exact Or.inl rfl|exact Or.inr (Or.inl rfl)|exact Or.inr (Or.inr rfl))(hd:(x==("__debug__":Str))=false:=by decide)
  (hcd:(x==("__classdict__":Str))=false:=by decide):SV X (.Name x pos) (BS i):=⟨PE.weak (RS hN hv hd hcd) λst H Q h=>by
 obtain ⟨th,mu,ro,so,en,t⟩:=h
 unfold BS at t
 cases e:ro[i]? with
 | none=>rw [e] at t;exact t.no.elim
 | some o =>
  cases o with
  | none=>rw [e] at t;exact t.no.elim
  | some d =>
   rw [e] at t
   obtain ⟨v,ev,rv⟩:=en.2 i d e
   exact ⟨v,ev,t.ret so v rv⟩⟩
theorem HC {e:Expr}{d:D}{v:V}(h:PE X e (tC v))(r:∀ K th H,Rep K th H d v):SV X e (eC d):=⟨PE.weak h λst H Q q=>by
 obtain ⟨th,mu,ro,so,en,t⟩:=q
 exact t.ret so v (r _ _ _)⟩
theorem BZ {i j pos}:SV X (.Constant (.int i) j pos) (eC (.int i)):=HC RY λ_ _ _=>by unfold Rep;rfl
theorem JK {i j pos}:SV X (.Constant (.bool i) j pos) (eC (.bl i)):=HC UR λ_ _ _=>by unfold Rep;rfl
theorem R8 {i j pos}(h:i.length≤sizeLine∧PyData.strOk i=true:=by symm):SV X (.Constant (.str i) j pos) (eC (.str i)):=HC Rw λ_ _ _=>by unfold Rep;exact ⟨rfl,h⟩
def B0 (g:D->D->Sto->Rs D)(a b:Ex):Ex:=λro mu=>bM (a ro mu) λx m1=>bM (b ro m1) λy m2=>g x y m2
theorem Jc {a b:Ex}{g:D->D->Sto->Rs D}{st:L2.St}{Q:VK}(h:rdE K (B0 g a b) st H Q):tOp (r2 K g) (rdE K a) (rdE K b) st H Q:=by
 obtain ⟨th,mu,ro,so,en,t⟩:=h
 refine ⟨th,mu,ro,so,en,t.bind.mono λx th1 mu1 H1 e1 s1 t1 v rv=>?_⟩
 exact ⟨th1,mu1,ro,s1,en.ext e1 so.out,t1.bind.mono λy th2 mu2 H2 e2 s2 t2 u ru=>⟨th2,mu2,x,y,s2,rv.ext e2 s1.out,ru,t2⟩⟩
theorem B2 {a b:Expr}{op:Operator}{g:D->D->Sto->Rs D}{ma mb:Ex}{pos:Pos}(ho:OpV X (binaryOp op) g)(ha:SV X a ma)(hb:SV X b mb):SV X (.BinOp a op b pos) (B0 g ma mb):=
 ⟨PE.weak (T7 ho ha.r hb.r) λ_ _ _ h=>Jc h⟩
theorem OA {a b:Expr}{op:CmpOp}{g:D->D->Sto->Rs D}{ma mb:Ex}{pos:Pos}(ho:OpV X (compareOp op) g)(ha:SV X a ma)(hb:SV X b mb)(hm:behindInMarks op b=false:=by first|exact Od _|with_unfolding_all rfl):SV X (.Compare a [op] [b] pos) (B0 g ma mb):=
 ⟨PE.weak (OX ho ha.r hb.r hm) λ_ _ _ h=>Jc h⟩
theorem Dn {a b:Expr}{g:D->D->Sto->Rs D}{ma mb:Ex}{pos:Pos}(ho:IxR X (r2 X.z g))(ha:SV X a ma)(hb:SV X b mb)(hs:L3 b:=by intro _ _;rfl):SV X (.Subscript a b pos) (B0 g ma mb):=
 ⟨PE.weak (UU ho ha.r hb.r hs) λ_ _ _ h=>Jc h⟩
noncomputable def e1 (g:D->Sto->Rs D)(a:Ex):Ex:=λro mu=>bM (a ro mu) λx m1=>g x m1
noncomputable def asB:D->Option Bool
 | .bl b=>some b
 | _=>none
def tV (a:Ex):Tx:=λro mu=>bM (a ro mu) λx m1=>(asB x).map λb=>(b,m1)
theorem Pw {d:D}{b:Bool}{v:V}(h:asB d=some b)(r:Rep K th H d v):v=.bl b:=by
 cases d with
 | bl c=>cases h;exact r
 | _=>cases h
theorem QO {a:Ex}{st:L2.St}{Q:Bool->Hp->Prop}(h:rdT K (tV a) st H Q):QD (rdE K a) st H Q:=by
 obtain ⟨th,mu,ro,so,en,t⟩:=h
 refine ⟨th,mu,ro,so,en,t.bind.mono λx th1 mu1 H1 e1 s1 t1 v rv=>?_⟩
 cases e:asB x with
 | none=>rw [e] at t1;exact t1.no.elim
 | some b=>rw [e] at t1;exact ⟨b,Pw e rv,t1.ret s1⟩
theorem LP {e:Expr}{m:Ex}(h:SV X e m)(he:∀ whole,isTrue e X.env whole=(do let v←whole;standAt e.pos;holding [v] (truthy v)):=by intro _;rfl):SVT X e (tV m):=⟨PT.weak (Ra h.r he) λ_ _ _ h=>QO h⟩
theorem E4 {a b:Expr}{op:CmpOp}{g:D->D->Sto->Rs D}{ma mb:Ex}{pos:Pos}(ho:OpV X (compareOp op) g)(ha:SV X a ma)(hb:SV X b mb)(hm:behindInMarks op b=false:=by first|exact Od _|with_unfolding_all rfl):SVT X (.Compare a [op] [b] pos) (tV (B0 g ma mb)):=
 ⟨PT.weak (PL ho ha.r hb.r hm) λ_ _ _ h=>by
  obtain ⟨th,mu,ro,so,en,t⟩:=QO h
  exact Jc ⟨th,mu,ro,so,en,t⟩⟩
def tNt (a:Tx):Tx:=λro mu=>bM (a ro mu) λb m1=>some (!b,m1)
theorem LG {e:Expr}{m:Tx}{pos:Pos}(h:SVT X e m):SVT X (.UnaryOp .Not e pos) (tNt m):=⟨PT.weak (RO h.r) λst H Q h=>by
 obtain ⟨th,mu,ro,so,en,t⟩:=h
 exact ⟨th,mu,ro,so,en,t.bind.mono λb th1 mu1 H1 e1 s1 t1=>t1.ret s1⟩⟩
noncomputable def tAn (a b:Tx):Tx:=λro mu=>bM (a ro mu) λx m1=>if x=true then b ro m1 else some (false,m1)
def tO (a b:Tx):Tx:=λro mu=>bM (a ro mu) λx m1=>if x=true then some (true,m1) else b ro m1
theorem Qd {a:Expr}{m:Tx}{pos:Pos}(ha:SVT X a m):SVW X (.BoolOp .Or [a] pos) m:=⟨Sz ha.r⟩
theorem SX {a b:Expr}{rest:List Expr}{m n:Tx}{pos:Pos}(ha:SVT X a m)(hb:SVW X (.BoolOp .Or (b::rest) pos) n):SVW X (.BoolOp .Or (a::b::rest) pos) (tO m n):=⟨PW.weak (U4 ha.r hb.r) λst H Q h=>by
 obtain ⟨th,mu,ro,so,en,t⟩:=h
 refine ⟨th,mu,ro,so,en,t.bind.mono λb th1 mu1 H1 e1 s1 t1=>?_⟩
 cases b with
 | true=>exact t1.ret s1
 | false=>exact ⟨th1,mu1,ro,s1,en.ext e1 so.out,t1⟩⟩
theorem SVW.t {e:Expr}{m:Tx}(h:SVW X e m):SVT X e m:=⟨PW.pt h.r⟩
noncomputable def eAn (a b:Ex):Ex:=λro mu=>bM (a ro mu) λx m1=>match asB x with
 | none=>none
 | some c=>if c=true then b ro m1 else some (.bl false,m1)
noncomputable def eO (a b:Ex):Ex:=λro mu=>bM (a ro mu) λx m1=>match asB x with
 | none=>none
 | some c=>if c=true then some (.bl true,m1) else b ro m1
noncomputable def eNt (a:Ex):Ex:=λro mu=>bM (a ro mu) λx m1=>match asB x with
 | none=>none
 | some c=>some (.bl (!c),m1)
noncomputable def eIf (c:Tx)(a b:Ex):Ex:=λro mu=>bM (c ro mu) λx m1=>if x=true then a ro m1 else b ro m1
noncomputable def BW:Exs:=λ_ mu=>some ([],mu)
def BR (a:Ex)(r:Exs):Exs:=λro mu=>bM (a ro mu) λx m1=>bM (r ro m1) λxs m2=>some (x::xs,m2)
theorem BV:SVA X [] BW:=by
 refine ⟨PA.weak NR λst H Q h=>?_,λro mu ds mu' h=>by cases h;rfl⟩
 obtain ⟨th,mu,ro,so,en,t⟩:=h
 exact t.ret so [] .nil
theorem BQ {e:Expr}{es:List Expr}{m:Ex}{n:Exs}(ha:SV X e m)(hr:SVA X es n)(hs:starEach (e::es) X.env=(false,eval e X.env)::starEach es X.env:=by rfl):SVA X (e::es) (BR m n):=by
 refine ⟨PA.weak (IH ha.r hr.1 hs) λst H Q h=>?_,λro mu ds mu' h=>?_⟩
 ·obtain ⟨th,mu,ro,so,en,t⟩:=h
  refine ⟨th,mu,ro,so,en,t.bind.mono λx th1 mu1 H1 e1 s1 t1 v rv=>?_⟩
  exact ⟨th1,mu1,ro,s1,en.ext e1 so.out,t1.bind.mono λxs th2 mu2 H2 e2 s2 t2 vs rvs=>t2.ret s2 _ (.cons (rv.ext e2 s1.out) rvs)⟩
 ·obtain ⟨x,m1,_,h⟩:=DI h
  obtain ⟨xs,m2,h1,h⟩:=DI h
  cases h
  rw [List.length_cons,List.length_cons,hr.2 _ _ _ _ h1]
def Dc (a:Exs):Ex:=λro mu=>bM (a ro mu) λxs m1=>some (.tup xs,m1)
def MV (a:Exs):Ex:=λro mu=>bM (a ro mu) λxs m1=>some (.lst xs,m1)
def DA (a:Exs):Ex:=λro mu=>bM (a ro mu) λxs m1=>some (.ref m1.length,m1++[.lst xs])
theorem Rep.newTup (so:StoOk K th mu H){p:Addr}(h:H p=none){ds:List D}{vs:List V}(r:RepL K th H ds vs)(hz:ds.length≤sizeLine):Rep K th (upd H p (.tup vs)) (.tup ds) (.ref p):=by
 unfold Rep
 exact ⟨p,vs,rfl,SqT.of CV,r.ext (.new h _) so.out,hz⟩
theorem StoOk.notin (so:StoOk K th mu H){p:Addr}(h:H p=none):p∉th:=λz=>by
 obtain ⟨xs,e,_⟩:=so.out p z
 rw [h] at e
 cases e
theorem Rep.newLst (so:StoOk K th mu H){p:Addr}(h:H p=none){ds:List D}{vs:List V}(r:RepL K th H ds vs)(hz:ds.length≤sizeLine):Rep K th (upd H p (.lst vs)) (.lst ds) (.ref p):=by
 unfold Rep
 exact ⟨p,vs,rfl,.inl ⟨so.notin h,.inl CV⟩,r.ext (.new h _) so.out,hz⟩
theorem DV {es:List Expr}{m:Exs}{x1}{pos:Pos}(h:SVA X es m)(hl:es.length≤1000:=by decide):SV X (.Tuple es x1 pos) (Dc m):=⟨PE.weak (Sn h.1) λst H Q q=>by
 obtain ⟨th,mu,ro,so,en,t⟩:=q
 obtain ⟨d,mu',e,_⟩:=id t
 obtain ⟨xs0,m0,e0,_⟩:=DI e
 have hn:=h.2 _ _ _ _ e0
 have tb:Tr X.z th H (m ro mu) λds th' mu' H'=>ds.length≤1000∧Tr X.z th' H' (some (D.tup ds,mu')) (KV' X.z Q):=by
  obtain ⟨a,mu1,e1,q1⟩:=t.bind
  exact ⟨a,mu1,e1,λth' H' x s=>⟨by rw [h.2 _ _ _ _ e1];exact hl,q1 th' H' x s⟩⟩
 refine ⟨th,mu,ro,so,en,tb.mono λxs th1 mu1 H1 e1 s1 t1 vs rvs=>⟨?_,λp hp=>?_⟩⟩
 ·rw [rvs.len];exact AM t1.1 (by decide)
 ·exact t1.2.retX (.new hp _) (s1.new hp _) _ (Rep.newTup s1 hp rvs (AM t1.1 (by decide)))⟩
theorem Ol {es:List Expr}{m:Exs}{C:List D->Sto->Rs D}{st:L2.St}{ro:Ro}{k:D->List Addr->Sto->Hp->Prop}(h:SVA X es m)(hl:es.length≤1000)(t:Tr K th H (bM (m ro mu) C) k) :
  Tr K th H (m ro mu) λds th' mu' H'=>ds.length≤1000∧Tr K th' H' (C ds mu') k:=by
 obtain ⟨a,mu1,e1,q1⟩:=t.bind
 exact ⟨a,mu1,e1,λth' H' x s=>⟨by rw [h.2 _ _ _ _ e1];exact hl,q1 th' H' x s⟩⟩
theorem Je {es:List Expr}{m:Exs}{pos:Pos}(h:SVA X es m)(hl:es.length≤1000:=by decide):SV X (.List es pos) (MV m):=⟨PE.weak (NH h.1) λst H Q q=>by
 obtain ⟨th,mu,ro,so,en,t⟩:=q
 refine ⟨th,mu,ro,so,en,(Ol (st:=st) h hl t).mono λxs th1 mu1 H1 e1 s1 t1 vs rvs=>⟨?_,λp hp=>?_⟩⟩
 ·rw [rvs.len];exact AM t1.1 (by decide)
 ·exact t1.2.retX (.new hp _) (s1.new hp _) _ (Rep.newLst s1 hp rvs (AM t1.1 (by decide)))⟩
theorem FN {es:List Expr}{m:Exs}{pos:Pos}(h:SVA X es m)(hl:es.length≤1000:=by decide):SV X (.List es pos) (DA m):=⟨PE.weak (NH h.1) λst H Q q=>by
 obtain ⟨th,mu,ro,so,en,t⟩:=q
 refine ⟨th,mu,ro,so,en,(Ol (st:=st) h hl t).mono λxs th1 mu1 H1 e1 s1 t1 vs rvs=>⟨?_,λp hp=>?_⟩⟩
 ·rw [rvs.len];exact AM t1.1 (by decide)
 ·refine t1.2.retX (.newM hp _) (s1.newM hp rvs (AM t1.1 (by decide))) _ ?_
  unfold Rep
  exact ⟨p,rfl,by rw [← s1.len];simp⟩⟩
def BX (f:Fn)(a:Exs):Ex:=λro mu=>bM (a ro mu) λxs m1=>f xs m1
theorem Nu {f:Fn}{a:Exs}{st:L2.St}{Q:VK}(h:rdE K (BX f a) st H Q):tCB (rL K f) (rdA K a) st H Q:=by
 obtain ⟨th,mu,ro,so,en,t⟩:=h
 exact ⟨th,mu,ro,so,en,t.bind.mono λxs th1 mu1 H1 e1 s1 t1 vs rvs=>⟨th1,mu1,xs,s1,rvs,t1⟩⟩
theorem Co {x:Str}{id:String}{g:Fn}{e:Expr}{es:List Expr}{m:Exs}{p pos:Pos}(hc:CallV X (.builtin id) g)(hm:X.mg x=none)(hv:bootBuiltins x=some (.builtin id))(ha:SVA X (e::es) m)(hg:Gl X x:=by rfl)
  (hn:x≠"__name__":=by decide) (hdb:(x==("__debug__":Str))=false:=by decide) (hs1:starEach (e::es) X.env=(false,eval e X.env)::starEach es X.env:=by rfl) (hs2:(backTo pos (starEach es X.env)).any (·.1)=false:=by rfl):SV X (.Call (.Name x p) (e::es) [] pos) (BX g m):=
 ⟨PE.weak (JU hc hg hm hv ha.1 hn hdb hs1 hs2) λ_ _ _ h=>Nu h⟩
theorem C0 {x:Str}{T:String}{g:Fn}{e:Expr}{es:List Expr}{m:Exs}{p pos:Pos}(hc:CallV X (.type T) g)(hm:X.mg x=none)(hv:bootBuiltins x=some (.type T))(ha:SVA X (e::es) m)(hg:Gl X x:=by rfl)
  (hn:x≠"__name__":=by decide) (hdb:(x==("__debug__":Str))=false:=by decide) (hs1:starEach (e::es) X.env=(false,eval e X.env)::starEach es X.env:=by rfl) (hs2:(backTo pos (starEach es X.env)).any (·.1)=false:=by rfl):SV X (.Call (.Name x p) (e::es) [] pos) (BX g m):=
 ⟨PE.weak (MH hc hg hm hv ha.1 hn hdb hs1 hs2) λ_ _ _ h=>Nu h⟩
def spF (K:Zc)(f:Fn)(n:Nat):Sp:=λvs H Q _=>∃ th mu ds,StoOk K th mu H∧RepL K th H ds vs∧ds.length=n∧Tr K th H (f ds mu) (KV' K Q)
structure Cal (P:Program) (w:World) (K:PySem.W.Frag) (mg:Str->Option Value) (base:Heap) (k:Nat) (x:Str) (f:Fn) (n:Nat):Prop where
 ex:∃ (ps:List Str) (a:Addr) (fd:FuncData),ps.length=n∧DJ P w K mg base CX0 k a fd ps (spF ⟨K,P,w⟩ f n)∧Binds K fd ps []∧PySem.W.keepIn K (.ref a)=true∧mg x=some (.ref a)
theorem B6 {x:Str}{k:Nat}{f:Fn}{n:Nat}{e:Expr}{es:List Expr}{m:Exs}{p pos:Pos}(C:Cal X.prog X.w X.K X.mg X.base k x f n)(hr:Room k X.A)(ha:SVA X (e::es) m)(hl:(e::es).length=n:=by rfl)(hg:Gl X x:=by rfl)
  (hdb:(x==("__debug__":Str))=false:=by decide) (he:starEach (e::es) X.env=(false,eval e X.env)::starEach es X.env:=by rfl) (hpl:(backTo pos (starEach es X.env)).any (·.1)=false:=by rfl):SV X (.Call (.Name x p) (e::es) [] pos) (BX f m):=⟨by
 obtain ⟨ps,a,fd,hn,F,b,kp,mm⟩:=C.ex
 refine PE.weak (PD F hr hg mm kp b .nil Vc ha.1 hdb he hpl) λst H Q h=>?_
 obtain ⟨th,mu,ro,so,en,t⟩:=h
 have tb:Tr X.z th H (m ro mu) λds th' mu' H'=>ds.length=n∧Tr X.z th' H' (f ds mu') (KV' X.z Q):=by
  obtain ⟨a,mu1,e1,q1⟩:=t.bind
  exact ⟨a,mu1,e1,λth' H' x s=>⟨by rw [ha.2 _ _ _ _ e1];exact hl,q1 th' H' x s⟩⟩
 exact ⟨th,mu,ro,so,en,tb.mono λxs th1 mu1 H1 e1 s1 t1 vs rvs=>⟨th1,mu1,xs,s1,by simpa using rvs,t1.1,t1.2⟩⟩⟩
noncomputable def sNx:Sx:=λro mu=>some ((.nx,ro),mu)
def Cc (a b:Sx):Sx:=λro mu=>bM (a ro mu) λp m1=>match p.1 with
 | .nx=>b p.2 m1
 | _=>some (p,m1)
theorem Fb:SVB X [] sNx:=⟨PSs.weak P2 λE st H h=>by
 obtain ⟨th,mu,ro,so,en,t⟩:=h
 exact t.ret so st en⟩
theorem B8 {s:Stmt}{m:Sx}(h:SVS X s m):SVB X [s] m:=⟨PC h.r⟩
theorem B1 {s:Stmt}{r:List Stmt}{m n:Sx}(h1:SVS X s m)(h2:SVB X r n):SVB X (s::r) (Cc m n):=⟨PSs.weak (Ot h1.r h2.r) λE st H h=>by
 obtain ⟨th,mu,ro,so,en,t⟩:=h
 refine ⟨th,mu,ro,so,en,t.bind.mono λp th1 mu1 H1 e1 s1 t1 st' en'=>?_⟩
 obtain ⟨fl,ro'⟩:=p
 cases fl with
 | nx=>exact ⟨th1,mu1,ro',s1,en',t1⟩
 | bk=>exact t1.ret s1 st' en'
 | ct=>exact t1.ret s1 st' en'
 | rt d=>exact t1.ret s1 st' en'⟩
def sRt (a:Ex):Sx:=λro mu=>bM (a ro mu) λd m1=>some ((.rt d,ro),m1)
theorem Cq {e:Expr}{m:Ex}{pos:Pos}(h:SV X e m):SVS X (.Return (some e) pos) (sRt m):=⟨PS.weak (Ss h.r) λE st H h=>by
 obtain ⟨th,mu,ro,so,en,t⟩:=h
 exact ⟨th,mu,ro,so,en,t.bind.mono λd th1 mu1 H1 e1 s1 t1 v rv=>t1.ret s1 st (en.ext e1 so.out) v rv⟩⟩
def sEx (a:Ex):Sx:=λro mu=>bM (a ro mu) λ_ m1=>some ((.nx,ro),m1)
theorem Fz {e:Expr}{m:Ex}{pos:Pos}(h:SV X e m)(hs:swapsWith e none pos.line X.env=pure false:=by rfl):SVS X (.Expr e pos) (sEx m):=⟨PS.weak (PK h.r hs) λE st H h=>by
 obtain ⟨th,mu,ro,so,en,t⟩:=h
 exact ⟨th,mu,ro,so,en,t.bind.mono λd th1 mu1 H1 e1 s1 t1 v rv=>t1.ret s1 st (en.ext e1 so.out)⟩⟩
def sIf (c:Tx)(a b:Sx):Sx:=λro mu=>bM (c ro mu) λx m1=>if x=true then a ro m1 else b ro m1
theorem F5 {c:Expr}{a b:List Stmt}{mc:Tx}{ma mb:Sx}{pos:Pos}(hc:SVT X c mc)(ha:SVB X a ma)(hb:SVB X b mb):SVS X (.If c a b pos) (sIf mc ma mb):=⟨PS.weak (U1 hc.r ha.r hb.r) λE st H h=>by
 obtain ⟨th,mu,ro,so,en,t⟩:=h
 refine ⟨th,mu,ro,so,en,t.bind.mono λb th1 mu1 H1 e1 s1 t1=>?_⟩
 cases b with
 | true=>exact ⟨th1,mu1,ro,s1,en.ext e1 so.out,t1⟩
 | false=>exact ⟨th1,mu1,ro,s1,en.ext e1 so.out,t1⟩⟩
abbrev Gx:=D->Ro->Sto->Rs Ro
abbrev Gxs:=List D->Ro->Sto->Rs Ro
def rdG (K:Zc)(g:Gx):TG:=λv st H Q=>∃ th mu ro d,StoOk K th mu H∧EnvOk K th H ro st∧Rep K th H d v∧Tr K th H (g d ro mu) λro' th' _ H'=>∀ st',EnvOk K th' H' ro' st'->Q st' H'
def VL (K:Zc)(g:Gxs):TGs:=λvs st H Q=>∃ th mu ro ds,StoOk K th mu H∧EnvOk K th H ro st∧RepL K th H ds vs∧Tr K th H (g ds ro mu) λro' th' _ H'=>∀ st',EnvOk K th' H' ro' st'->Q st' H'
structure SVG (X:Cx) (e:Expr) (g:Gx):Prop where
 r:PG X e (rdG X.z g)
structure QA (X:Cx) (es:List Expr) (g:Gxs):Prop where
 r:PGs X es (VL X.z g)
theorem PG.weak {e:Expr}{t t':TG}(h:PG X e t)(f:∀ v st H Q,t' v st H Q->t v st H Q):PG X e t':=λpins s st H v u Q I r q=>h pins s st H v u Q I r (f v st H Q q)
theorem PGs.weak {e:List Expr}{t t':TGs}(h:PGs X e t)(f:∀ v st H Q,t' v st H Q->t v st H Q):PGs X e t':=λpins s st H v u Q I r q=>h pins s st H v u Q I r (f v st H Q q)
noncomputable def gNm (i:Nat):Gx:=λd ro mu=>some (ro.set i (some d),mu)
theorem B5 (i:Nat){x:Str}{pos:Pos}(hN:X.N.Nodup)(hi:X.N[i]? = some x:=by rfl)(hx:Loc X.env.scope x:=by first|exact Or.inl rfl|exact Or.inr rfl)(hf:X.fn x=true∨X.env.scope.names.lookup x=some .local:=by first|exact .inl rfl|exact .inr rfl):SVG X (.Name x pos) (gNm i):=
 ⟨PG.weak (Qn hN hi hx hf) λv st H Q h=>by
  obtain ⟨th,mu,ro,d,so,en,r,t⟩:=h
  exact t.ret so _ (en.set i r)⟩
noncomputable def Ec:Gxs:=λds ro mu=>match ds with
 | []=>some (ro,mu)
 | _=>none
def Cg (g:Gx)(r:Gxs):Gxs:=λds ro mu=>match ds with
 | d::ds=>bM (g d ro mu) λro' m1=>r ds ro' m1
 | []=>none
theorem EG:QA X [] Ec:=⟨PGs.weak Ph λv st H Q h=>by
 obtain ⟨th,mu,ro,ds,so,en,r,t⟩:=h
 cases ds with
 | nil=>exact ⟨r.inv0,t.ret so _ en⟩
 | cons d ds=>exact t.no.elim⟩
theorem Cv {e:Expr}{es:List Expr}{g:Gx}{gs:Gxs}(h1:SVG X e g)(h2:QA X es gs)(hs:(assignEach (e::es) X.env).map (·.2)=assign e X.env::(assignEach es X.env).map (·.2):=by rfl):QA X (e::es) (Cg g gs):=⟨PGs.weak (Nf h1.r h2.r hs) λv st H Q h=>by
 obtain ⟨th,mu,ro,ds,so,en,r,t⟩:=h
 cases ds with
 | nil=>exact t.no.elim
 | cons d ds =>
  obtain ⟨v,vr,rfl,r1,r2⟩:=r.inv
  refine ⟨v,vr,rfl,th,mu,ro,d,so,en,r1,?_⟩
  exact Tr.mono (Tr.bind t) λro' th1 mu1 H1 e1 s1 t1 st' en'=>⟨th1,mu1,ro',ds,s1,en',r2.ext e1 so.out,t1⟩⟩
noncomputable def gTp (n:Nat)(g:Gxs):Gx:=λd ro mu=>match d with
 | .tup ds=>if ds.length=n then g ds ro mu else none
 | _=>none
theorem FG {es:List Expr}{k n:Nat}{g:Gxs}{pos:Pos}(hc:X.calm=true)(h:QA X es g)(hn:(assignEach es X.env).length=n:=by rfl)(hst:(assignEach es X.env).findIdx? (·.1)=none:=by rfl):SVG X (.Tuple es k pos) (gTp n g):=
 ⟨PG.weak (Rl hc h.r hn hst) λv st H Q q=>by
  obtain ⟨th,mu,ro,d,so,en,r,t⟩:=q
  cases d with
  | tup ds =>
   unfold Rep at r
   obtain ⟨a,vs,rfl,hs,rl,_⟩:=r
   unfold gTp at t;dsimp only at t
   by_cases e:ds.length=n
   ·rw [if_pos e] at t
    exact ⟨a,vs,rfl,hs,by rw [rl.len];exact e,th,mu,ro,ds,so,en,rl,t⟩
   ·rw [if_neg e] at t;exact t.no.elim
  | _=>exact t.no.elim⟩
def Cu (a:Ex)(g:Gx):Sx:=λro mu=>bM (a ro mu) λd m1=>bM (g d ro m1) λro' m2=>some ((.nx,ro'),m2)
theorem Pd {a:Ex}{g:Gx}{st:L2.St}{E:Ends}(h:rdS K (Cu a g) E st H):Rn (rdE K a) (rdG K g) E st H:=by
 obtain ⟨th,mu,ro,so,en,t⟩:=h
 refine ⟨th,mu,ro,so,en,t.bind.mono λd th1 mu1 H1 e1 s1 t1 v rv=>?_⟩
 refine ⟨th1,mu1,ro,d,s1,en.ext e1 so.out,rv,t1.bind.mono λro' th2 mu2 H2 e2 s2 t2 st' en'=>?_⟩
 exact t2.ret s2 st' en'
theorem Gg {tg e:Expr}{m:Ex}{g:Gx}{pos:Pos}(he:SV X e m)(hg:SVG X tg g)(hs:swapsWithSole [tg] e pos.line X.env=pure false:=by rfl)(hw:swappedStores [tg] e X.env=pure none:=by rfl)
  (h1:(assignEach [tg] X.env).map (·.2)=[assign tg X.env]:=by rfl):SVS X (.Assign [tg] e pos) (Cu m g):=⟨PS.weak (R5 he.r hg.r hs hw h1) λ_ _ _ h=>Pd h⟩
theorem Ce (i:Nat){x:Str}{e:Expr}{m:Ex}{pos pos':Pos}(hN:X.N.Nodup)(he:SV X e m)(hi:X.N[i]? = some x:=by rfl)(hx:Loc X.env.scope x:=by first|exact Or.inl rfl|exact Or.inr rfl)(hs:swapsWith e (some (.Name x pos')) pos.line X.env=pure false:=by rfl)
  (hf:X.fn x=true∨X.env.scope.names.lookup x=some .local:=by first|exact .inl rfl|exact .inr rfl):SVS X (.Assign [.Name x pos'] e pos) (Cu m (gNm i)):=⟨PS.weak (RX hN hi hx he.r hs hf) λE st H h=>by
 obtain ⟨th,mu,ro,so,en,t⟩:=h
 refine ⟨th,mu,ro,so,en,t.bind.mono λd th1 mu1 H1 e1 s1 t1 v rv=>?_⟩
 exact t1.ret s1 _ ((en.ext e1 so.out).set i rv)⟩
noncomputable def V4 (i j:Nat)(a:Exs):Sx:=λro mu=>bM (a ro mu) λds m1=>match ds with
 | [x,y]=>some ((.nx,(ro.set i (some x)).set j (some y)),m1)
 | _=>none
def fnB (n:Nat)(m:Sx):Fn:=λds mu=>bM (m (ds.map some++List.replicate (n-ds.length) none) mu) λp m1=>match p.1 with
 | .rt d=>some (d,m1)
 | .nx=>some (.non,m1)
 | _=>none
theorem GQ {N:List Str}{ds:List D}{vs:List V}(r:RepL K th H ds vs):EnvOk K th H (ds.map some++List.replicate (N.length-ds.length) none) (L2.start N vs):=by
 unfold L2.start
 refine ⟨by simp [r.len],λi d e=>?_⟩
 by_cases hi:i<ds.length
 ·rw [Ai (by simpa using hi),Ar] at e
  cases q:ds[i]? with
  | none=>rw [q] at e;cases e
  | some d' =>
   rw [q] at e
   have:d'=d:=by simpa using e
   subst this
   obtain ⟨v,ev,rv⟩:=r.get q
   exact ⟨v,by rw [Ai (by simpa [r.len] using hi),Ar,ev];rfl,rv⟩
 ·rw [AX (by simpa using hi),BG] at e
  split at e<;>cases e
theorem U2 {P:Program}{w:World}{K:PySem.W.Frag}{mg:Str->Option Value}{base:Heap}{x qual:Str}{st:Stmt}{f:Addr}{fd:FuncData}{N ps:List Str}{k:Nat}{m:Sx}(F:Fun K x qual st f fd)(S:Cp N ps (BY st))
  (hbody:∀ (cdv:Value) (A:Around) (outer:List Env) (s:Shared) (H:Hp) (E:XK),Room k (A.deeper (envOfC qual (BY st) s.heap.objs.size f cdv)) ->
   SVB (HL CX0 P w K mg base N qual (BY st) f cdv A outer s H E).nox (Dj st) m):DJ P w K mg base CX0 (k+1) f fd ps (spF ⟨K,P,w⟩ (fnB N.length m) ps.length):=by
 refine F.ok S (λvs H Q E h=>?_) (λcdv A outer s H vs Q E hr h=>?_)
 ·obtain ⟨th,mu,ds,_,r,hl,_⟩:=h
  rw [r.len]
  exact hl
 ·obtain ⟨th,mu,ds,so,r,hl,t⟩:=h
  refine ⟨_,(hbody cdv A outer s H E hr).r,?_⟩
  refine ⟨th,mu,_,so,GQ r,t.bind.mono λp th1 mu1 H1 e1 s1 t1 st' en'=>?_⟩
  obtain ⟨fl,ro'⟩:=p
  cases fl with
  | nx=>exact t1.ret s1 _ (by unfold Rep;rfl)
  | bk=>exact t1.no.elim
  | ct=>exact t1.no.elim
  | rt d=>exact λv rv=>t1.ret s1 v rv
theorem DS (n np:Nat){P:Program}{w:World}{K:PySem.W.Frag}{mg:Str->Option Value}{base:Heap}{x qual:Str}{st:Stmt}{f:Addr}{fd:FuncData}{N ps:List Str}{k:Nat}{m:Sx}(F:Fun K x qual st f fd)(S:Cp N ps (BY st))(hn:N.length=n)(hp:ps.length=np)
  (hbody:∀ (cdv:Value) (A:Around) (outer:List Env) (s:Shared) (H:Hp) (E:XK),Room k (A.deeper (envOfC qual (BY st) s.heap.objs.size f cdv)) ->
   SVB (HL CX0 P w K mg base N qual (BY st) f cdv A outer s H E).nox (Dj st) m):DJ P w K mg base CX0 (k+1) f fd ps (spF ⟨K,P,w⟩ (fnB n m) np):=by
 subst hn hp
 exact U2 F S hbody
theorem DF {P:Program}{w:World}{K:PySem.W.Frag}{mg:Str->Option Value}{base:Heap}{x:Str}{st:Stmt}{f:Addr}{fd:FuncData}{ps:List Str}{k n:Nat}{g:Fn}(F:Fun K x x st f fd)(hm:mg x=some (.ref f))(h:DJ P w K mg base CX0 k f fd ps (spF ⟨K,P,w⟩ g n))(hb:Binds K fd ps [])(hn:ps.length=n:=by rfl):Cal P w K mg base k x g n:=
 ⟨ps,f,fd,hn,h,hb,F.kp,hm⟩
abbrev Ix:=Ro->Sto->Rs (List D×Option Nat)
def gOk (g:Option Nat)(m0 m:Sto):Prop:=match g with
 | none=>True
 | some k=>m0[k]? = m[k]?
structure MX (K:Zc) (J:It) (th:List Addr) (mu:Sto) (H:Hp) (ds:List D) (g:Option Nat):Prop where
 sz:ds.length≤sizeLine
 go:∀ th' mu' H',Ext th H th' H'->StoOk K th' mu' H'->gOk g mu mu'->∀ (i:Nat) (d:D),ds[i]? = some d->J.go i H'∧∀ x H2,J.yld i H' x H2->Ext th' H' th' H2∧StoOk K th' mu' H2∧Rep K th' H2 d x
 stop:∀ th' mu' H',Ext th H th' H'->StoOk K th' mu' H'->gOk g mu mu'->J.stop ds.length H'
def rdI (K:Zc)(m:Ix):TI:=λst H R=>∃ th mu ro,StoOk K th mu H∧EnvOk K th H ro st∧Tr K th H (m ro mu) λp th' mu' H'=>∀ J,MX K J th' mu' H' p.1 p.2->R J H'
structure SVI (X:Cx) (tg iter:Expr) (m:Ix):Prop where
 r:PI X tg iter (rdI X.z m)
theorem PI.weak {tg e:Expr}{t t':TI}(h:PI X tg e t)(f:∀ st H R,t' st H R->t st H R):PI X tg e t':=λpins s st H R I q=>h pins s st H R I (f st H R q)
open Classical in
noncomputable def Dd {A:Type}(g:Option Nat)(m0 m:Sto)(r:Rs A):Rs A:=if gOk g m0 m then r else none
theorem D9 {A:Type}{g:Option Nat}{m0 m:Sto}{r:Rs A}{p:A×Sto}(h:Dd g m0 m r=some p):gOk g m0 m∧r=some p:=by
 unfold Dd at h
 by_cases e:gOk g m0 m
 ·rw [if_pos e] at h;exact ⟨e,h⟩
 ·rw [if_neg e] at h;cases h
noncomputable def DX (g:Option Nat)(m0:Sto)(tg:Gx)(body:Sx):List D->Ro->Sto->Rs (Fl×Ro)
 | [],ro,mu=>some ((.nx,ro),mu)
 | d::ds,ro,mu=>bM (tg d ro mu) λro1 m1=>bM (body ro1 m1) λp m2=>match p.1 with
  | .nx=>Dd g m0 m2 (DX g m0 tg body ds p.2 m2)
  | .ct=>Dd g m0 m2 (DX g m0 tg body ds p.2 m2)
  | .bk=>some ((.nx,p.2),m2)
  | .rt d=>some ((.rt d,p.2),m2)
def FT (i:Ix)(tg:Gx)(body:Sx):Sx:=λro mu=>bM (i ro mu) λp m1=>DX p.2 m1 tg body p.1 ro m1
theorem D3 {tg iter:Expr}{body:List Stmt}{i:Ix}{g:Gx}{m:Sx}{pos:Pos}(hp:PassesOwn (model X.prog X.w) X.A X.env X.xe)(hc:X.calm=true)(hi:SVI X tg iter i)(hg:SVG X tg g)(hb:SVB X body m)
  (hs:∀ x,foldedSetIterable iter X.env x=pure x:=by intro _;rfl):SVS X (.For tg iter body [] pos) (FT i g m):=⟨PS.weak (Sj hp hc hi.r hg.r hb.r hs) λE st H h=>by
 obtain ⟨th,mu,ro,so,en,t⟩:=h
 refine ⟨th,mu,ro,so,en,t.bind.mono λp th1 mu1 H1 e1 s1 t1 J ok=>?_⟩
 obtain ⟨ds,gd⟩:=p
 have en1:=en.ext e1 so.out
 refine ⟨λk n st' H'=>n=ds.length-k∧k≤ds.length∧∃ th' mu' ro',StoOk X.z th' mu' H'∧EnvOk X.z th' H' ro' st'∧Ext th1 H1 th' H'∧gOk gd mu1 mu'∧Tr X.z th' H' (DX gd mu1 g m (ds.drop k) ro' mu') (Q6 X.z E),⟨_,rfl,AW _,th1,mu1,ro,s1,en1,.refl _ _,?_,t1⟩,?_⟩
 ·cases gd with
  | none=>exact True.intro
  | some k=>exact rfl
 rintro k n st2 H2 ⟨rfl,hk,th2,mu2,ro2,s2,en2,e2,g2,t2⟩
 by_cases lt:k<ds.length
 ·refine .inr ?_
  have ek:ds[k]? = some ds[k]:=by simp
  obtain ⟨a1,a2⟩:=ok.go th2 mu2 H2 e2 s2 g2 k ds[k] ek
  refine ⟨a1,λst' H'=>k+1≤ds.length∧∃ th' mu' ro',StoOk X.z th' mu' H'∧EnvOk X.z th' H' ro' st'∧Ext th1 H1 th' H'∧gOk gd mu1 mu'∧Tr X.z th' H' (DX gd mu1 g m (ds.drop (k+1)) ro' mu') (Q6 X.z E),λst' H' q=>⟨ds.length-(k+1),by ext,rfl,q⟩,λx H3 y=>?_⟩
  obtain ⟨e3,s3,r3⟩:=a2 x H3 y
  rw [Bn lt] at t2
  unfold DX at t2
  refine ⟨th2,mu2,ro2,ds[k],s3,en2.ext e3 s2.out,r3,?_⟩
  refine (t2.ahead e3).bind.mono λro4 th4 mu4 H4 e4 s4 t4 st4 en4=>?_
  refine ⟨th4,mu4,ro4,s4,en4,t4.bind.mono λp th5 mu5 H5 e5 s5 t5 st5 en5=>?_⟩
  obtain ⟨fl,ro5⟩:=p
  have e15:Ext th1 H1 th5 H5:=((e2.trans e3).trans e4).trans e5
  cases fl with
  | nx =>
   obtain ⟨a,mu',q1,q2⟩:=t5
   obtain ⟨go5,q1⟩:=D9 q1
   exact ⟨lt,th5,mu5,ro5,s5,en5,e15,go5,a,mu',q1,q2⟩
  | ct =>
   obtain ⟨a,mu',q1,q2⟩:=t5
   obtain ⟨go5,q1⟩:=D9 q1
   exact ⟨lt,th5,mu5,ro5,s5,en5,e15,go5,a,mu',q1,q2⟩
  | bk=>exact t5.ret s5 st5 en5
  | rt d=>exact t5.ret s5 st5 en5
 ·have e:k=ds.length:=by ext
  subst e
  rw [List.drop_length] at t2
  unfold DX at t2
  exact .inl ⟨ok.stop th2 mu2 H2 e2 s2 g2,t2.ret s2 st2 en2⟩⟩
end
end PV
namespace L2
open PySem PySem.Spec PyProof.Rows
section
variable {X:Cx} {tg iter elt:Expr} {ifs:List Expr} {scope:Scope} {pos:Pos} {wi:TI} {own:List Str} {fv:List (Nat×Str)} {g:TG} {tt:TT} {te:TE}
theorem GH {C:Addr}{h h':Heap}(sb:Heap.SameBut C h h'):∀ b o,b∉[C]->h.get? b=some o->h'.get? b=some o:=λb o hb e=>(sb.2 b (by simpa using hb)).trans e
end
end L2
namespace PV
open PySem L2 PySem.Spec PyProof.Rows
section
variable {X:Cx} {K:Zc} {th:List Addr} {mu:Sto} {H:Hp}
noncomputable def Gu (g:Option Nat)(m0:Sto)(tg:Gx)(tt:Tx)(el:Ex)(ro:Ro):List D->Sto->Rs (List D)
 | [],mu=>some ([],mu)
 | d::ds,mu=>bM (tg d ro mu) λro1 m1=>bM (tt ro1 m1) λb m2 =>
  if b=true then bM (el ro1 m2) λy m3=>Dd g m0 m3 (bM (Gu g m0 tg tt el ro ds m3) λys m4=>some (y::ys,m4)) else Dd g m0 m2 (Gu g m0 tg tt el ro ds m2)
noncomputable def r0 (nc:Nat)(fvs:List Nat)(ro:Ro):Ro:=List.replicate nc none++fvs.map λk=>ro.getD k none
def eLC (i:Ix)(nc:Nat)(fvs:List Nat)(tg:Gx)(tt:Tx)(el:Ex):Ex:=λro mu=>bM (i ro mu) λp m1=>bM (Gu p.2 m1 tg tt el (r0 nc fvs ro) p.1 m1) λys m2=>some (.lst ys,m2)
def GOwn (nc:Nat)(tg:Gx):Prop:=∀ d ro mu ro' mu',tg d ro mu=some (ro',mu')->ro'.length=ro.length∧∀ i,nc≤i->ro'[i]? = ro[i]?
def LL (nc:Nat)(tg:Gxs):Prop:=∀ d ro mu ro' mu',tg d ro mu=some (ro',mu')->ro'.length=ro.length∧∀ i,nc≤i->ro'[i]? = ro[i]?
theorem CP {nc i:Nat}(h:i<nc:=by decide):GOwn nc (gNm i):=λd ro mu ro' mu' e=>by
 cases e
 exact ⟨by simp,λj hj=>Aw (by ext)⟩
theorem IA {nc:Nat}:LL nc Ec:=λds ro mu ro' mu' e=>by
 cases ds with
 | nil=>cases e;exact ⟨rfl,λ_ _=>rfl⟩
 | cons d ds=>cases e
theorem EV {nc:Nat}{g:Gx}{gs:Gxs}(h1:GOwn nc g)(h2:LL nc gs):LL nc (Cg g gs):=λds ro mu ro' mu' e=>by
 cases ds with
 | nil=>cases e
 | cons d ds =>
  obtain ⟨ro1,m1,e1,e2⟩:=DI e
  obtain ⟨a1,a2⟩:=h1 _ _ _ _ _ e1
  obtain ⟨b1,b2⟩:=h2 _ _ _ _ _ e2
  exact ⟨b1.trans a1,λi hi=>(b2 i hi).trans (a2 i hi)⟩
theorem Kg {nc n:Nat}{g:Gxs}(h:LL nc g):GOwn nc (gTp n g):=λd ro mu ro' mu' e=>by
 cases d with
 | tup ds =>
  unfold gTp at e
  dsimp only at e
  by_cases q:ds.length=n
  ·rw [if_pos q] at e;exact h _ _ _ _ _ e
  ·rw [if_neg q] at e;cases e
 | _=>cases e
theorem JJ {nc:Nat}{fv:List (Nat×Str)}{ro:Ro}{st:L2.St}(en:EnvOk K th H ro st):EnvOk K th H (r0 nc (fv.map (·.1)) ro) (st0 nc fv st):=by
 unfold r0 st0
 refine ⟨by simp,λi d e=>?_⟩
 by_cases hi:i<nc
 ·rw [Ai (by simpa using hi),BG] at e
  split at e<;>cases e
 ·rw [AX (by simpa using hi)] at e ⊢
  simp only [List.length_replicate,AV,Ar] at e ⊢
  cases q:fv[i-nc]? with
  | none=>rw [q] at e;cases e
  | some p =>
   rw [q] at e
   have e':ro.getD p.1 none=some d:=by simpa using e
   rw [AG] at e'
   have e2:ro[p.1]? = some (some d):=by
    cases w:ro[p.1]? with
    | none=>rw [w] at e';cases e'
    | some o=>rw [w] at e';exact congrArg some e'
   obtain ⟨v,ev,rv⟩:=en.2 _ _ e2
   exact ⟨v,by simp [AG,ev],rv⟩
theorem Hq {nc:Nat}{fvs:List Nat}{ro:Ro}{i:Nat}{d:D}(e:(r0 nc fvs ro)[i]? = some (some d)):nc≤i:=by
 rcases Nat.lt_or_ge i nc with h|h
 ·unfold r0 at e
  rw [Ai (by simpa using h),BG] at e
  split at e<;>cases e
 ·exact h
noncomputable def tY:Tx:=λ_ mu=>some (true,mu)
structure SVF (X:Cx) (ifs:List Expr) (m:Tx):Prop where
 r:PF X ifs (rdT X.z m)
theorem D4:SVF X [] tY:=⟨λpins s st H Q I h=>SU pins s st H Q I (by
 obtain ⟨th,mu,ro,so,en,t⟩:=h
 exact t.ret so)⟩
theorem P8 {c:Expr}{m:Tx}(h:SVT X c m):SVF X [c] m:=⟨Su h.r⟩
noncomputable def chars (x:Str):List D:=x.cps.toList.map λc=>.str ⟨#[c]⟩
def CS (a:Ex):Ix:=λro mu=>bM (a ro mu) λd m1=>match d with
 | .tup ds=>some ((ds,none),m1)
 | .lst ds=>some ((ds,none),m1)
 | .str x=>some ((chars x,none),m1)
 | .ref k=>match m1[k]? with
  | some (.lst ds)=>some ((ds,some k),m1)
  | _=>none
 | _=>none
theorem Io {a:Addr}{ds:List D}{g:Option Nat}(hz:ds.length≤sizeLine)(h:∀ th' mu' H',Ext th H th' H'->StoOk K th' mu' H'->gOk g mu mu'->∃ vs,SqL K.K H' a vs∧RepL K th' H' ds vs):MX K (Itl K.K a) th mu H ds g where
 sz:=hz
 go:=λth' mu' H' e s go i d ed=>by
  obtain ⟨vs,h1,h2⟩:=h th' mu' H' e s go
  obtain ⟨v,ev,rv⟩:=h2.get ed
  refine ⟨⟨vs,v,h1,ev⟩,λx H2 y=>?_⟩
  obtain ⟨rfl,y⟩:=y
  have ex:=y vs h1
  rw [ev] at ex
  cases ex
  exact ⟨.refl _ _,s,rv⟩
 stop:=λth' mu' H' e s go=>by
  obtain ⟨vs,h1,h2⟩:=h th' mu' H' e s go
  exact ⟨vs,h1,by rw [h2.len];exact Ak _⟩
theorem Nl {a:Addr}{ds:List D}{vs:List V}(so:StoOk K th mu H)(hz:ds.length≤sizeLine)(h:SqT K.K H a vs)(r:RepL K th H ds vs):MX K (Itt K.K a) th mu H ds none where
 sz:=hz
 go:=λth' mu' H' e s go i d ed=>by
  have h1:=e.sqT so.out h
  obtain ⟨v,ev,rv⟩:=(r.ext e so.out).get ed
  refine ⟨⟨vs,v,h1,ev⟩,λx H2 y=>?_⟩
  obtain ⟨rfl,y⟩:=y
  have ex:=y vs h1
  rw [ev] at ex
  cases ex
  exact ⟨.refl _ _,s,rv⟩
 stop:=λth' mu' H' e s go=>⟨vs,e.sqT so.out h,by rw [r.len];exact Ak _⟩
theorem Kd {x:Str}{c:Nat}(ok:PyData.strOk x=true)(h:c∈x.cps.toList):Rep K th H (.str ⟨#[c]⟩) (.str ⟨#[c]⟩):=by
 unfold Rep
 refine ⟨rfl,by show 1≤sizeLine;decide,?_⟩
 unfold PyData.strOk at ok ⊢
 rw [← Array.all_toList] at ok ⊢
 simpa using Ay.mp ok c h
theorem NU {x:Str}(hz:x.length≤sizeLine)(ok:PyData.strOk x=true):MX K (Its x) th mu H (chars x) none where
 sz:=by unfold chars;rw [Ae,Array.length_toList];exact hz
 go:=λth' mu' H' e s go i d ed=>by
  unfold chars at ed
  rw [Ar] at ed
  cases q:x.cps.toList[i]? with
  | none=>rw [q] at ed;cases ed
  | some c =>
   rw [q] at ed
   have hd:D.str ⟨#[c]⟩=d:=by simpa using ed
   subst hd
   have hlt:=(Ad.mp q).1
   refine ⟨by show i<x.cps.size;simpa using hlt,λv H2 y=>?_⟩
   obtain ⟨rfl,c',hc',rfl⟩:=y
   have:c'=c:=by
    rw [← Ah,q] at hc'
    exact (AB hc').symm
   subst this
   exact ⟨.refl _ _,s,Kd ok (Ag q)⟩
 stop:=λth' mu' H' e s go=>by show (chars x).length=x.cps.size;unfold chars;simp
theorem CK {tg e:Expr}{m:Ex}(h:SV X e m):SVI X tg e (CS m):=⟨by
 intro pins s st H R I q
 obtain ⟨th,mu,ro,so,en,t⟩:=q
 obtain ⟨p,mu',e1,q1⟩:=id t
 obtain ⟨d,m1,e2,e3⟩:=DI e1
 have t':=t.bindE
 cases d with
 | tup ds =>
  refine Rk h.r pins s st H R I ⟨th,mu,ro,so,en,t'.mono λd th1 mu1 H1 x1 s1 t1 v rv=>?_⟩
  obtain ⟨eq,t1⟩:=t1
  rw [e2] at eq
  cases eq
  unfold Rep at rv
  obtain ⟨a,vs,rfl,hs,rl,hz⟩:=rv
  exact ⟨a,rfl,⟨vs,hs⟩,t1.ret s1 _ (Nl s1 hz hs rl)⟩
 | lst ds =>
  refine L4 h.r pins s st H R I ⟨th,mu,ro,so,en,t'.mono λd th1 mu1 H1 x1 s1 t1 v rv=>?_⟩
  obtain ⟨eq,t1⟩:=t1
  rw [e2] at eq
  cases eq
  unfold Rep at rv
  obtain ⟨a,vs,rfl,hs,rl,hz⟩:=rv
  exact ⟨a,rfl,⟨vs,hs.sq⟩,t1.ret s1 _ (Io hz λth' mu' H' e s' _=>⟨vs,(e.fz hs).sq,rl.ext e s1.out⟩)⟩
 | str x =>
  refine R3 h.r pins s st H R I ⟨th,mu,ro,so,en,t'.mono λd th1 mu1 H1 x1 s1 t1 v rv=>?_⟩
  obtain ⟨eq,t1⟩:=t1
  rw [e2] at eq
  cases eq
  unfold Rep at rv
  obtain ⟨rfl,hz,ok⟩:=rv
  exact ⟨x,rfl,t1.ret s1 _ (NU hz ok)⟩
 | ref k =>
  refine L4 h.r pins s st H R I ⟨th,mu,ro,so,en,t'.mono λd th1 mu1 H1 x1 s1 t1 v rv=>?_⟩
  obtain ⟨eq,t1⟩:=t1
  rw [e2] at eq
  cases eq
  unfold Rep at rv
  obtain ⟨a,rfl,ha⟩:=rv
  dsimp only at t1
  cases em:m1[k]? with
  | none=>rw [em] at t1;exact t1.no.elim
  | some o =>
   cases o with
   | dct _ _=>rw [em] at t1;exact t1.no.elim
   | lst ds =>
    rw [em] at t1
    obtain ⟨vs,h1,h2,hz⟩:=s1.at' k a _ ha em
    refine ⟨a,rfl,⟨vs,.inl (.inl h1)⟩,t1.ret s1 _ (Io hz λth' mu' H' e s' go=>?_)⟩
    have em':mu'[k]? = some (.lst ds):=by rw [← em];exact (show m1[k]? = mu'[k]? from go).symm
    obtain ⟨vs',h1',h2',_⟩:=s'.at' k a _ (e.at ha) em'
    exact ⟨vs',.inl (.inl h1'),h2'⟩
 | non=>cases e3
 | bl b=>cases e3
 | int b=>cases e3
 | dct _ _=>cases e3
 | set _=>cases e3⟩
end
mutual
noncomputable def toPy:D->PyData
 | .non=>.none
 | .bl b=>.bool b
 | .int i=>.int i
 | .str x=>.str x
 | .tup ds=>.tuple (B4 ds)
 | .lst ds=>.list (B4 ds)
 | .dct _ _=>.none
 | .set _=>.none
 | .ref _=>.none
noncomputable def B4:List D->List PyData
 | []=>[]
 | d::ds=>toPy d::B4 ds
end
mutual
noncomputable def Ca:D->Bool
 | .tup ds=>CY ds
 | .lst ds=>CY ds
 | .dct _ _=>false
 | .set _=>false
 | .ref _=>false
 | _=>true
noncomputable def CY:List D->Bool
 | []=>true
 | d::ds=>Ca d&&CY ds
end
noncomputable def seen (mu:Sto):D->D
 | .ref k=>match mu[k]? with
  | some (.lst ds)=>.lst ds
  | _=>.ref k
 | d=>d
def eqB (mu:Sto)(d e:D):Option Bool:=if Ca (seen mu d)&&Ca (seen mu e)&&decide (min (toPy (seen mu d)).depth (toPy (seen mu e)).depth≤60) then some (PyData.eqv (toPy (seen mu d)) (toPy (seen mu e))) else none
def eqD (d e:D)(mu:Sto):Rs D:=(eqB mu d e).map λb=>(.bl b,mu)
def neD (d e:D)(mu:Sto):Rs D:=(eqB mu d e).map λb=>(.bl (!b),mu)
theorem L9 (ds:List D):B4 ds=ds.map toPy:=by induction ds with
 | nil=>rfl
 | cons d ds ih=>rw [B4,ih];rfl
section
variable {X:Cx} {K:Zc} {th:List Addr} {mu:Sto} {H:Hp}
mutual
theorem DP {pins:List (Addr×Obj)}{st:L2.St}{s:Shared}(I:L2.Inv X pins st H s):∀ (d:D) (v:V) (u:Value),Ca d=true->Rep X.z th H d v->RelV v u->∃ as,Reads s.heap u (toPy d) as∧(toPy d).canLay0=true
 | .non,_,_,_,r,q=>by cases (show _=_ from r);cases q;exact ⟨_,.none,rfl⟩
 | .bl b,_,_,_,r,q=>by cases (show _=_ from r);cases q;exact ⟨_,.bool b,rfl⟩
 | .int i,_,_,_,r,q=>by cases (show _=_ from r);obtain ⟨t,rfl⟩:=q;exact ⟨_,.int i t,rfl⟩
 | .str x,_,_,_,r,q=>by obtain ⟨rfl,hz,ok⟩:=(show _∧_∧_ from r);obtain ⟨t,rfl⟩:=q;exact ⟨_,.str x t,ok⟩
 | .tup ds,_,_,p,r,q=>by
  unfold Rep at r
  obtain ⟨a,vs,rfl,hs,rl,_⟩:=r
  cases q
  obtain ⟨its,rv,⟨o,h1,h2,n,h3⟩,_⟩:=I.tuple hs
  unfold Ca at p
  obtain ⟨as,h4,h5⟩:=Eo I ds vs its p rl rv
  exact ⟨as,by unfold toPy;exact .tuple h1 h2 h3 (by simpa using h4),by unfold toPy PyData.canLay0;exact h5⟩
 | .lst ds,_,_,p,r,q=>by
  unfold Rep at r
  obtain ⟨a,vs,rfl,hs,rl,_⟩:=r
  cases q
  obtain ⟨its,rv,⟨o,n,h1,h2,_,h3⟩,_⟩:=I.list hs.sq
  unfold Ca at p
  obtain ⟨as,h4,h5⟩:=Eo I ds vs its p rl rv
  exact ⟨_,by unfold toPy;exact .list h1 h2 h3 (by simpa using h4),by unfold toPy PyData.canLay0;exact h5⟩
 | .dct _ _,_,_,p,_,_=>by cases p
 | .set _,_,_,p,_,_=>by cases p
 | .ref k,_,_,p,_,_=>by cases p
theorem Eo {pins:List (Addr×Obj)}{st:L2.St}{s:Shared}(I:L2.Inv X pins st H s):∀ (ds:List D) (vs:List V) (us:List Value),CY ds=true->RepL X.z th H ds vs->Vals vs us->∃ as,ReadsAll s.heap us (B4 ds) as∧PyData.canLayAll0 (B4 ds)=true
 | [],_,_,_,r,q=>by cases r.inv0;cases q;exact ⟨_,.nil,rfl⟩
 | d::ds,_,_,p,r,q=>by
  obtain ⟨v,r',rfl,r1,r2⟩:=r.inv
  unfold CY at p
  rw [Ab] at p
  cases q with
  | cons q1 q2 =>
   obtain ⟨as,a1,a2⟩:=DP I d v _ p.1 r1 q1
   obtain ⟨bs,b1,b2⟩:=Eo I ds r' _ p.2 r2 q2
   exact ⟨_,.cons a1 b1,by unfold B4 PyData.canLayAll0;rw [a2,b2];rfl⟩
end
theorem DC {pins:List (Addr×Obj)}{st:L2.St}{s:Shared}(I:L2.Inv X pins st H s)(so:StoOk X.z th mu H){d:D}{v:V}{u:Value}(p:Ca (seen mu d)=true)(r:Rep X.z th H d v)(q:RelV v u):∃ as,Reads s.heap u (toPy (seen mu d)) as∧(toPy (seen mu d)).canLay0=true:=by
 cases d with
 | ref k =>
  unfold seen at p ⊢
  dsimp only at p ⊢
  cases e:mu[k]? with
  | none=>rw [e] at p;cases p
  | some o =>
   cases o with
   | dct _ _=>rw [e] at p;cases p
   | lst ds =>
    rw [e] at p
    dsimp only at p ⊢
    unfold Rep at r
    obtain ⟨a,rfl,ha⟩:=r
    obtain ⟨vs,h1,rl,hz⟩:=so.at' k a _ ha e
    cases q
    obtain ⟨its,rv,⟨o,n,h2,h3,_,h4⟩,_⟩:=I.list (.inl (.inl h1))
    unfold Ca at p
    obtain ⟨as,h5,h6⟩:=Eo I ds vs its p rl rv
    exact ⟨_,by unfold toPy;exact .list h2 h3 h4 (by simpa using h5),by unfold toPy PyData.canLay0;exact h6⟩
 | _=>exact DP I _ v u p r q
theorem Ni (hu:X.A.units+64<cLine):OpV X (compareOp .Eq) eqD:=by
 intro pins s st H x y v u Q I rx ry h
 obtain ⟨th,mu,d,e,so,r1,r2,t⟩:=h
 unfold eqD eqB at t
 by_cases hc:(Ca (seen mu d)&&Ca (seen mu e)&&decide (min (toPy (seen mu d)).depth (toPy (seen mu e)).depth≤60))=true
 ·rw [if_pos hc] at t
  rw [Ab,Ab,Al] at hc
  obtain ⟨as,a1,a2⟩:=DC I so hc.1.1 r1 rx
  obtain ⟨bs,b1,b2⟩:=DC I so hc.1.2 r2 ry
  exact SeqAt.rcAt_reads a1 b1 a2 b2 (by ext) _ _ _ _ ⟨.bl _,H,I,rfl,t.ret so _ rfl⟩
 ·rw [if_neg hc] at t
  exact t.no.elim
theorem KD (hu:X.A.units+64<cLine):OpV X (compareOp .NotEq) neD:=by
 intro pins s st H x y v u Q I rx ry h
 obtain ⟨th,mu,d,e,so,r1,r2,t⟩:=h
 unfold neD eqB at t
 by_cases hc:(Ca (seen mu d)&&Ca (seen mu e)&&decide (min (toPy (seen mu d)).depth (toPy (seen mu e)).depth≤60))=true
 ·rw [if_pos hc] at t
  rw [Ab,Ab,Al] at hc
  obtain ⟨as,a1,a2⟩:=DC I so hc.1.1 r1 rx
  obtain ⟨bs,b1,b2⟩:=DC I so hc.1.2 r2 ry
  exact SeqAt.rcNeAt_reads a1 b1 a2 b2 (by ext) _ _ _ _ ⟨.bl _,H,I,rfl,t.ret so _ rfl⟩
 ·rw [if_neg hc] at t
  exact t.no.elim
def inB (mu:Sto)(d c:D):Option Bool:=match d,seen mu c with
 | .str x,.str y=>some (!(Builtin.Str.occurrences y x 0 y.length 1).isEmpty)
 | d,.tup ds=>if Ca d&&CY ds&&decide (min (PyData.depthAll (B4 ds)) (toPy d).depth≤60) then some ((B4 ds).any λy=>PyData.eqv y (toPy d)) else none
 | d,.lst ds=>if Ca d&&CY ds&&decide (min (PyData.depthAll (B4 ds)) (toPy d).depth≤60) then some ((B4 ds).any λy=>PyData.eqv y (toPy d)) else none
 | _,_=>none
def Nc (d c:D)(mu:Sto):Rs D:=(inB mu d c).map λb=>(.bl (!b),mu)
theorem M1 {d c:D}{b:Bool}(h:inB mu d c=some b):(∃ x y,d=.str x∧c=.str y∧b = !(Builtin.Str.occurrences y x 0 y.length 1).isEmpty) ∨
  ∃ ds,(seen mu c=.tup ds∨seen mu c=.lst ds)∧Ca d=true∧CY ds=true∧min (PyData.depthAll (B4 ds)) (toPy d).depth≤60∧b=(B4 ds).any λy=>PyData.eqv y (toPy d):=by
 have fin:∀ ds,(if Ca d&&CY ds&&decide (min (PyData.depthAll (B4 ds)) (toPy d).depth≤60) then some ((B4 ds).any λy=>PyData.eqv y (toPy d)) else none)=some b->Ca d=true∧CY ds=true∧min (PyData.depthAll (B4 ds)) (toPy d).depth≤60∧b=(B4 ds).any λy=>PyData.eqv y (toPy d):=λds e=>by
  by_cases hc:(Ca d&&CY ds&&decide (min (PyData.depthAll (B4 ds)) (toPy d).depth≤60))=true
  ·rw [if_pos hc] at e
   rw [Ab,Ab,Al] at hc
   exact ⟨hc.1.1,hc.1.2,hc.2,(AB e).symm⟩
  ·rw [if_neg hc] at e;cases e
 unfold inB at h
 cases hs:seen mu c with
 | tup ds=>rw [hs] at h;cases d<;>exact .inr ⟨ds,.inl rfl,fin ds h⟩
 | lst ds=>rw [hs] at h;cases d<;>exact .inr ⟨ds,.inr rfl,fin ds h⟩
 | str y =>
  rw [hs] at h
  cases d with
  | str x =>
   have:c=.str y:=by
    cases c with
    | ref k =>
     unfold seen at hs
     dsimp only at hs
     cases e:mu[k]? with
     | none=>rw [e] at hs;cases hs
     | some o=>cases o<;>(rw [e] at hs;cases hs)
    | _=>exact hs
   exact .inl ⟨x,y,rfl,this,(AB h).symm⟩
  | _=>cases h
 | non=>rw [hs] at h;cases d<;>cases h
 | bl _=>rw [hs] at h;cases d<;>cases h
 | int _=>rw [hs] at h;cases d<;>cases h
 | dct _ _=>rw [hs] at h;cases d<;>cases h
 | set _=>rw [hs] at h;cases d<;>cases h
 | ref _=>rw [hs] at h;cases d<;>cases h
theorem PB (hu:X.A.units+64<cLine):OpV X (compareOp .NotIn) Nc:=by
 intro pins s st H x y v u Q I rx ry h
 obtain ⟨th,mu,d,c,so,r1,r2,t⟩:=h
 unfold Nc at t
 cases e:inB mu d c with
 | none=>rw [e] at t;exact t.no.elim
 | some b =>
  rw [e] at t
  have q:Q (.bl (!b)) H:=t.ret so _ rfl
  rcases M1 e with ⟨x',y',rfl,rfl,hb⟩|⟨ds,hs,p1,p2,p3,hb⟩
  ·obtain ⟨rfl,_⟩:=(show _∧_ from r1)
   obtain ⟨rfl,_⟩:=(show _∧_ from r2)
   exact ID pins s st H _ _ v u Q I rx ry ⟨x',y',rfl,rfl,by rw [← hb];exact q⟩
  ·obtain ⟨as,a1,a2⟩:=DP I d x v p1 r1 rx
   have pc:Ca (seen mu c)=true:=by rcases hs with e|e<;>(rw [e];unfold Ca;exact p2)
   obtain ⟨bs,b1,b2⟩:=DC I so pc r2 ry
   rw [hb] at q
   rcases hs with e|e
   ·rw [e] at b1 b2
    unfold toPy at b1 b2
    exact SeqAt.notIn_tuple_reads b1 a1 b2 a2 (by ext) ⟨.bl _,H,I,rfl,q⟩
   ·rw [e] at b1 b2
    unfold toPy at b1 b2
    exact SeqAt.notIn_list_reads b1 a1 b2 a2 (by ext) ⟨.bl _,H,I,rfl,q⟩
end
section
variable {X:Cx} {K:Zc} {th:List Addr} {mu:Sto} {H:Hp}
noncomputable def Ry (d e:D)(mu:Sto):Rs D:=match d,e with
 | .int i,.int j=>some (.int (i-j),mu)
 | _,_=>none
theorem Qb:OpV X (binaryOp .Sub) Ry:=by
 intro pins s st H x y v u Q I rx ry h
 obtain ⟨th,mu,d,e,so,r1,r2,t⟩:=h
 cases d with
 | int i =>
  cases e with
  | int j=>exact Q4 pins s st H x y v u Q I rx ry ⟨i,j,r1,r2,t.ret so _ rfl⟩
  | _=>exact t.no.elim
 | _=>exact t.no.elim
noncomputable instance (i j:Int):Decidable (CMul i j):=by unfold CMul;infer_instance
noncomputable instance (i j:Int):Decidable (IP i j):=by unfold IP;infer_instance
noncomputable instance (i j:Int):Decidable (L8 i j):=by unfold L8;infer_instance
theorem Mo {x y:Str}(hx:PyData.strOk x=true)(hy:PyData.strOk y=true):PyData.strOk (x++y)=true:=by
 unfold PyData.strOk at *
 show (Array.all (x.cps++y.cps) _)=true
 rw [← Array.all_toList] at *
 rw [AN,List.all_append,hx,hy]
 rfl
theorem len_app (x y:Str):(x++y).length=x.length+y.length:=by
 show (x.cps++y.cps).size=_
 rw [BH]
 rfl
noncomputable def EI (d e:D)(mu:Sto):Rs D:=match d,e with
 | .int i,.int j=>if 0<j then some (.int (i % j),mu) else none
 | _,_=>none
theorem D0:OpV X (binaryOp .Mod) EI:=by
 intro pins s st H x y v u Q I rx ry h
 obtain ⟨th,mu,d,e,so,r1,r2,t⟩:=h
 cases d with
 | int i =>
  cases e with
  | int j =>
   unfold EI at t;dsimp only at t
   by_cases c:0<j
   ·rw [if_pos c] at t;exact Sg pins s st H x y v u Q I rx ry ⟨i,j,r1,r2,c,t.ret so _ rfl⟩
   ·rw [if_neg c] at t;exact t.no.elim
  | _=>exact t.no.elim
 | _=>exact t.no.elim
def Hx (d e:D)(mu:Sto):Rs D:=match d,e with
 | .int i,.int j=>if IP i j then some (.int (i / j),mu) else none
 | _,_=>none
theorem G6:OpV X (binaryOp .FloorDiv) Hx:=by
 intro pins s st H x y v u Q I rx ry h
 obtain ⟨th,mu,d,e,so,r1,r2,t⟩:=h
 cases d with
 | int i =>
  cases e with
  | int j =>
   unfold Hx at t;dsimp only at t
   by_cases c:IP i j
   ·rw [if_pos c] at t;exact O8 pins s st H x y v u Q I rx ry ⟨i,j,r1,r2,c,t.ret so _ rfl⟩
   ·rw [if_neg c] at t;exact t.no.elim
  | _=>exact t.no.elim
 | _=>exact t.no.elim
def Nb (d e:D)(mu:Sto):Rs D:=match d,e with
 | .int i,.int j=>if L8 i j then some (.int (i ^ j.toNat),mu) else none
 | _,_=>none
theorem PN:OpV X (binaryOp .Pow) Nb:=by
 intro pins s st H x y v u Q I rx ry h
 obtain ⟨th,mu,d,e,so,r1,r2,t⟩:=h
 cases d with
 | int i =>
  cases e with
  | int j =>
   unfold Nb at t;dsimp only at t
   by_cases c:L8 i j
   ·rw [if_pos c] at t;exact SJ pins s st H x y v u Q I rx ry ⟨i,j,r1,r2,c,t.ret so _ rfl⟩
   ·rw [if_neg c] at t;exact t.no.elim
  | _=>exact t.no.elim
 | _=>exact t.no.elim
noncomputable instance (z:Str) (n:Int):Decidable (MulOk z n):=by unfold MulOk;infer_instance
def Ey (d e:D)(mu:Sto):Rs D:=match d,e with
 | .int i,.int j=>if CMul i j then some (.int (i*j),mu) else none
 | .str z,.int n=>if MulOk z n∧(Txt.mul z n).length≤sizeLine∧PyData.strOk (Txt.mul z n)=true then some (.str (Txt.mul z n),mu) else none
 | _,_=>none
theorem DK:OpV X (binaryOp .Mult) Ey:=by
 intro pins s st H x y v u Q I rx ry h
 obtain ⟨th,mu,d,e,so,r1,r2,t⟩:=h
 cases d with
 | int i =>
  cases e with
  | int j =>
   unfold Ey at t;dsimp only at t
   by_cases c:CMul i j
   ·rw [if_pos c] at t;exact So pins s st H x y v u Q I rx ry ⟨i,j,r1,r2,c,t.ret so _ rfl⟩
   ·rw [if_neg c] at t;exact t.no.elim
  | _=>exact t.no.elim
 | str z =>
  cases e with
  | int j =>
   unfold Ey at t;dsimp only at t
   by_cases c:MulOk z j∧(Txt.mul z j).length≤sizeLine∧PyData.strOk (Txt.mul z j)=true
   ·rw [if_pos c] at t;exact KY pins s st H x y v u Q I rx ry ⟨z,j,r1.1,r2,c.1,t.ret so _ ⟨rfl,c.2⟩⟩
   ·rw [if_neg c] at t;exact t.no.elim
  | _=>exact t.no.elim
 | _=>exact t.no.elim
theorem OG {a b:Addr}{ys:List V}{pins:List (Addr×Obj)}{st:L2.St}{s:Shared}{Q:VK}(I:L2.Inv X pins st H s)(ha:SqT X.K H a [])(hb:SqT X.K H b ys)(q:Q (.ref b) H):wpAny (model X.prog X.w) X.A (binaryOp .Add (.ref a) (.ref b)) (EP X pins st Q) X.xe s:=by
 obtain ⟨its,r1,p1,_⟩:=I.tuple ha
 obtain ⟨its2,r2,p2,_⟩:=I.tuple hb
 have e:its=[]:=by cases r1;rfl
 subst e
 obtain ⟨⟨cls,dd,data,sl⟩,ho,hc,n,hd⟩:=id p1
 obtain ⟨⟨cls2,dd2,data2,sl2⟩,ho2,hc2,n2,hd2⟩:=id p2
 simp only at hc hd hc2 hd2
 subst hc hd hc2 hd2
 exact concat_meets ⟨_,ho,rfl⟩ ⟨_,ho2,rfl⟩ noFill_tuple_add seq_tuple_add PySem.F.slot_tuple_add PySem.F.entry_tuple_add (PySem.F.args_tuple_add_2 _ _)
   (tuple_addW0 a b _ its2.toArray n n2 dd dd2 sl sl2 (by simp)) ⟨ho,ho2,⟨.ref b,H,I,rfl,q⟩⟩
theorem Po {a b:Addr}{xs ys:List V}{pins:List (Addr×Obj)}{st:L2.St}{s:Shared}{Q:VK}(I:L2.Inv X pins st H s)(ha:SqL X.K H a xs)(hb:SqL X.K H b ys)(hz:xs.length+ys.length≤sizeLine)(q:∀ p,H p=none->Q (.ref p) (upd H p (.lst (xs++ys)))):wpAny (model X.prog X.w) X.A (binaryOp .Add (.ref a) (.ref b)) (EP X pins st Q) X.xe s:=by
 obtain ⟨its,r1,⟨o1,n1,p1,c1,d1,e1⟩,_⟩:=I.list ha
 obtain ⟨its2,r2,⟨o2,n2,p2,c2,d2,e2⟩,_⟩:=I.list hb
 obtain ⟨cls,dd,data,sl⟩:=o1
 obtain ⟨cls2,dd2,data2,sl2⟩:=o2
 simp only at c1 d1 e1 c2 d2 e2
 subst c1 d1 e1 c2 d2 e2
 refine concat_meets ⟨_,p1,rfl⟩ ⟨_,p2,rfl⟩ noFill_list_add seq_list_add PySem.F.slot_list_add PySem.F.entry_list_add (PySem.F.args_list_add_2 _ _)
   (list_addW a b _ its2.toArray n1 n2 _ _ sl sl2 (by rw [Ap,Ap,← r1.length,← r2.length];exact hz)) ⟨p1,p2,?_⟩
 refine ⟨.ref s.heap.objs.size,_,I.laid (t':=s.toks) (o:=.lst (xs++ys)) (λb ob q=>Af _ q) (Ak _) ?_,rfl,q _ (I.hok.fresh (Ak _))⟩
 exact ⟨by rw [An];exact hz,its++its2,0,r1.append r2,by simpa using Av _ rfl⟩
noncomputable def CI (mu:Sto):D->Option (List D)
 | .lst ds=>some ds
 | .ref k=>match mu[k]? with
  | some (.lst ds)=>some ds
  | _=>none
 | _=>none
theorem Dp (so:StoOk K th mu H){d:D}{ds:List D}{v:V}(h:CI mu d=some ds)(r:Rep K th H d v):∃ a vs,v=.ref a∧SqL K.K H a vs∧RepL K th H ds vs∧ds.length≤sizeLine:=by
 cases d with
 | lst es=>cases h;unfold Rep at r;obtain ⟨a,vs,rfl,h1,h2,h3⟩:=r;exact ⟨a,vs,rfl,h1.sq,h2,h3⟩
 | ref k =>
  unfold CI at h
  dsimp only at h
  cases e:mu[k]? with
  | none=>rw [e] at h;cases h
  | some o =>
   cases o with
   | dct _ _=>rw [e] at h;cases h
   | lst es =>
    rw [e] at h
    cases h
    unfold Rep at r
    obtain ⟨a,rfl,ha⟩:=r
    obtain ⟨vs,h1,h2,h3⟩:=so.at' k a _ ha e
    exact ⟨a,vs,rfl,.inl (.inl h1),h2,h3⟩
 | _=>cases h
def Ci (d e:D)(mu:Sto):Rs D:=match d,e with
 | .int i,.int j=>some (.int (i+j),mu)
 | .str x,.str y=>if x.length+y.length≤sizeLine then some (.str (x++y),mu) else none
 | .tup xs,.tup ys=>if xs.length+ys.length≤sizeLine then some (.tup (xs++ys),mu) else none
 | d,e=>match CI mu d,CI mu e with
  | some xs,some ys=>if xs.length+ys.length≤sizeLine then some (.lst (xs++ys),mu) else none
  | _,_=>none
theorem Ck:OpV X (binaryOp .Add) Ci:=by
 intro pins s st H x y v u Q I rx ry h
 obtain ⟨th,mu,d,e,so,r1,r2,t⟩:=h
 have lists:∀ (t:Tr X.z th H (match CI mu d,CI mu e with
  | some xs,some ys=>if xs.length+ys.length≤sizeLine then some (D.lst (xs++ys),mu) else none
  | _,_=>none) (KV' X.z Q)),wpAny (model X.prog X.w) X.A (binaryOp .Add v u) (EP X pins st Q) X.xe s:=λt=>by
  cases e1:CI mu d with
  | none=>rw [e1] at t;exact t.no.elim
  | some xs =>
   cases e2:CI mu e with
   | none=>rw [e1,e2] at t;exact t.no.elim
   | some ys =>
    rw [e1,e2] at t
    dsimp only at t
    by_cases c:xs.length+ys.length≤sizeLine
    ·rw [if_pos c] at t
     obtain ⟨a,vs,rfl,h1,h2,h3⟩:=Dp so e1 r1
     obtain ⟨b,us,rfl,k1,k2,k3⟩:=Dp so e2 r2
     cases rx
     cases ry
     refine Po I h1 k1 (by rw [h2.len,k2.len];exact c) λp hp=>t.retX (.new hp _) (so.new hp _) _ (Rep.newLst so hp (h2.app k2) (by rw [An];exact c))
    ·rw [if_neg c] at t;exact t.no.elim
 cases d with
 | int i =>
  cases e with
  | int j=>exact Q5 pins s st H x y v u Q I rx ry ⟨i,j,r1,r2,t.ret so _ rfl⟩
  | _=>exact lists t
 | str i =>
  cases e with
  | str j =>
   unfold Ci at t;dsimp only at t
   by_cases c:i.length+j.length≤sizeLine
   ·rw [if_pos c] at t
    exact KL pins s st H x y v u Q I rx ry ⟨i,j,r1.1,r2.1,c,t.ret so _ ⟨rfl,by rw [len_app];exact c,Mo r1.2.2 r2.2.2⟩⟩
   ·rw [if_neg c] at t;exact t.no.elim
  | _=>exact lists t
 | tup xs =>
  cases e with
  | tup ys =>
   unfold Ci at t;dsimp only at t
   by_cases c:xs.length+ys.length≤sizeLine
   ·rw [if_pos c] at t
    unfold Rep at r1 r2
    obtain ⟨a,vs,rfl,h1,h2,h3⟩:=r1
    obtain ⟨b,us,rfl,k1,k2,k3⟩:=r2
    cases rx
    cases ry
    cases xs with
    | nil =>
     cases h2.inv0
     exact OG I h1 k1 (t.ret so _ (by unfold Rep;exact ⟨b,us,rfl,k1,k2,k3⟩))
    | cons x0 xs0 =>
     obtain ⟨v0,vr,rfl,_,_⟩:=h2.inv
     refine Pg pins s st H (.ref a) (.ref b) _ _ Q I rfl rfl ⟨a,b,v0::vr,us,rfl,rfl,h1,k1,by simp,by rw [h2.len,k2.len];exact c,λhu=>?_,λ_ p hp=>t.retX (.new hp _) (so.new hp _) _ (Rep.newTup so hp (h2.app k2) (by rw [An];exact c))⟩
     subst hu
     have:ys=[]:=BI.mp (by rw [← k2.len];rfl)
     subst this
     rw [BA] at t
     exact t.ret so _ (by unfold Rep;exact ⟨a,_,rfl,h1,h2,h3⟩)
   ·rw [if_neg c] at t;exact t.no.elim
  | _=>exact lists t
 | _=>exact lists t
noncomputable def M9 (f:Int->Int->Bool)(g:Str->Str->Bool)(d e:D)(mu:Sto):Rs D:=match d,e with
 | .int i,.int j=>some (.bl (f i j),mu)
 | .str i,.str j=>some (.bl (g i j),mu)
 | _,_=>none
noncomputable def leD:=M9 (λi j=>decide (i≤j)) λi j=>!decide (j.cps.toList<i.cps.toList)
def gtD:=M9 (λi j=>decide (j<i)) λi j=>decide (j.cps.toList<i.cps.toList)
def geD:=M9 (λi j=>decide (j≤i)) λi j=>!decide (i.cps.toList<j.cps.toList)
theorem LU {op:CmpOp}{f:Int->Int->Bool}{g:Str->Str->Bool}(h1:OpR X (compareOp op) (rI0 λi j=>.bl (f i j)))
  (h2:∀ (i j:Str) (t t':Tok) (s:Shared) (Q:Value->Shared->Prop),Q (.bool (g i j)) s->wpAny (model X.prog X.w) X.A (compareOp op (.str i t) (.str j t')) Q X.xe s):OpV X (compareOp op) (M9 f g):=by
 intro pins s st H x y v u Q I rx ry h
 obtain ⟨th,mu,d,e,so,r1,r2,t⟩:=h
 cases d with
 | int i =>
  cases e with
  | int j=>exact h1 pins s st H x y v u Q I rx ry ⟨i,j,r1,r2,t.ret so _ rfl⟩
  | _=>exact t.no.elim
 | str i =>
  cases e with
  | str j =>
   obtain ⟨rfl,_⟩:=(show _∧_ from r1)
   obtain ⟨rfl,_⟩:=(show _∧_ from r2)
   obtain ⟨t1,rfl⟩:=rx
   obtain ⟨t2,rfl⟩:=ry
   exact h2 i j t1 t2 s _ ⟨.bl _,H,I,rfl,t.ret so _ rfl⟩
  | _=>exact t.no.elim
 | _=>exact t.no.elim
theorem Td:OpV X (compareOp .Gt) gtD:=LU UP λi j t t' s Q h=>PySem.P.gt_str h
theorem Rt:OpV X (compareOp .GtE) geD:=LU TV λi j t t' s Q h=>PySem.P.ge_str h
noncomputable def isB:D->D->Option Bool
 | .non,.non=>some true
 | .bl a,.bl b=>some (a==b)
 | .non,.bl _=>none
 | .ref _,.non=>some false
 | .tup _,.non=>some false
 | .lst _,.non=>some false
 | .str _,.non=>some false
 | .int _,.non=>some false
 | .bl _,.non=>some false
 | .dct _ _,.non=>some false
 | .set _,.non=>some false
 | _,_=>none
noncomputable def isD (d e:D)(mu:Sto):Rs D:=(isB d e).map λb=>(.bl b,mu)
noncomputable def VM (d e:D)(mu:Sto):Rs D:=(isB d e).map λb=>(.bl (!b),mu)
noncomputable def SI (g g':D->D->Sto->Rs D)(a b c:Ex):Ex:=λro mu=>bM (a ro mu) λx m1=>bM (b ro m1) λy m2=>bM (g x y m2) λz m3=>match asB z with
 | none=>none
 | some k=>if k=true then bM (c ro m3) λw' m4=>g' y w' m4 else some (.bl false,m3)
def ixD (d e:D)(mu:Sto):Rs D:=match e with
 | .int i=>match d with
  | .tup ds=>(atI ds i).map λx=>(x,mu)
  | .str z=>(atI z.cps.toList i).map λc=>(.str ⟨#[c]⟩,mu)
  | d=>match CI mu d with
   | some ds=>(atI ds i).map λx=>(x,mu)
   | none=>none
 | _=>none
theorem LF {ds:List D}{vs:List V}{i:Int}{d:D}(r:RepL K th H ds vs)(h:atI ds i=some d):∃ v,atI vs i=some v∧Rep K th H d v:=by
 unfold atI at h ⊢
 rw [r.len]
 cases e:ixN ds.length i with
 | none=>rw [e] at h;cases h
 | some j =>
  rw [e] at h
  obtain ⟨v,e1,e2⟩:=r.get (show ds[j]? = some d from h)
  exact ⟨v,e1,e2⟩
theorem Qj {α:Type}{xs:List α}{i:Int}{v:α}(h:atI xs i=some v):v∈xs:=by
 obtain ⟨j,_,e,_⟩:=GZ h
 exact Ag e
theorem VC:IxR X (r2 X.z ixD):=by
 intro value slice pins s st H x y v u Q I rx ry h hsub
 obtain ⟨th,mu,d,e,so,r1,r2,t⟩:=h
 cases e with
 | int i =>
  have lists:∀ (t:Tr X.z th H (match CI mu d with
   | some ds=>(atI ds i).map λx=>(x,mu)
   | none=>none) (KV' X.z Q)),Q7 X.K x y H Q:=λt=>by
   cases e1:CI mu d with
   | none=>rw [e1] at t;exact t.no.elim
   | some ds =>
    rw [e1] at t
    dsimp only at t
    cases e2:atI ds i with
    | none=>rw [e2] at t;exact t.no.elim
    | some x' =>
     rw [e2] at t
     obtain ⟨a,vs,rfl,h1,h2,h3⟩:=Dp so e1 r1
     obtain ⟨v',w1,w2⟩:=LF h2 e2
     exact ⟨a,vs,i,v',rfl,r2,h1,w1,t.ret so _ w2⟩
  refine Q8 value slice pins s st H x y v u Q I rx ry ?_ hsub
  cases d with
  | tup ds =>
   unfold ixD at t;dsimp only at t
   cases e2:atI ds i with
   | none=>rw [e2] at t;exact t.no.elim
   | some x' =>
    rw [e2] at t
    unfold Rep at r1
    obtain ⟨a,vs,rfl,h1,h2,h3⟩:=r1
    obtain ⟨v',w1,w2⟩:=LF h2 e2
    exact .inr (.inl ⟨a,vs,i,v',rfl,r2,h1,w1,t.ret so _ w2⟩)
  | str z =>
   unfold ixD at t;dsimp only at t
   cases e2:atI z.cps.toList i with
   | none=>rw [e2] at t;exact t.no.elim
   | some c =>
    rw [e2] at t
    exact .inr (.inr ⟨z,i,c,r1.1,r2,r1.2.1,e2,t.ret so _ (Kd r1.2.2 (Qj e2))⟩)
  | _=>exact .inl (lists t)
 | _=>exact t.no.elim
abbrev Px:=Ro->Sto->Rs (Option Int)
noncomputable def pNo:Px:=λ_ mu=>some (none,mu)
def DZ (a:Ex):Px:=λro mu=>bM (a ro mu) λd m1=>match d with
 | .int i=>some (some i,m1)
 | _=>none
def rdP (K:Zc)(m:Px):TO:=λst H Q=>∃ th mu ro,StoOk K th mu H∧EnvOk K th H ro st∧Tr K th H (m ro mu) λo _ _ H'=>Q o H'
structure SVP (X:Cx) (e:Option Expr) (m:Px):Prop where
 r:PO X e (rdP X.z m)
theorem PO.weak {e:Option Expr}{t t':TO}(h:PO X e t)(f:∀ st H Q,t' st H Q->t st H Q):PO X e t':=λpins s st H Q I q=>h pins s st H Q I (f st H Q q)
theorem Ek:SVP X none pNo:=⟨PO.weak Qh λst H Q h=>by
 obtain ⟨th,mu,ro,so,en,t⟩:=h
 exact t.ret so⟩
theorem El {e:Expr}{m:Ex}(h:SV X e m):SVP X (some e) (DZ m):=⟨PO.weak (P6 h.r) λst H Q h=>by
 obtain ⟨th,mu,ro,so,en,t⟩:=h
 refine ⟨th,mu,ro,so,en,t.bind.mono λd th1 mu1 H1 e1 s1 t1 v rv=>?_⟩
 cases d with
 | int i=>exact ⟨i,rv,t1.ret s1⟩
 | _=>exact t1.no.elim⟩
def cutD {α:Type}(xs:List α)(lo hi:Option Int):List α:=(xs.drop (HT.sIx xs.length 0 lo)).take (HT.sIx xs.length xs.length hi-HT.sIx xs.length 0 lo)
theorem Lj {ds:List D}{vs:List V}(r:RepL K th H ds vs)(lo hi:Option Int):RepL K th H (cutD ds lo hi) (JD vs lo hi):=by
 unfold cutD JD
 rw [r.len]
 exact (r.drop _).take _
theorem J8 {α:Type}(xs:List α)(lo hi:Option Int):(cutD xs lo hi).length≤xs.length:=by
 unfold cutD
 rw [AE,BD]
 ext
def slD (d:D)(lo hi:Option Int)(mu:Sto):Rs D:=match d with
 | .tup ds=>some (.tup (cutD ds lo hi),mu)
 | .str z=>if PyData.strOk (Txt.slice z lo hi)=true then some (.str (Txt.slice z lo hi),mu) else none
 | d=>match CI mu d with
  | some ds=>some (.lst (cutD ds lo hi),mu)
  | none=>none
def r3 (K:Zc)(op:D->Option Int->Option Int->Sto->Rs D):V->Option Int->Option Int->Hp->VK->Prop:=λx lo hi H Q=>∃ th mu d,StoOk K th mu H∧Rep K th H d x∧Tr K th H (op d lo hi mu) (KV' K Q)
def eSl (a:Ex)(p q:Px):Ex:=λro mu=>bM (a ro mu) λd m1=>bM (p ro m1) λlo m2=>bM (q ro m2) λhi m3=>slD d lo hi m3
theorem FQ {prog:Program}{w:World}{A:Around}{E:Value->Shared->Prop}{s:Shared}{t sl:Addr}{items:Array Value}{vl vu:Value}{lo hi:Option Int}{Q:Value->Shared->Prop}(ht:IsTup s.heap t items)(hs:s.heap.IsSliceOf sl vl vu .none)(pl:IsPart vl lo)(pu:IsPart vu hi)
  (h1:HT.sIx items.size 0 lo=0) (h2:HT.sIx items.size items.size hi=items.size) (h:Q (.ref t) s):wpAny (model prog w) A (getItem (.ref t) (.ref sl)) Q E s:=by
 obtain ⟨os,hos,hcs,hds⟩:=id hs
 have hTs:s.TypeIs (.ref sl) "slice":=⟨os,hos,hcs⟩
 unfold getItem
 try with_reducible refine AS ?_
 first|refine Aa (Ac ?_)|skip
 refine Aa (wpAny_sequenceKey ht.typeIs (by decide) ?_)
 refine Aa (A6 (name:=Str.ofString "__getitem__") ht.typeIs Ba
  (AY Ba ht.typeIs entry_tuple_getitem ?_ (args_tuple_getitem _ _)))
 show wpAny _ _ (Builtin.Tuple.tupleItemsOf (.ref t) >>= _) _ _ s
 refine Aa (tupleItemsOf_ ht ?_)
 refine Aa (wpAny_typeOf hTs ?_)
 rw [if_pos (by decide)]
 refine Aa (HT.EC hs pl pu ?_)
 rw [h1,h2]
 dsimp only
 rw [if_pos (by simp)]
 unfold Builtin.Tuple.tupleIsExact
 refine Aa (Aa (wpAny_typeOf ht.typeIs (Ac ?_)))
 rw [if_pos (by decide)]
 exact Aa (Bc (Ac ⟨_,rfl,Ac h⟩))
theorem VO:SlR X (r3 X.z slD):=by
 intro pins s st H x v vl vu lo hi sl Q I rx hs pl pu h
 obtain ⟨th,mu,d,so,r,t⟩:=h
 have lists:∀ (t:Tr X.z th H (match CI mu d with
   | some ds=>some (D.lst (cutD ds lo hi),mu)
   | none=>none) (KV' X.z Q)),TR X.K x lo hi H Q:=λt=>by
   cases e1:CI mu d with
   | none=>rw [e1] at t;exact t.no.elim
   | some ds =>
    rw [e1] at t
    obtain ⟨a,vs,rfl,h1,h2,h3⟩:=Dp so e1 r
    exact ⟨a,vs,rfl,h1,λp hp=>t.retX (.new hp _) (so.new hp _) _ (Rep.newLst so hp (Lj h2 lo hi) (AM (J8 ds lo hi) h3))⟩
 cases d with
 | tup ds =>
  unfold Rep at r
  obtain ⟨a,vs,rfl,h1,h2,h3⟩:=r
  by_cases c:HT.sIx vs.length 0 lo=0∧HT.sIx vs.length vs.length hi=vs.length
  ·cases rx
   obtain ⟨its,rv,ht,hz⟩:=I.tuple h1
   have hlen:its.toArray.size=vs.length:=by rw [Ap];exact rv.length.symm
   refine ⟨"tuple",_,Ba.lookup,ht.typeIs,?_⟩
   refine FQ ht hs pl pu (by rw [hlen];exact c.1) (by rw [hlen];exact c.2) ⟨.ref a,H,I,rfl,t.ret so _ ?_⟩
   have e:cutD ds lo hi=ds:=by
    unfold cutD
    rw [← h2.len,c.1,c.2,h2.len]
    simp
   rw [e]
   unfold Rep
   exact ⟨a,vs,rfl,h1,h2,h3⟩
  ·exact RU pins s st H _ v vl vu lo hi sl Q I rx hs pl pu ⟨a,vs,rfl,h1,c,λp hp=>t.retX (.new hp _) (so.new hp _) _ (Rep.newTup so hp (Lj h2 lo hi) (AM (J8 ds lo hi) h3))⟩
 | str z =>
  unfold slD at t;dsimp only at t
  by_cases c:PyData.strOk (Txt.slice z lo hi)=true
  ·rw [if_pos c] at t
   exact R0 pins s st H _ v vl vu lo hi sl Q I rx hs pl pu ⟨z,r.1,r.2.1,t.ret so _ ⟨rfl,AM (Txt.slice_le z _ _) r.2.1,c⟩⟩
  ·rw [if_neg c] at t;exact t.no.elim
 | _=>exact Qq pins s st H _ v vl vu lo hi sl Q I rx hs pl pu (lists t)
theorem Eg {e:Expr}{lo hi:Option Expr}{m:Ex}{p q:Px}{p2 pos:Pos}(he:SV X e m)(hl:SVP X lo p)(hh:SVP X hi q):SV X (.Subscript e (.Slice lo hi none p2) pos) (eSl m p q):=⟨PE.weak (NQ VO he.r hl.r hh.r) λst H Q h=>by
 obtain ⟨th,mu,ro,so,en,t⟩:=h
 refine ⟨th,mu,ro,so,en,t.bind.mono λd th1 mu1 H1 e1 s1 t1 v rv=>?_⟩
 refine ⟨th1,mu1,ro,s1,en.ext e1 so.out,t1.bind.mono λlo' th2 mu2 H2 e2 s2 t2=>?_⟩
 refine ⟨th2,mu2,ro,s2,(en.ext e1 so.out).ext e2 s1.out,t2.bind.mono λhi' th3 mu3 H3 e3 s3 t3=>?_⟩
 exact ⟨th3,mu3,d,s3,(rv.ext e2 s1.out).ext e3 s2.out,t3⟩⟩
noncomputable def tyN:D->String
 | .non=>"NoneType"|.bl _=>"bool"|.int _=>"int"|.str _=>"str"|.tup _=>"tuple"|.lst _=>"list"|.dct _ _=>"dict"|.set _=>"set"|.ref _=>"list"
def isi (T:String)(d:D):Bool:=tyN d==T||(T=="int"&&tyN d=="bool")
theorem TH {K:PySem.W.Frag}(T:String)(hT:T="str"∨T="tuple"∨T="int"∨T="bool"∨T="list"∨T="dict")(d:D):PySem.W.kitOne K (.type (tyN d)) (.type T)=some (isi T d):=by
 rcases hT with rfl|rfl|rfl|rfl|rfl|rfl<;>cases d<;>rfl
noncomputable def CM (mu:Sto):D->Bool
 | .ref k=>match mu[k]? with
  | some (.lst _)=>true
  | _=>false
 | _=>true
theorem Gv {mu:Sto}{k:Nat}(h:CM mu (.ref k)=true):∃ ds,mu[k]? = some (.lst ds):=by
 unfold CM at h
 dsimp only at h
 split at h
 ·rename_i ds e;exact ⟨ds,e⟩
 ·cases h
def Qk (T:String)(a:Ex):Ex:=λro mu=>bM (a ro mu) λd m1=>if CM m1 d=true then some (.bl (isi T d),m1) else none
theorem Pj {pins:List (Addr×Obj)}{st:L2.St}{s:Shared}{T:String}{d:D}{x:V}{u:Value}{Q:Value->Shared->Prop}{E:Value->Shared->Prop}(hT:T="str"∨T="tuple"∨T="int"∨T="bool"∨T="list"∨T="dict")(I:L2.Inv X pins st H s)(so:StoOk X.z th mu H)(hr:CM mu d=true)(r:Rep X.z th H d x)(rx:RelV x u)
  (h:∀ tk,Q (.bool (isi T d)) { s with toks:=tk }):wpAny (model X.prog X.w) X.A (call (.builtin "isinstance") [u,.type T]) Q E s:=by
 have e:=TH (K:=X.K) T hT d
 have ls:∀ {a:Addr} {vs:List V},Rd H a (.lst vs)->Gy X.K H (.ref a) (.type "list"):=λ{a vs} h=>by
  rcases h with h|⟨o,h⟩
  ·exact .lst h
  ·exact .frz h
 cases d with
 | non=>cases (show x=_ from r);exact ED I rx .non e h
 | bl b=>cases (show x=_ from r);exact ED I rx (.bl b) e h
 | int b=>cases (show x=_ from r);exact ED I rx (.int b) e h
 | str b=>cases r.1;exact ED I rx (.str b) e h
 | tup ds =>
  unfold Rep at r
  obtain ⟨a,vs,rfl,h1,_⟩:=r
  cases rx
  obtain ⟨its,_,⟨o,g1,g2,_⟩,_⟩:=I.tuple h1
  exact A2 PySem.W.kitx_tuple I.kIn ⟨o,g1,g2⟩ e (λz=>nomatch z) h
 | lst ds =>
  unfold Rep at r
  obtain ⟨a,vs,rfl,h1,_⟩:=r
  cases rx
  obtain ⟨its,_,⟨o,n,g1,g2,_⟩,_⟩:=I.list h1.sq
  exact A2 PySem.W.kitx_list I.kIn ⟨o,g1,g2⟩ e (λz=>nomatch z) h
 | dct _ _ =>
  unfold Rep at r
  obtain ⟨a,xs,rfl,_,h1,_⟩:=r
  obtain ⟨⟨_,o,es,ep,g1,g2,_⟩,_⟩:=(show ObjOk X.prog X.w H s.heap a (En a xs) from I.hok a _ h1)
  cases rx
  exact A2 PySem.W.kitx_dict I.kIn ⟨o,g1,g2.1⟩ e (λz=>nomatch z) h
 | set _ =>
  unfold Rep at r
  obtain ⟨a,us,vs,rfl,_,h1,_⟩:=r
  obtain ⟨⟨o,es,ep,t,g1,g2,_⟩,_⟩:=(show ObjOk X.prog X.w H s.heap a (Pz X.w a us) from I.hok a _ h1)
  cases rx
  exact A2 PySem.W.kitx_set I.kIn ⟨o,g1,g2.1⟩ e (λz=>nomatch z) h
 | ref k =>
  unfold Rep at r
  obtain ⟨a,rfl,h1⟩:=r
  obtain ⟨ds,em⟩:=Gv hr
  obtain ⟨vs,h2,_⟩:=so.at' k a _ h1 em
  exact ED I rx (.lst h2) e h
theorem S1 (T:String){x:Str}{a:Expr}{m:Ex}{p p2 pos:Pos}(ha:SV X a m)(h1:X.mg "isinstance"=none)(h2:X.mg x=none)(hb:bootBuiltins x=some (.type T))(hT:T="str"∨T="tuple"∨T="int"∨T="bool"∨T="list"∨T="dict":=by decide)
  (hn:x≠"__name__":=by decide) (hd:(x==("__debug__":Str))=false:=by decide) (hg:Gl X "isinstance":=by rfl) (hg2:Gl X x:=by rfl)
  (hs1:starEach [a,.Name x p2] X.env=(false,eval a X.env)::starEach [.Name x p2] X.env:=by rfl) (hs2:(backTo pos (starEach [.Name x p2] X.env)).any (·.1)=false:=by rfl) (hs3:starEach [.Name x p2] X.env=(false,eval (.Name x p2) X.env)::starEach [] X.env:=by rfl) :
  SV X (.Call (.Name "isinstance" p) [a,.Name x p2] [] pos) (Qk T m):=⟨by
 have hc:EB X (.builtin "isinstance") (λxs H Q=>∃ th mu d y,StoOk X.z th mu H∧CM mu d=true∧xs=[y,.ty T]∧Rep X.z th H d y∧Q (.bl (isi T d)) H):=by
  intro pins s st H xs us Q I r h
  obtain ⟨th,mu,d,y,so,hr,rfl,rd,q⟩:=h
  obtain ⟨u,w',rfl,rx,ry⟩:=vals2 r
  cases (show w'=Value.type T from ry)
  exact Pj hT I so hr rd rx λtk=>⟨.bl _,H,I.tok _,rfl,q⟩
 have pe:=JU hc hg h1 boot_isinstance (IH ha.r (IH (OS (v:=.ty T) hg2 h2 hb rfl hn hd) NR hs3) hs1) (by decide) (by decide) hs1 hs2 (pos:=pos) (p:=p)
 refine PE.weak pe λst H Q h=>?_
 obtain ⟨th,mu,ro,so,en,t⟩:=h
 refine ⟨th,mu,ro,so,en,t.bind.mono λd th1 mu1 H1 e1 s1 t1 v rv=>?_⟩
 by_cases c:CM mu1 d=true
 ·rw [if_pos c] at t1
  exact ⟨th1,mu1,d,v,s1,c,rfl,rv,t1.ret s1 _ rfl⟩
 ·rw [if_neg c] at t1;exact t1.no.elim⟩
def UE (mu:Sto):D->Option Nat
 | .str x=>some x.length
 | .tup ds=>some ds.length
 | .lst ds=>some ds.length
 | .ref k=>(CI mu (.ref k)).map (·.length)
 | _=>none
def Mz:Fn:=λds mu=>match ds with
 | [d]=>(UE mu d).map λn=>(.int n,mu)
 | _=>none
theorem CJ {xs:List V}{d:D}(r:RepL K th H [d] xs):∃ x,xs=[x]∧Rep K th H d x:=by
 obtain ⟨v,r',rfl,h1,h2⟩:=r.inv
 cases h2.inv0
 exact ⟨v,rfl,h1⟩
theorem G1 {xs:List V}{d e:D}(r:RepL K th H [d,e] xs):∃ x y,xs=[x,y]∧Rep K th H d x∧Rep K th H e y:=by
 obtain ⟨v,r',rfl,h1,h2⟩:=r.inv
 obtain ⟨u,rfl,h3⟩:=CJ h2
 exact ⟨v,u,rfl,h1,h3⟩
theorem MR:CallV X (.builtin "len") Mz:=by
 intro pins s st H xs us Q I r h
 obtain ⟨th,mu,ds,so,rd,t⟩:=h
 match ds,t,rd with
 | [d],t,rd =>
  obtain ⟨x,rfl,rx⟩:=CJ rd
  cases d with
  | str z=>exact Jm pins s st H _ us Q I r ⟨z,by rw [rx.1],rx.2.1,t.ret so _ rfl⟩
  | tup es =>
   unfold Rep at rx
   obtain ⟨a,vs,rfl,h1,h2,_⟩:=rx
   exact EX pins s st H _ us Q I r ⟨a,vs,rfl,.inr h1,by rw [h2.len];exact t.ret so _ rfl⟩
  | lst es =>
   unfold Rep at rx
   obtain ⟨a,vs,rfl,h1,h2,_⟩:=rx
   exact EX pins s st H _ us Q I r ⟨a,vs,rfl,.inl h1.sq,by rw [h2.len];exact t.ret so _ rfl⟩
  | ref k =>
   unfold Mz UE at t
   dsimp only at t
   cases e1:CI mu (.ref k) with
   | none=>rw [e1] at t;exact t.no.elim
   | some es =>
    rw [e1] at t
    obtain ⟨a,vs,rfl,h1,h2,h3⟩:=Dp so e1 rx
    exact EX pins s st H _ us Q I r ⟨a,vs,rfl,.inl h1,by rw [h2.len];exact t.ret so _ rfl⟩
  | _=>exact t.no.elim
 | [],t,_=>exact t.no.elim
 | _::_::_,t,_=>exact t.no.elim
noncomputable def GP:List D->Option (List Bool)
 | []=>some []
 | .bl b::ds=>(GP ds).map (b::·)
 | _=>none
theorem HZ:∀ {ds:List D} {bs:List Bool} {vs:List V},GP ds=some bs->RepL K th H ds vs->vs=bs.map V.bl
 | [],_,_,h,r=>by cases h;exact r.inv0
 | d::ds,bs,_,h,r=>by
  obtain ⟨v,r',rfl,h1,h2⟩:=r.inv
  cases d with
  | bl b =>
   unfold GP at h
   cases e:GP ds with
   | none=>rw [e] at h;cases h
   | some cs =>
    rw [e] at h
    cases h
    rw [HZ e h2,show v=V.bl b from h1]
    rfl
  | _=>cases h
def quF (f:List Bool->Bool):Fn:=λds mu=>match ds with
 | [d]=>match CI mu d with
  | some es=>(GP es).map λbs=>(.bl (f bs),mu)
  | none=>none
 | _=>none
def Mm:=quF λbs=>bs.all id
theorem N8 {id:String}{f:List Bool->Bool}(hq:EB X (.builtin id) (λxs H Q=>∃ (p:Addr) (bs:List Bool),xs=[.ref p]∧SqL X.K H p (bs.map V.bl)∧Q (.bl (f bs)) H)):CallV X (.builtin id) (quF f):=by
 intro pins s st H xs us Q I r h
 obtain ⟨th,mu,ds,so,rd,t⟩:=h
 match ds,t,rd with
 | [d],t,rd =>
  obtain ⟨x,rfl,rx⟩:=CJ rd
  unfold quF at t
  dsimp only at t
  cases e1:CI mu d with
  | none=>rw [e1] at t;exact t.no.elim
  | some es =>
   rw [e1] at t
   dsimp only at t
   cases e2:GP es with
   | none=>rw [e2] at t;exact t.no.elim
   | some bs =>
    rw [e2] at t
    obtain ⟨a,vs,rfl,h1,h2,h3⟩:=Dp so e1 rx
    cases HZ e2 h2
    exact hq pins s st H _ us Q I r ⟨a,bs,rfl,h1,t.ret so _ rfl⟩
 | [],t,_=>exact t.no.elim
 | _::_::_,t,_=>exact t.no.elim
theorem Mp (hc:X.calm=true):CallV X (.builtin "all") Mm:=N8 (NA hc)
noncomputable def ints2 (ds:List D):Option (Int×Int):=match ds with
 | [.int i,.int j]=>some (i,j)
 | _=>none
theorem Iy {ds:List D}{p:Int×Int}(h:ints2 ds=some p):ds=[.int p.1,.int p.2]:=by
 unfold ints2 at h
 split at h
 ·cases h;rfl
 ·cases h
def JG:Fn:=λds mu=>(ints2 ds).map λp=>(.int (if p.2<p.1 then p.2 else p.1),mu)
def NI:Fn:=λds mu=>(ints2 ds).map λp=>(.int (if p.2 > p.1 then p.2 else p.1),mu)
noncomputable def intOf (ds:List D):Option Int:=match ds with
 | [.int i]=>some i
 | [.bl b]=>some (if b then 1 else 0)
 | _=>none
theorem Mn {ds:List D}{i:Int}(h:intOf ds=some i):ds=[.int i]∨∃ b,ds=[.bl b]∧i=if b then 1 else 0:=by
 unfold intOf at h
 split at h
 ·cases h;exact .inl rfl
 ·cases h;exact .inr ⟨_,rfl,rfl⟩
 ·cases h
def Nz:Fn:=λds mu=>(intOf ds).map λi=>(.int i,mu)
noncomputable def Oi (ds:List D):Option Int:=match ds with
 | [.int i]=>some i
 | _=>none
theorem Oa {ds:List D}{i:Int}(h:Oi ds=some i):ds=[.int i]:=by
 unfold Oi at h
 split at h
 ·cases h;rfl
 ·cases h
theorem Iu (hc:X.calm=true):CallV X (.builtin "min") JG:=by
 intro pins s st H xs us Q I r h
 obtain ⟨th,mu,ds,so,rd,t⟩:=h
 unfold JG at t
 cases e:ints2 ds with
 | none=>rw [e] at t;exact t.no.elim
 | some p =>
  rw [e] at t
  rw [Iy e] at rd
  obtain ⟨x,y,rfl,rx,ry⟩:=G1 rd
  exact Mc hc pins s st H _ us Q I r ⟨p.1,p.2,by rw [show x=_ from rx,show y=_ from ry],t.ret so _ rfl⟩
theorem Mr (hc:X.calm=true):CallV X (.builtin "max") NI:=by
 intro pins s st H xs us Q I r h
 obtain ⟨th,mu,ds,so,rd,t⟩:=h
 unfold NI at t
 cases e:ints2 ds with
 | none=>rw [e] at t;exact t.no.elim
 | some p =>
  rw [e] at t
  rw [Iy e] at rd
  obtain ⟨x,y,rfl,rx,ry⟩:=G1 rd
  exact MQ hc pins s st H _ us Q I r ⟨p.1,p.2,by rw [show x=_ from rx,show y=_ from ry],t.ret so _ rfl⟩
theorem Ml:CallV X (.type "int") Nz:=by
 intro pins s st H xs us Q I r h
 obtain ⟨th,mu,ds,so,rd,t⟩:=h
 unfold Nz at t
 cases e:intOf ds with
 | none=>rw [e] at t;exact t.no.elim
 | some i =>
  rw [e] at t
  rcases Mn e with h|⟨b,h,hb⟩
  ·rw [h] at rd
   obtain ⟨x,rfl,rx⟩:=CJ rd
   exact Ih pins s st H _ us Q I r (.inl ⟨i,by rw [show x=_ from rx],t.ret so _ rfl⟩)
  ·rw [h] at rd
   obtain ⟨x,rfl,rx⟩:=CJ rd
   exact Ih pins s st H _ us Q I r (.inr ⟨b,by rw [show x=_ from rx],by rw [← hb];exact t.ret so _ rfl⟩)
def FU (mu:Sto):D->Option (List D)
 | .tup ds=>some ds
 | d=>CI mu d
theorem FI (so:StoOk K th mu H){d:D}{ds:List D}{v:V}(h:FU mu d=some ds)(r:Rep K th H d v):∃ a vs,v=.ref a∧(SqL K.K H a vs∨SqT K.K H a vs∧d=.tup ds)∧RepL K th H ds vs∧ds.length≤sizeLine:=by
 cases d with
 | tup es=>cases h;unfold Rep at r;obtain ⟨a,vs,rfl,h1,h2,h3⟩:=r;exact ⟨a,vs,rfl,.inr ⟨h1,rfl⟩,h2,h3⟩
 | lst es=>obtain ⟨a,vs,rfl,h1,h2,h3⟩:=Dp so (d:=.lst es) h r;exact ⟨a,vs,rfl,.inl h1,h2,h3⟩
 | ref k=>obtain ⟨a,vs,rfl,h1,h2,h3⟩:=Dp so (d:=.ref k) h r;exact ⟨a,vs,rfl,.inl h1,h2,h3⟩
 | _=>cases h
noncomputable def FA (ds:List D):Option D:=match ds with
 | [d]=>some d
 | _=>none
theorem EE {ds:List D}{d:D}(h:FA ds=some d):ds=[d]:=by
 unfold FA at h
 split at h
 ·cases h;rfl
 ·cases h
def sq1 (ds:List D)(mu:Sto):Option (List D):=match FA ds with
 | some d=>FU mu d
 | none=>none
def Fo:Fn:=λds mu=>(sq1 ds mu).map λes=>(.tup es,mu)
def IU:Fn:=λds mu=>(sq1 ds mu).map λes=>(.lst es,mu)
theorem Lr {ds es:List D}(h:sq1 ds mu=some es):∃ d,ds=[d]∧FU mu d=some es:=by
 unfold sq1 at h
 cases e:FA ds with
 | none=>rw [e] at h;cases h
 | some d=>rw [e] at h;exact ⟨d,EE e,h⟩
theorem Eb:CallV X (.type "tuple") Fo:=by
 intro pins s st H xs us Q I r h
 obtain ⟨th,mu,ds,so,rd,t⟩:=h
 unfold Fo at t
 cases e:sq1 ds mu with
 | none=>rw [e] at t;exact t.no.elim
 | some es =>
  rw [e] at t
  obtain ⟨d,rfl,e2⟩:=Lr e
  obtain ⟨x,rfl,rx⟩:=CJ rd
  obtain ⟨a,vs,rfl,h1,h2,h3⟩:=FI so e2 rx
  refine HE pins s st H _ us Q I r ⟨a,vs,rfl,?_⟩
  rcases h1 with h1|⟨h1,rfl⟩
  ·exact .inl ⟨h1,λp hp=>t.retX (.new hp _) (so.new hp _) _ (Rep.newTup so hp h2 h3)⟩
  ·exact .inr ⟨h1,t.ret so _ rx⟩
theorem Iv:CallV X (.type "list") IU:=by
 intro pins s st H xs us Q I r h
 obtain ⟨th,mu,ds,so,rd,t⟩:=h
 unfold IU at t
 cases e:sq1 ds mu with
 | none=>rw [e] at t;exact t.no.elim
 | some es =>
  rw [e] at t
  obtain ⟨d,rfl,e2⟩:=Lr e
  obtain ⟨x,rfl,rx⟩:=CJ rd
  obtain ⟨a,vs,rfl,h1,h2,h3⟩:=FI so e2 rx
  refine IS pins s st H _ us Q I r ⟨a,vs,rfl,?_,λp hp=>t.retX (.new hp _) (so.new hp _) _ (Rep.newLst so hp h2 h3)⟩
  rcases h1 with h1|⟨h1,_⟩
  ·exact .inl h1
  ·exact .inr h1
def Hw (o:Ex)(a:Exs):Ex:=λro mu=>bM (o ro mu) λd m1=>match d with
 | .ref k=>if CM m1 (.ref k)=true then bM (a ro m1) λxs m2=>match FA xs,m2[k]? with
  | some y,some (.lst ds)=>if ds.length<sizeLine then some (.non,m2.set k (.lst (ds++[y]))) else none
  | _,_=>none
  else none
 | _=>none
theorem GG {o e:Expr}{m:Ex}{n:Exs}{apos cpos:Pos}(ho:SV X o m)(ha:SVA X [e] n)(hbase:attributeBase o "append" X.env (eval o X.env)=eval o X.env:=by rfl)
  (hfew:((backTo cpos (starEach [e] X.env)).all (λx=>!x.1)&&(backToKw cpos (keywordEach [] X.env)).all (λx=>x.1.isSome)
   && decide ([e].length+([]:List Keyword).length+(if ([]:List Keyword).isEmpty then 0 else 1)<30))=true:=by rfl)
  (hline:(apos.endLine==cpos.line)=true:=by rfl) (hs:starEach [e] X.env=(false,eval e X.env)::starEach [] X.env:=by rfl) (hplain:(backTo cpos (starEach [] X.env)).any (·.1)=false:=by rfl) :
  SV X (.Call (.Attribute o "append" apos) [e] [] cpos) (Hw m n):=
 ⟨PE.weak (QR PySem.F.plainAttrs_list PySem.F.slot_list_append PySem.F.type_list_append MA ho.r ha.1 hbase hfew hline hs hplain) λst H Q h=>by
  obtain ⟨th,mu,ro,so,en,t⟩:=h
  refine ⟨th,mu,ro,so,en,t.bind.mono λd th1 mu1 H1 e1 s1 t1 v rv=>?_⟩
  cases d with
  | ref k =>
   unfold Rep at rv
   obtain ⟨a,rfl,ha'⟩:=rv
   by_cases cr:CM mu1 (.ref k)=true
   case neg=>dsimp only at t1;rw [if_neg cr] at t1;exact t1.no.elim
   dsimp only at t1
   rw [if_pos cr] at t1
   obtain ⟨ds0,em⟩:=Gv cr
   obtain ⟨vs,h2,_⟩:=s1.at' k a _ ha' em
   refine ⟨.inl ⟨rfl,vs,SqL.of h2⟩,th1,mu1,ro,s1,en.ext e1 so.out,?_⟩
   refine Tr.mono (Tr.bind t1) λxs th2 mu2 H2 e2 s2 t2 ws rws=>?_
   cases q1:FA xs with
   | none=>rw [q1] at t2;exact t2.no.elim
   | some y =>
    cases q2:mu2[k]? with
    | none=>rw [q1,q2] at t2;exact t2.no.elim
    | some o =>
     cases o with
     | dct _ _=>rw [q1,q2] at t2;exact t2.no.elim
     | lst ds =>
      rw [q1,q2] at t2
      dsimp only at t2
      by_cases c:ds.length<sizeLine
      ·rw [if_pos c] at t2
       rw [EE q1] at rws
       obtain ⟨y',rfl,ry⟩:=CJ rws
       have hk:=e2.at ha'
       obtain ⟨us,g1,g2,g3⟩:=s2.at' k a _ hk q2
       exact ⟨a,us,y',rfl,rfl,g1,by rw [g2.len];exact c,t2.retX (.mut (Ag hk) _) (s2.put hk (g2.app (.cons ry .nil)) (by rw [An];exact c)) _ rfl⟩
      ·rw [if_neg c] at t2;exact t2.no.elim
  | _=>exact t1.no.elim⟩
end
end PV
namespace L2
open PySem PySem.Spec PyProof.Rows
theorem Q0 {x y z:V}{us:List Value}(r:Vals [x,y,z] us):∃ u v w',us=[u,v,w']∧RelV x u∧RelV y v∧RelV z w':=by
 cases r with
 | cons r1 r2 =>
  obtain ⟨v,w',rfl,a,b⟩:=vals2 r2
  exact ⟨_,v,w',rfl,r1,a,b⟩
def TL (i j k:Nat)(ta:TA):TS:=λD σ H=>ta σ H λvs H1=>∃ u v w,vs=[u,v,w]∧D.nx (((σ.set i (some u)).set j (some v)).set k (some w)) H1
theorem OO {X:Cx}{pos:Pos}{i j k:Nat}{x y z:Str}{a b c:Expr}{ta:TA}{px py pz pt:Pos}{kt k2 pt2}(hc:X.calm=true)(hN:X.N.Nodup)(hi:X.N[i]? = some x)(hj:X.N[j]? = some y)(hk:X.N[k]? = some z)(hij:i≠j)(hik:i≠k)(hjk:j≠k)
  (hx:X.env.scope.names.lookup x=some .local) (hy:X.env.scope.names.lookup y=some .local) (hz:X.env.scope.names.lookup z=some .local) (ha:PA X [a,b,c] ta)
  (hw:swappedStores [.Tuple [.Name x px,.Name y py,.Name z pz] kt pt] (.Tuple [a,b,c] k2 pt2) X.env=pure (some [x,y,z]))
  (hs:swapsWithSole [.Tuple [.Name x px,.Name y py,.Name z pz] kt pt] (.Tuple [a,b,c] k2 pt2) pos.line X.env=pure false:=by rfl) :
  PS X (.Assign [.Tuple [.Name x px,.Name y py,.Name z pz] kt pt] (.Tuple [a,b,c] k2 pt2) pos) (TL i j k ta):=by
 intro pins s σ H D I h
 rw [exec_Assign_arm]
 refine Aa (wpAny_standAt ?_)
 rw [hs]
 refine Aa (Ac ?_)
 rw [if_neg (by decide)]
 refine Aa (Tuple_ (thn (ha _ pins s σ H _ I h) λus s1 ⟨vs,H1,I1,r1,q1⟩=>?_))
 obtain ⟨v1,v2,v3,e1,q1⟩:=q1
 subst e1
 obtain ⟨u1,u2,u3,rfl,ra,rb,rc⟩:=Q0 r1
 refine A3 ?_ (by show 3≤sizeLine;decide)
 have I2:Inv X pins σ H1 { s1 with heap:=s1.heap.push { cls:=.type "tuple",data:=.seq [u1,u2,u3].toArray } }:=I1.kept (t':=s1.toks) λb o e=>Af _ e
 rw [hw]
 refine Aa (Ac ?_)
 show wpAny (model X.prog X.w) X.A (do rule "assign.swapped-stores";let items←unpackItems (.ref s1.heap.objs.size) 3 none;assignInOrder [λv=>bindName X.env z v,λv=>bindName X.env y v,λv=>bindName X.env x v] items.reverse;pure Flow.next) _ _ _
 refine Aa (Bc (Aa (unpackItems_tuple (items:=#[u1,u2,u3]) (I.ok.hd hc) (IsTup.new s1.heap _) λh' hx'=>?_)))
 have I3:=I2.kept (h':=h') (t':=s1.toks) λb o e=>hx' b o (AJ (Ax e)) e
 show wpAny _ _ (assignInOrder [λv=>bindName X.env z v,λv=>bindName X.env y v,λv=>bindName X.env x v] [u3,u2,u1] >>= λ_=>pure Flow.next) _ _ _
 refine Aa (assignInOrder_cons (wpAny_bindName (Ee I3 hN hk (.inl hz) rc (λs2 I4=>?_) (.inr hz))))
 refine assignInOrder_cons (wpAny_bindName (Ee I4 hN hj (.inl hy) rb (λs3 I5=>?_) (.inr hy)))
 refine assignInOrder_cons (wpAny_bindName (Ee I5 hN hi (.inl hx) ra (λs4 I6=>assignInOrder_nil (Ac ?_)) (.inr hx)))
 rw [List.set_comm _ _ (Ne.symm hjk),List.set_comm _ _ (Ne.symm hik),List.set_comm (i:=j) (j:=i) _ _ (Ne.symm hij)] at I6
 exact ⟨_,H1,I6,q1⟩
end L2
namespace PV
open PySem L2 PySem.Spec PyProof.Rows
section
variable {X:Cx} {K:Zc} {th:List Addr} {mu:Sto} {H:Hp}
def LS (i j k:Nat)(a:Exs):Sx:=λro mu=>bM (a ro mu) λds m1=>match ds with
 | [x,y,z]=>some ((.nx,((ro.set i (some x)).set j (some y)).set k (some z)),m1)
 | _=>none
theorem Oz (i j k:Nat){x y z:Str}{a b c:Expr}{m:Exs}{px py pz pt:Pos}{kt k2 pt2}{pos:Pos}(hc:X.calm=true)(hN:X.N.Nodup)(ha:SVA X [a,b,c] m)
  (hw:swappedStores [.Tuple [.Name x px,.Name y py,.Name z pz] kt pt] (.Tuple [a,b,c] k2 pt2) X.env=pure (some [x,y,z]))
  (hi:X.N[i]? = some x:=by rfl) (hj:X.N[j]? = some y:=by rfl) (hk:X.N[k]? = some z:=by rfl) (hij:i≠j:=by decide) (hik:i≠k:=by decide) (hjk:j≠k:=by decide)
  (hx:X.env.scope.names.lookup x=some .local:=by rfl) (hy:X.env.scope.names.lookup y=some .local:=by rfl) (hz:X.env.scope.names.lookup z=some .local:=by rfl)
  (hs:swapsWithSole [.Tuple [.Name x px,.Name y py,.Name z pz] kt pt] (.Tuple [a,b,c] k2 pt2) pos.line X.env=pure false:=by rfl) :
  SVS X (.Assign [.Tuple [.Name x px,.Name y py,.Name z pz] kt pt] (.Tuple [a,b,c] k2 pt2) pos) (LS i j k m):=⟨PS.weak (OO hc hN hi hj hk hij hik hjk hx hy hz ha.1 hw hs) λE st H h=>by
 obtain ⟨th,mu,ro,so,en,t⟩:=h
 refine ⟨th,mu,ro,so,en,t.bind.mono λds th1 mu1 H1 e1 s1 t1 vs rvs=>?_⟩
 match ds,t1,rvs with
 | [d,d',d''],t1,rvs =>
  obtain ⟨v,r,rfl,r1,r2⟩:=rvs.inv
  obtain ⟨u,w,rfl,r3,r4⟩:=G1 r2
  exact ⟨v,u,w,rfl,t1.ret s1 _ ((((en.ext e1 so.out).set i r1).set j r3).set k r4)⟩
 | [],t1,_=>exact t1.no.elim
 | [_],t1,_=>exact t1.no.elim
 | [_,_],t1,_=>exact t1.no.elim
 | _::_::_::_::_,t1,_=>exact t1.no.elim⟩
def Pq (d e v:D)(mu:Sto):Rs Unit:=match d,e with
 | .ref k,.int i=>match mu[k]? with
  | some (.lst ds)=>match ixN ds.length i with
   | some j=>some ((),mu.set k (.lst (ds.set j v)))
   | none=>none
  | _=>none
 | _,_=>none
def Wc (K:Zc):OL:=λo i v H Q=>∃ th mu d e w,StoOk K th mu H∧Rep K th H d o∧Rep K th H e i∧Rep K th H w v∧Tr K th H (Pq d e w mu) λ_ _ _ H'=>Q H'
theorem T5:Pb X (Wc X.z):=by
 intro pins s st H o i v ov iv u Q I ro ri rv h
 obtain ⟨th,mu,d,e,w,so,r1,r2,r3,t⟩:=h
 cases d with
 | ref k =>
  cases e with
  | int j =>
   unfold Pq at t
   dsimp only at t
   cases q:mu[k]? with
   | none=>rw [q] at t;exact t.no.elim
   | some o' =>
    cases o' with
    | dct _ _=>rw [q] at t;exact t.no.elim
    | lst ds =>
     rw [q] at t
     dsimp only at t
     cases q2:ixN ds.length j with
     | none=>rw [q2] at t;exact t.no.elim
     | some n =>
      rw [q2] at t
      unfold Rep at r1
      obtain ⟨a,rfl,ha⟩:=r1
      obtain ⟨vs,h1,h2,h3⟩:=so.at' k a _ ha q
      exact set_list pins s st H _ i v ov iv u Q I ro ri rv ⟨a,vs,j,n,rfl,r2,h1,by rw [h2.len];exact q2,t.retX (.mut (Ag ha) _) (so.put ha (h2.setAt n r3) (by rw [Bb];exact h3))⟩
  | _=>exact t.no.elim
 | _=>exact t.no.elim
noncomputable def Eh (lo:Int)(n:Nat):List D:=(List.range n).map λk:Nat=>.int (lo+k)
theorem NO {lo:Int}{n:Nat}(hn:n≤sizeLine):MX K (Itr lo n) th mu H (Eh lo n) none where
 sz:=by unfold Eh;simpa using hn
 go:=λth' mu' H' e s go i d ed=>by
  unfold Eh at ed
  rw [Ar] at ed
  cases q:(List.range n)[i]? with
  | none=>rw [q] at ed;cases ed
  | some k =>
   rw [q] at ed
   have hd:D.int (lo+k)=d:=by simpa using ed
   obtain ⟨hi,hk⟩:=Ad.mp q
   rw [List.length_range] at hi
   rw [List.getElem_range] at hk
   subst hk hd
   refine ⟨hi,λv H2 y=>?_⟩
   obtain ⟨rfl,rfl⟩:=y
   exact ⟨.refl _ _,s,by unfold Rep;rfl⟩
 stop:=λth' mu' H' e s go=>by show n≤(Eh lo n).length;unfold Eh;simp
def iRg (a:Exs):Ix:=λro mu=>bM (a ro mu) λds m1=>match Oi ds with
 | some j=>if -(2 ^ 62)≤j∧j≤(sizeLine:Int) then some ((Eh 0 j.toNat,none),m1) else none
 | none=>none
theorem FP {tg a:Expr}{m:Exs}{p pos:Pos}(hm:X.mg "range"=none)(ha:SVA X [a] m)(hg:Gl X "range":=by rfl)(hs:starEach [a] X.env=[(false,eval a X.env)]:=by rfl):SVI X tg (.Call (.Name "range" p) [a] [] pos) (iRg m):=
 ⟨PI.weak (MS hg hm ha.1 hs) λst H R h=>by
  obtain ⟨th,mu,ro,so,en,t⟩:=h
  refine ⟨th,mu,ro,so,en,t.bind.mono λds th1 mu1 H1 e1 s1 t1 vs rvs=>?_⟩
  cases q:Oi ds with
  | none=>rw [q] at t1;exact t1.no.elim
  | some j =>
   rw [q] at t1
   dsimp only at t1
   by_cases c:-(2 ^ 62)≤j∧j≤(sizeLine:Int)
   ·rw [if_pos c] at t1
    rw [Oa q] at rvs
    obtain ⟨x,rfl,rx⟩:=CJ rvs
    refine ⟨j,by rw [show x=_ from rx],c.1,?_,t1.ret s1 _ (NO (by ext))⟩
    have:=c.2
    rw [AR] at this
    ext
   ·rw [if_neg c] at t1;exact t1.no.elim⟩
theorem O3 {a b:Str}(h:a.cps.toList=b.cps.toList):a=b:=by
 obtain ⟨x⟩:=a
 obtain ⟨y⟩:=b
 have:x=y:=Array.toList_inj.mp h
 rw [this]
end
def LtAt (A:Around)(s:Shared)(y x:Value)(b:Bool):Prop:=
 ∀ (prog:Program) (w:World) (E:Value->Shared->Prop) (Q:Value->Shared->Prop),Q (.bool b) s->wpAny (model prog w) A (richCompare .Lt y x) Q E s
def Jp (A:Around)(s:Shared):List Value->List Value->Bool->Prop
 | [],[],b=>b=false
 | [],_::_,b=>b=true
 | _::_,[],b=>b=false
 | y::vs,x::ws,b=>∃ e,SeqAt.EqAt A s y x e∧if e=true then Jp A s vs ws b else LtAt A s y x b
section
open PySem.SeqAt
open PySem.AutoSeq1 (wpAny_loadPart')
open PySem.MeetsSeq PySem.MeetsSeq2 PySem.MeetsSeq3
theorem IE (l b:Addr)(items items2:Array Value)(n n2:Nat)(dd dd2:Option Addr)(sl sl2:Array (Option Value))(r:Bool) :
  Meets (Builtin.«tuple.__lt__» ⟨[.ref l,.ref b],[]⟩)
   (λA R s=>s.heap.get? l=some { cls:=.type "tuple",dict:=dd,data:=.seq items n,slots:=sl }∧s.heap.get? b=some { cls:=.type "tuple",dict:=dd2,data:=.seq items2 n2,slots:=sl2 } ∧
    Jp A.in1 s items.toList items2.toList r∧R (.ok (.ret (.bool r))) s):=
 .of_wp λprog w A R s h=>by
  obtain ⟨hp,g,d,tk,os⟩:=s;obtain ⟨hl,hb,hx,h⟩:=h
  have f2:=AutoSeq1.sub_tuple_tuple
  wp_walk using BM hl,BM hb,wpAny_forIn_list _ (λrest b s'=>b.1=none∧s'=⟨hp,g,d,tk,os⟩∧∃ (vs ws:List Value),rest=vs.zip ws ∧
   Jp A.in1 ⟨hp,g,d,tk,os⟩ vs ws r∧vs.length+items2.size=ws.length+items.size) _
  case turn =>
   rintro ⟨y,x⟩ rest b s' ⟨hb',rfl,vs,ws,hz,hlx,hlen⟩
   cases vs with
   | nil=>rw [List.zip_nil_left] at hz;cases hz
   | cons a vs' =>
    cases ws with
    | nil=>rw [List.zip_nil_right] at hz;cases hz
    | cons c ws' =>
     rw [List.zip_cons_cons] at hz
     injection hz with hyx hrest
     injection hyx with hy hx
     subst hy hx
     simp only [List.length_cons] at hlen
     obtain ⟨e,he,hiff⟩:=hlx
     refine Aa (he prog w _ _ ?_)
     cases e with
     | true =>
      rw [if_pos rfl] at hiff
      wp_walk
      exact ⟨rfl,rfl,_,_,hrest,hiff,by ext⟩
     | false =>
      rw [if_neg AQ] at hiff
      have hri:=hiff prog w
      wp_walk using hri
      exact ⟨_,rfl,by simpa using h⟩
  case fin =>
   rintro ⟨b1,b2⟩ s' ⟨hb',rfl,vs,ws,hz,hlx,hlen⟩
   simp only at hb'
   subst hb'
   have hv:r=decide (items.size<items2.size):=by
    cases vs with
    | nil =>
     cases ws with
     | nil =>
      simp only [List.length_nil] at hlen
      rw [show r=false from hlx]
      exact (A1 (by ext)).symm
     | cons c ws' =>
      simp only [List.length_nil,List.length_cons] at hlen
      rw [show r=true from hlx]
      exact (Br (by ext)).symm
    | cons a vs' =>
     cases ws with
     | nil =>
      simp only [List.length_nil,List.length_cons] at hlen
      rw [show r=false from hlx]
      exact (A1 (by ext)).symm
     | cons c ws' =>
      rw [List.zip_cons_cons] at hz
      cases hz
   rw [hv] at h
   wp_walk
   exact ⟨_,rfl,by simpa [Builtin.Tuple.tupleCompareSizes] using h⟩
  case h =>
   exact ⟨rfl,rfl,items.toList,items2.toList,rfl,hx,by simp;ext⟩
end
theorem LtAt.tuples {A:Around}{s:Shared}{l b:Addr}{items items2:Array Value}{r:Bool}(hl:IsTup s.heap l items)(hb:IsTup s.heap b items2)(hu:A.units<cLine)(hx:Jp A.in1 s items.toList items2.toList r):LtAt A s (.ref l) (.ref b) r:=λprog w E Q h=>by
 obtain ⟨⟨cls,dd,data,sl⟩,ho,hc,n,hd⟩:=id hl
 obtain ⟨⟨cls2,dd2,data2,sl2⟩,ho2,hc2,n2,hd2⟩:=id hb
 simp only at hc hd hc2 hd2
 subst hc hd hc2 hd2
 exact richCompare_meets_room (op:=.Lt) ⟨_,ho,rfl⟩ ⟨_,ho2,rfl⟩ PySem.F.slot_tuple_lt PySem.F.entry_tuple_lt (PySem.F.args_tuple_lt_2 _ _) (IE l b items items2 n n2 dd dd2 sl sl2 r)
  ⟨ho,ho2,hx,show Value.bool r≠Value.notImplemented∧Q (.bool r) s from ⟨(λx=>nomatch x),h⟩⟩ hu
mutual
noncomputable def ltB:D->D->Option Bool
 | .int i,.int j=>some (decide (i<j))
 | .str i,.str j=>some (decide (i.cps.toList<j.cps.toList))
 | .tup xs,.tup ys=>ET xs ys
 | _,_=>none
noncomputable def ET:List D->List D->Option Bool
 | [],[]=>some false
 | [],_::_=>some true
 | _::_,[]=>some false
 | x::xs,y::ys=>if Ca x&&Ca y then (if PyData.eqv (toPy x) (toPy y) then ET xs ys else ltB x y) else none
end
section
variable {X:Cx} {K:Zc} {th:List Addr} {mu:Sto} {H:Hp}
mutual
theorem Ki {pins:List (Addr×Obj)}{st:L2.St}{s:Shared}(I:L2.Inv X pins st H s):∀ (d e:D) (b:Bool) (v u:V) (vv uu:Value) (A:Around),ltB d e=some b->Rep X.z th H d v->Rep X.z th H e u->RelV v vv->RelV u uu->A.units+(toPy d).depth+1<cLine->LtAt A s vv uu b
 | .int i,e,b,v,u,vv,uu,A,h,r1,r2,q1,q2,hu=>by
  cases e with
  | int j =>
   unfold ltB at h
   cases h
   cases (show _=_ from r1)
   cases (show _=_ from r2)
   obtain ⟨t1,rfl⟩:=q1
   obtain ⟨t2,rfl⟩:=q2
   exact λprog w E Q hq=>(PyProof.Rows.lt_int hq:wpAny (model prog w) A (compareOp .Lt (.int i t1) (.int j t2)) Q E s)
  | _=>unfold ltB at h;cases h
 | .str i,e,b,v,u,vv,uu,A,h,r1,r2,q1,q2,hu=>by
  cases e with
  | str j =>
   unfold ltB at h
   cases h
   obtain ⟨rfl,_⟩:=(show _∧_ from r1)
   obtain ⟨rfl,_⟩:=(show _∧_ from r2)
   obtain ⟨t1,rfl⟩:=q1
   obtain ⟨t2,rfl⟩:=q2
   exact λprog w E Q hq=>(PyProof.Rows.lt_str hq:wpAny (model prog w) A (compareOp .Lt (.str i t1) (.str j t2)) Q E s)
  | _=>unfold ltB at h;cases h
 | .tup xs,e,b,v,u,vv,uu,A,h,r1,r2,q1,q2,hu=>by
  cases e with
  | tup ys =>
   unfold ltB at h
   unfold Rep at r1 r2
   obtain ⟨a,vs,rfl,h1,l1,_⟩:=r1
   obtain ⟨c,us,rfl,h2,l2,_⟩:=r2
   cases q1
   cases q2
   obtain ⟨its,rv,p1,_⟩:=I.tuple h1
   obtain ⟨its2,rv2,p2,_⟩:=I.tuple h2
   have hd:(toPy (.tup xs)).depth=PyData.depthAll (B4 xs)+1:=by unfold toPy PyData.depth;rfl
   rw [hd] at hu
   refine LtAt.tuples p1 p2 (by ext) ?_
   have:=LV I xs ys b vs us its its2 A.in1 h l1 l2 rv rv2 (by show A.units+1+PyData.depthAll (B4 xs)+1<cLine;ext)
   simpa using this
  | _=>unfold ltB at h;cases h
 | .non,e,b,_,_,_,_,_,h,_,_,_,_,_=>by cases e<;>(unfold ltB at h;cases h)
 | .bl _,e,b,_,_,_,_,_,h,_,_,_,_,_=>by cases e<;>(unfold ltB at h;cases h)
 | .lst _,e,b,_,_,_,_,_,h,_,_,_,_,_=>by cases e<;>(unfold ltB at h;cases h)
 | .dct _ _,e,b,_,_,_,_,_,h,_,_,_,_,_=>by cases e<;>(unfold ltB at h;cases h)
 | .set _,e,b,_,_,_,_,_,h,_,_,_,_,_=>by cases e<;>(unfold ltB at h;cases h)
 | .ref _,e,b,_,_,_,_,_,h,_,_,_,_,_=>by cases e<;>(unfold ltB at h;cases h)
theorem LV {pins:List (Addr×Obj)}{st:L2.St}{s:Shared}(I:L2.Inv X pins st H s):∀ (xs ys:List D) (b:Bool) (vs us:List V) (vvs uus:List Value) (A:Around),ET xs ys=some b->RepL X.z th H xs vs->RepL X.z th H ys us->Vals vs vvs->Vals us uus->A.units+PyData.depthAll (B4 xs)+1<cLine->Jp A s vvs uus b
 | [],[],b,_,_,_,_,A,h,r1,r2,q1,q2,hu=>by
  cases r1.inv0;cases r2.inv0;cases q1;cases q2
  unfold ET at h
  cases h
  rfl
 | [],y::ys,b,_,_,_,_,A,h,r1,r2,q1,q2,hu=>by
  cases r1.inv0
  obtain ⟨v,r,rfl,_,_⟩:=r2.inv
  cases q1
  cases q2
  unfold ET at h
  cases h
  rfl
 | x::xs,[],b,_,_,_,_,A,h,r1,r2,q1,q2,hu=>by
  cases r2.inv0
  obtain ⟨v,r,rfl,_,_⟩:=r1.inv
  cases q1
  cases q2
  unfold ET at h
  cases h
  rfl
 | x::xs,y::ys,b,_,_,_,_,A,h,r1,r2,q1,q2,hu=>by
  obtain ⟨v,r,rfl,a1,a2⟩:=r1.inv
  obtain ⟨u,r',rfl,b1,b2⟩:=r2.inv
  cases q1 with
  | cons g1 g2 =>
   cases q2 with
   | cons k1 k2 =>
    unfold ET at h
    have hd:PyData.depthAll (B4 (x::xs))=max (toPy x).depth (PyData.depthAll (B4 xs)):=by rw [B4,PyData.depthAll]
    rw [hd] at hu
    by_cases c:(Ca x&&Ca y)=true
    ·rw [if_pos c] at h
     rw [Ab] at c
     obtain ⟨as,w1,w2⟩:=DP I x v _ c.1 a1 g1
     obtain ⟨bs,w3,w4⟩:=DP I y u _ c.2 b1 k1
     refine ⟨_,SeqAt.eqAt_reads _ _ A s _ _ as bs w1 w3 w2 w4 (by ext),?_⟩
     cases e:PyData.eqv (toPy x) (toPy y) with
     | true=>rw [e] at h;rw [if_pos rfl] at h ⊢;exact LV I xs ys b _ _ _ _ A h a2 b2 g2 k2 (by ext)
     | false=>rw [e] at h;rw [if_neg AQ] at h ⊢;exact Ki I x y b _ _ _ _ A h a1 b1 g1 k1 (by ext)
    ·rw [if_neg c] at h;cases h
end
def ltG (d e:D)(mu:Sto):Rs D:=if (toPy d).depth≤60 then (ltB d e).map λb=>(.bl b,mu) else none
theorem Sb (hu:X.A.units+64<cLine):OpV X (compareOp .Lt) ltG:=by
 intro pins s st H x y v u Q I rx ry h
 obtain ⟨th,mu,d,e,so,r1,r2,t⟩:=h
 unfold ltG at t
 by_cases c:(toPy d).depth≤60
 ·rw [if_pos c] at t
  cases e1:ltB d e with
  | none=>rw [e1] at t;exact t.no.elim
  | some b =>
   rw [e1] at t
   exact Ki I d e b x y v u X.A e1 r1 r2 rx ry (by ext) _ _ _ _ ⟨.bl b,H,I,rfl,t.ret so _ rfl⟩
 ·rw [if_neg c] at t;exact t.no.elim
end
section
variable {X:Cx} {K:Zc} {th:List Addr} {mu:Sto} {H:Hp}
theorem IK {pins:List (Addr×Obj)}{st:L2.St}{s:Shared}(I:L2.Inv X pins st H s):sysModules<s.heap.objs.size:=by
 obtain ⟨o,_,_,ho,_⟩:=I.mod.glob
 exact AD (show sysModules<mainGlobals+1 by decide) (Ax (I.bk _ _ ho))
theorem IJ {P:Program}{w:World}{H:Hp}{h:Heap}{a:Addr}{xs:List (Int×V×V)}(x:Rf a xs h):ObjOk P w H h a (En a xs):=by
 refine ⟨x,?_,λh1 h2 ⟨z,o,es,ep,ho,r⟩ k=>⟨z,o,es,ep,k o ho,r⟩⟩
 obtain ⟨_,o,es,ep,ho,r⟩:=x
 exact ⟨o,ho⟩
noncomputable def Ux:Ex:=λ_ mu=>some (.dct [] [],mu)
noncomputable def Lh:Ex:=λ_ mu=>some (.ref mu.length,mu++[.dct [] []])
theorem Qx {pins:List (Addr×Obj)}{st:L2.St}{s:Shared}(I:L2.Inv X pins st H s):Rf s.heap.objs.size [] (s.heap.push { cls:=.type "dict",data:=.dict #[] }):=
 ⟨beq_eq_false_iff_ne.mpr (Ne.symm (AJ (IK I))),_,#[],0,Av _ rfl,⟨rfl,rfl,rfl⟩,rfl,.nil,rfl⟩
theorem PU {pos:Pos}:SV X (.Dict [] [] pos) Lh:=⟨λpins s st H Q I h=>by
 obtain ⟨th,mu,ro,so,en,t⟩:=h
 have hp:H s.heap.objs.size=none:=I.hok.fresh (Ak _)
 refine wpAny_Dict_empty ⟨.ref s.heap.objs.size,_,I.laid (a:=s.heap.objs.size) (o:=En s.heap.objs.size []) (t':=s.toks) (λ_ _ q=>Af _ q) (Ak _) (IJ (Qx I)),rfl,t.retX (.newM hp _) (so.newD hp) _ ?_⟩
 unfold Rep
 exact ⟨_,rfl,by rw [← so.len];simp⟩⟩
def tupS:D->Bool
 | .tup (.str x::r)=>CY r&&decide (PyData.depthAll (B4 r)≤50)
 | _=>false
theorem Hb {d:D}(h:tupS d=true):∃ x r,d=.tup (.str x::r)∧CY r=true∧PyData.depthAll (B4 r)≤50:=by
 unfold tupS at h
 split at h
 ·rename_i x r
  rw [Ab,Al] at h
  exact ⟨x,r,rfl,h.1,h.2⟩
 ·cases h
theorem Ig {pins:List (Addr×Obj)}{st:L2.St}{s:Shared}(I:L2.Inv X pins st H s){A:Around}{fin:Bool}{Q:Bool->Shared->Prop} :
  ∀ (xs ys:List D) (b:Bool) (vs us:List V) (vvs uus:List Value) (i:Nat),ET xs ys=some b->RepL X.z th H xs vs->RepL X.z th H ys us->Vals vs vvs->Vals us uus->A.units+PyData.depthAll (B4 xs)+1<cLine ->
   (i=0->∃ x r y r',xs=.str x::r∧ys=.str y::r')->(fin=decide (xs.length<ys.length))->Q b s->PySem.W.KatLex X.prog X.w A true fin Q (vvs.zip uus) i s
 | [],[],b,_,_,_,_,i,h,r1,r2,q1,q2,hu,h0,hf,q=>by
  cases r1.inv0;cases r2.inv0;cases q1;cases q2
  unfold ET at h
  cases h
  exact PySem.W.kat_nil (by rw [hf];exact q)
 | [],y::ys,b,_,_,_,_,i,h,r1,r2,q1,q2,hu,h0,hf,q=>by
  cases r1.inv0
  obtain ⟨v,r,rfl,_,_⟩:=r2.inv
  cases q1
  cases q2
  unfold ET at h
  cases h
  exact PySem.W.kat_nil (by rw [hf,Br (by simp)];exact q)
 | x::xs,[],b,_,_,_,_,i,h,r1,r2,q1,q2,hu,h0,hf,q=>by
  cases r2.inv0
  obtain ⟨v,r,rfl,_,_⟩:=r1.inv
  cases q1
  cases q2
  unfold ET at h
  cases h
  exact PySem.W.kat_nil (by rw [hf,A1 (by simp)];exact q)
 | x::xs,y::ys,b,_,_,_,_,i,h,r1,r2,q1,q2,hu,h0,hf,q=>by
  obtain ⟨v,r,rfl,a1,a2⟩:=r1.inv
  obtain ⟨u,r',rfl,b1,b2⟩:=r2.inv
  cases q1 with
  | cons g1 g2 =>
   cases q2 with
   | cons k1 k2 =>
    unfold ET at h
    have hd:PyData.depthAll (B4 (x::xs))=max (toPy x).depth (PyData.depthAll (B4 xs)):=by rw [B4,PyData.depthAll]
    rw [hd] at hu
    by_cases c:(Ca x&&Ca y)=true
    ·rw [if_pos c] at h
     rw [Ab] at c
     obtain ⟨as,w1,w2⟩:=DP I x v _ c.1 a1 g1
     obtain ⟨bs,w3,w4⟩:=DP I y u _ c.2 b1 k1
     refine PySem.W.kat_cons (SeqAt.eqAt_reads _ _ A s _ _ as bs w1 w3 w2 w4 (by ext) _ _ _ _ ?_)
     cases e:PyData.eqv (toPy x) (toPy y) with
     | true =>
      rw [e,if_pos rfl] at h
      refine PySem.W.kat_yes (Ig I xs ys b _ _ _ _ (i+1) h a2 b2 g2 k2 (by ext) (λz=>by ext) (by rw [hf];simp) q)
     | false =>
      rw [e,if_neg AQ] at h
      refine PySem.W.kat_no ?_
      by_cases hi:i=0
      ·subst hi
       obtain ⟨x',_,y',_,e1,e2⟩:=h0 rfl
       cases e1
       cases e2
       obtain ⟨rfl,_⟩:=(show _∧_ from a1)
       obtain ⟨rfl,_⟩:=(show _∧_ from b1)
       obtain ⟨t1,rfl⟩:=g1
       obtain ⟨t2,rfl⟩:=k1
       unfold ltB at h
       cases h
       exact oneLt_str q
      ·rw [show (true&&i==0)=false by simp [hi]]
       exact PySem.W.kat_one _ _ (Ki I x y b _ _ _ _ A h a1 b1 g1 k1 (by ext) _ _ _ _ q)
    ·rw [if_neg c] at h;cases h
def Kn (ds:List D)(i j:Nat):Option Bool:=match ds[i]?,ds[j]? with
 | some d,some e=>ltB d e
 | _,_=>none
theorem Hk {pins:List (Addr×Obj)}{st:L2.St}{s:Shared}(I:L2.Inv X pins st H s):∀ {ds:List D} {vs:List V} {us:List Value},ds.all tupS=true->RepL X.z th H ds vs->Vals vs us->∃ fs,PySem.W.KatTups s.heap us fs∧fs.length=ds.length∧∀ v∈fs,∃ x t,v=.str x t
 | [],_,_,_,r,q=>by cases r.inv0;cases q;exact ⟨[],.nil,rfl,λ_ h=>nomatch h⟩
 | d::ds,_,_,h,r,q=>by
  obtain ⟨v,r',rfl,a1,a2⟩:=r.inv
  rw [List.all_cons,Ab] at h
  cases q with
  | cons q1 q2 =>
   obtain ⟨x,es,rfl,_,_⟩:=Hb h.1
   obtain ⟨fs,f1,f2,f3⟩:=Hk I h.2 a2 q2
   unfold Rep at a1
   obtain ⟨a,ws,rfl,h1,l1,_⟩:=a1
   obtain ⟨w0,wr,rfl,l2,_⟩:=RepL.inv l1
   obtain ⟨rfl,_⟩:=(show _∧_ from l2)
   cases q1
   obtain ⟨its,rv,⟨o,g1,g2,n,g3⟩,_⟩:=I.tuple h1
   cases rv with
   | cons k1 k2 =>
    obtain ⟨t,rfl⟩:=k1
    exact ⟨_::fs,.cons g1 g2 g3 rfl f1,by simp [f2],λz hz=>(AH.mp hz).elim (λe=>⟨x,t,e⟩) (f3 z)⟩
theorem RQ {pins:List (Addr×Obj)}{st:L2.St}{s:Shared}(I:L2.Inv X pins st H s){ds:List D}{vs:List V}{us:List Value}(hd:ds.all tupS=true)(r:RepL X.z th H ds vs)(q:Vals vs us){A:Around}(hu:A.units+60<cLine) :
  ∀ i j b C,Kn ds i j=some b->C b s->PySem.W.kas_ask X.prog X.w A (tuples' true) us i j C s:=λi j b C e hC=>by
 unfold Kn at e
 cases e1:ds[i]? with
 | none=>rw [e1] at e;cases e
 | some d =>
  cases e2:ds[j]? with
  | none=>rw [e1,e2] at e;cases e
  | some d' =>
   rw [e1,e2] at e
   have m1:=Ay.mp hd d (Ag e1)
   have m2:=Ay.mp hd d' (Ag e2)
   obtain ⟨x,xs,rfl,_,dx⟩:=Hb m1
   obtain ⟨y,ys,rfl,_,dy⟩:=Hb m2
   obtain ⟨v,ev,rv⟩:=r.get e1
   obtain ⟨v',ev',rv'⟩:=r.get e2
   obtain ⟨u,eu,ru⟩:=q.get ev
   obtain ⟨u',eu',ru'⟩:=q.get ev'
   unfold PySem.W.kas_ask
   rw [show us.getD i Value.none=u by rw [AG,eu];rfl,show us.getD j Value.none=u' by rw [AG,eu'];rfl]
   unfold Rep at rv rv'
   obtain ⟨a,ws,rfl,h1,l1,_⟩:=rv
   obtain ⟨a',ws',rfl,h1',l1',_⟩:=rv'
   cases ru
   cases ru'
   obtain ⟨its,rw1,⟨o,g1,g2,n,g3⟩,_⟩:=I.tuple h1
   obtain ⟨its',rw2,⟨o',g1',g2',n',g3'⟩,_⟩:=I.tuple h1'
   unfold ltB at e
   refine PySem.W.kat_lt g1 g3 g1' g3' ?_
   have hx:PyData.depthAll (B4 (.str x::xs))≤50:=by
    rw [B4,PyData.depthAll]
    show max 0 _≤50
    ext
   have:=Ig I (A:=A) (fin:=decide (its.toArray.size<its'.toArray.size)) (Q:=C) (.str x::xs) (.str y::ys) b ws ws' its its' 0 e l1 l1' rw1 rw2 (by ext) (λ_=>⟨x,xs,y,ys,rfl,rfl⟩) (by rw [Ap,Ap,← rw1.length,← rw2.length,l1.len,l1'.len]) hC
   simpa using this
end
section
variable {prog:Program} {w:World} {A:Around} {E:Value->Shared->Prop} {s:Shared}
theorem Lc {T:String}(hT:T="list"∨T="tuple"){l:Addr}{ob:Obj}{zs:List Value}{n:Nat}{Q:List Value->Shared->Prop}(ho:s.heap.get? l=some ob)(hc:ob.cls=.type T)(hd:ob.data=.seq zs.toArray n)
  (h:Q zs { s with heap:=(s.heap.push (seqObj "list" #[] 0)).update s.heap.objs.size (Obj.mapSeq (·++zs.toArray)) }) (hz:zs.length≤sizeLine):wpAny (model prog w) A (collect (.ref l)) Q E s:=by
 unfold collect
 refine Aa (wpAny_runValue (codeAny_builtin entry_proto_collect' ?_))
 show wpAny _ _ (do again (.builtin "list.__iadd__" ⟨[← newList [],.ref l],[]⟩)) _ _ s
 refine Aa (wpAny_newList (Ac (And.intro (Code.quiet_builtin _ (by symm)) (codeAny_builtin entry_list_iadd' ?_))))
 show wpAny _ _ (Builtin.List.listExtendWith (.ref s.heap.objs.size) (.ref l) (.ref s.heap.objs.size)) _ _ { s with heap:=s.heap.push (seqObj "list" #[] 0) }
 have g:(s.heap.push (seqObj "list" #[] 0)).get? l=some ob:=Af _ ho
 (unfold Builtin.List.listExtendWith)
 refine Aa (wpAny_typeOf (T:=T) ⟨ob,g,hc⟩ ?_)
 rw [if_pos (by rcases hT with rfl|rfl<;>simp)]
 refine Aa (listItems_at g hd (Aa (listItems_at (xs:=#[]) (n:=0) (Av _ rfl) rfl ?_)))
 rw [if_neg (by simp)]
 refine Aa (listUpdate_at (xs:=#[]) (n:=0) (Av _ rfl) rfl (Ac ?_) (AW _) (by
  show ((#[]:Array Value)++zs.toArray).size≤sizeLine+1
  simp only [BH,Ap,List.length_nil]
  ext))
 show wpAny (model prog w) A (load s.heap.objs.size >>= λo=>match o.data with
   | .seq xs _=>pure xs.toList
   | _=>unsupported "internal:collect") Q E { s with heap:=(s.heap.push (seqObj "list" #[] 0)).update s.heap.objs.size (Obj.mapSeq (·++zs.toArray)) }
 refine Aa (wpAny_load (get?_update_seq (Av _ rfl) _) ?_)
 show wpAny _ _ (pure ((#[]:Array Value)++zs.toArray).toList) Q E _
 have e0:((#[]:Array Value)++zs.toArray).toList=zs:=by simp
 rw [e0]
 exact Ac h
theorem N4 {a:Addr}{zs:List Value}{n:Nat}{P:PySem.Fin->Shared->Prop}(ho:s.heap.get? a=some (seqObj "list" zs.toArray n))(h2:zs.length<2)
  (h:P (.done (.ret .none)) { s with heap:=sortedHeap s.heap a zs zs.toArray }):wpAny (model prog w) A (Builtin.«list.sort» ⟨[.ref a],[]⟩) P E s:=by
 rw [list_sort_plain]
 refine Aa (listItems_at ho rfl (Aa (listUpdate_at ho rfl ?_ (by rw [Ap,AR];ext) (AW _))))
 obtain ⟨n1,ho1⟩:∃ n1,(s.heap.update a (Obj.mapSeq λ_=>#[])).get? a=some (seqObj "list" #[] n1):=⟨_,get?_update_seq ho λ_=>#[]⟩
 refine Aa (seqEpoch_at ho1 rfl (Aa (wpAny_newTuple (Aa (wpAny_newList (AS ?_) (AW _))) (by show zs.length≤_;rw [AR];ext))))
 have ho2:(((s.heap.update a (Obj.mapSeq λ_=>#[])).push (seqObj "tuple" zs.toArray 0)).push (seqObj "list" #[] 0)).get? a=some (seqObj "list" #[] n1):=Af _ (Af _ ho1)
 show wpAny (model prog w) A _ P E { s with heap:=((s.heap.update a (Obj.mapSeq λ_=>#[])).push (seqObj "tuple" zs.toArray 0)).push (seqObj "list" #[] 0) }
 dsimp only
 have n2:zs.toArray.size<2:=by rw [Ap];exact h2
 rw [if_pos n2,if_pos n2]
 refine Aa (Ac ?_)
 rw [StateT.run_pure]
 refine Aa (Ac ?_)
 dsimp only
 have e0:(arrOf (SortSt.mk' general' (zs.toArray.zip zs.toArray) #[] 7 none)).map (·.2)=zs.toArray:=by
  show (zs.toArray.zip zs.toArray).map (·.2)=zs.toArray
  rw [show zs.toArray.zip zs.toArray=(zs.zip zs).toArray by simp,List.map_toArray,List.map_snd_zip (Ak _)]
 rw [e0]
 refine Aa (seqEpoch_at ho2 rfl (Aa (listUpdate_at ho2 rfl ?_ (AW _) (by
  show zs.toArray.size≤sizeLine+1
  rw [Ap,AR]
  ext))))
 simp only [bne_self_eq_false,AZ,if_false]
 exact Ac h
end
end PV
namespace PV
open PySem PyProof.Rows
structure Pre (n:Nat) (ask:Nat->Nat->Option Bool) (lt:Nat->Nat->Bool):Prop where
 tot:∀ i j,i<n->j<n->ask i j=some (lt i j)
 asym:∀ i j,i<n->j<n->lt i j=true->lt j i=false
 trans:∀ i j k,i<n->j<n->k<n->lt j i=false->lt k j=false->lt k i=false
end PV
namespace PV
open PySem L2 PySem.Spec PyProof.Rows
section
variable {X:Cx} {K:Zc} {th:List Addr} {mu:Sto} {H:Hp}
theorem CallV.or {f:Value}{g g':Fn}(h:CallV X f g)(h':CallV X f g'):CallV X f λds mu=>match g ds mu with|some r=>some r|none=>g' ds mu:=by
 intro pins s st H xs us Q I r q
 obtain ⟨th,mu,ds,so,rd,t⟩:=q
 cases e:g ds mu with
 | some p =>
  refine h pins s st H xs us Q I r ⟨th,mu,ds,so,rd,?_⟩
  rw [e];simpa only [e] using t
 | none =>
  refine h' pins s st H xs us Q I r ⟨th,mu,ds,so,rd,?_⟩
  simpa only [e] using t
end
mutual
theorem EO:∀ {d:D},hsh d=true->Ca d=true
 | .non,_=>rfl
 | .int _,_=>rfl
 | .str _,_=>rfl
 | .tup ds,h=>by unfold hsh at h;unfold Ca;exact Im h
 | .bl _,h=>nomatch h
 | .lst _,h=>nomatch h
 | .dct _ _,h=>nomatch h
 | .set _,h=>nomatch h
 | .ref _,h=>nomatch h
theorem Im:∀ {ds:List D},Fm ds=true->CY ds=true
 | [],_=>rfl
 | d::ds,h=>by
  unfold Fm at h
  rw [Ab] at h
  unfold CY
  rw [EO h.1,Im h.2]
  rfl
end
mutual
theorem Gz:∀ {d:D},hsh d=true->(toPy d).depth=dpt d
 | .non,_=>rfl
 | .int _,_=>rfl
 | .str _,_=>rfl
 | .tup ds,h=>by unfold hsh at h;unfold toPy PyData.depth dpt;rw [LO h]
 | .bl _,h=>nomatch h
 | .lst _,h=>nomatch h
 | .dct _ _,h=>nomatch h
 | .set _,h=>nomatch h
 | .ref _,h=>nomatch h
theorem LO:∀ {ds:List D},Fm ds=true->PyData.depthAll (B4 ds)=Hs ds
 | [],_=>rfl
 | d::ds,h=>by
  unfold Fm at h
  rw [Ab] at h
  unfold B4 PyData.depthAll Hs
  rw [Gz h.1,LO h.2]
end
mutual
theorem Fh:∀ {d e:D},hsh d=true->hsh e=true->PyData.eqv (toPy d) (toPy e)=decide (d=e)
 | .tup ds,.tup es,h,g=>by
  unfold hsh at h g
  unfold toPy PyData.eqv
  rw [JO h g]
  simp
 | .non,e,_,g=>by cases e<;>first|rfl|(simp [toPy,PyData.eqv];done)|cases g
 | .int i,.int j,_,_=>by by_cases c:i=j<;>simp [toPy,PyData.eqv,c]
 | .str i,.str j,_,_=>by by_cases c:i=j<;>simp [toPy,PyData.eqv,c]
 | .int _,.non,_,g=>by simp [toPy,PyData.eqv]
 | .int _,.str _,_,g=>by simp [toPy,PyData.eqv]
 | .int _,.tup _,_,g=>by simp [toPy,PyData.eqv]
 | .str _,.non,_,g=>by simp [toPy,PyData.eqv]
 | .str _,.int _,_,g=>by simp [toPy,PyData.eqv]
 | .str _,.tup _,_,g=>by simp [toPy,PyData.eqv]
 | .int _,.bl _,_,g=>nomatch g
 | .int _,.lst _,_,g=>nomatch g
 | .int _,.dct _ _,_,g=>nomatch g
 | .int _,.set _,_,g=>nomatch g
 | .int _,.ref _,_,g=>nomatch g
 | .str _,.bl _,_,g=>nomatch g
 | .str _,.lst _,_,g=>nomatch g
 | .str _,.dct _ _,_,g=>nomatch g
 | .str _,.set _,_,g=>nomatch g
 | .str _,.ref _,_,g=>nomatch g
 | .tup _,.non,_,_=>by simp [toPy,PyData.eqv]
 | .tup _,.int _,_,_=>by simp [toPy,PyData.eqv]
 | .tup _,.str _,_,_=>by simp [toPy,PyData.eqv]
 | .tup _,.bl _,_,g=>nomatch g
 | .tup _,.lst _,_,g=>nomatch g
 | .tup _,.dct _ _,_,g=>nomatch g
 | .tup _,.set _,_,g=>nomatch g
 | .tup _,.ref _,_,g=>nomatch g
 | .bl _,_,h,_=>nomatch h
 | .lst _,_,h,_=>nomatch h
 | .dct _ _,_,h,_=>nomatch h
 | .set _,_,h,_=>nomatch h
 | .ref _,_,h,_=>nomatch h
theorem JO:∀ {ds es:List D},Fm ds=true->Fm es=true->PyData.eqvAll (B4 ds) (B4 es)=decide (ds=es)
 | [],[],_,_=>by simp [B4,PyData.eqvAll]
 | [],_::_,_,_=>by simp [B4,PyData.eqvAll]
 | _::_,[],_,_=>by simp [B4,PyData.eqvAll]
 | d::ds,e::es,h,g=>by
  unfold Fm at h g
  rw [Ab] at h g
  unfold B4 PyData.eqvAll
  rw [Fh h.1 g.1,JO h.2 g.2]
  by_cases c:d=e<;>by_cases c':ds=es<;>simp [c,c']
end
theorem DO {d:D}(h:Fj d=true):hsh d=true∧dpt d≤8:=by
 unfold Fj at h
 rw [Ab,Al] at h
 exact h
structure Hd (h:Heap) (d:D) (u:Value):Prop where
 k:Fj d=true
 ok:(toPy d).canLay0=true
 rd:∃ as,Reads h u (toPy d) as
theorem JN {X:Cx}{th:List Addr}{H:Hp}{pins:List (Addr×Obj)}{st:L2.St}{s:Shared}(I:L2.Inv X pins st H s){d:D}{v:V}{u:Value}(k:Fj d=true)(r:Rep X.z th H d v)(q:RelV v u):Hd s.heap d u:=by
 obtain ⟨as,h1,h2⟩:=DP I d v u (EO (DO k).1) r q
 exact ⟨k,h2,as,h1⟩
section
variable {prog:Program} {w:World} {E:Value->Shared->Prop}
mutual
theorem OH:∀ (d:D) (u:Value) (as:List Addr) (A:Around) (s:Shared) (Q:Int->Shared->Prop),hsh d=true->Reads s.heap u (toPy d) as->A.units+dpt d<cLine->(∀ tk,Q (CT w d) { s with toks:=tk })->wpAny (model prog w) A (pyHash u) Q E s
 | .non,_,as,A,s,Q,_,x,hu,h=>by
  cases x
  exact PySem.W.pyHash_slot (T:="NoneType") rfl F.slot_NoneType_hash F.entry_NoneType_hash (F.args_NoneType_hash_1 _) (beq_builtin_none _) (.inr (by unfold dpt at hu;ext)) (Aa (Ac (Aa (wpAny_mkInt (Ac ⟨_,_,rfl,h _⟩)))))
 | .int i,_,as,A,s,Q,_,x,_,h=>by cases x;exact wpAny_pyHash_int (h _)
 | .str y,_,as,A,s,Q,_,x,_,h=>by cases x;exact wpAny_pyHash_str (h _)
 | .tup ds,_,as,A,s,Q,hk,x,hu,h=>by
  unfold toPy at x
  cases x with
  | @tuple a o vs n _ _ g1 g2 g3 hw =>
   unfold dpt at hu
   refine PySem.W.pyHash_slot (T:="tuple") ⟨_,g1,g2⟩ F.slot_tuple_hash F.entry_tuple_hash (F.args_tuple_hash_1 _) (beq_builtin_none _) (.inr (by ext)) ?_
   refine (?_:wpAny _ _ (Builtin.Tuple.tupleItemsOf (.ref a) >>= _) _ _ s)
   refine Aa (wpAny_tupleItemsOf g1 g3 (Aa ?_))
   rw [← Array.forIn_toList]
   refine LB ds vs.toList as A.in1 s #[] _ (by unfold hsh at hk;exact hk) hw (by rw [Around.in1_units];ext) λtk b hb=>?_
   refine (?_:wpAny _ _ (retInt (Builtin.Tuple.tupleHashOf b.toList)) _ _ _)
   rw [hb]
   exact Aa (wpAny_mkInt (Ac ⟨_,_,rfl,h _⟩))
 | .bl _,_,_,_,_,_,h,_,_,_=>nomatch h
 | .lst _,_,_,_,_,_,h,_,_,_=>nomatch h
 | .dct _ _,_,_,_,_,_,h,_,_,_=>nomatch h
 | .set _,_,_,_,_,_,h,_,_,_=>nomatch h
 | .ref _,_,_,_,_,_,h,_,_,_=>nomatch h
theorem LB:∀ (ds:List D) (vs:List Value) (as:List Addr) (A:Around) (s:Shared) (b:Array Int) (Q:Array Int->Shared->Prop),Fm ds=true->ReadsAll s.heap vs (B4 ds) as->A.units+Hs ds<cLine ->
  (∀ tk b',b'.toList=b.toList++DT w ds->Q b' { s with toks:=tk }) ->
  wpAny (model prog w) A (forIn vs b λx r=>do let h←pyHash x;pure PUnit.unit;pure (ForInStep.yield (r.push h))) Q E s
 | [],_,as,A,s,b,Q,_,x,_,h=>by unfold B4 at x;cases x;exact Ac (h s.toks b (by simp [DT]))
 | d::ds,_,as,A,s,b,Q,hk,x,hu,h=>by
  unfold B4 at x
  cases x with
  | cons x1 x2 =>
   unfold Fm at hk
   rw [Ab] at hk
   unfold Hs at hu
   rw [List.forIn_cons]
   refine Aa (Aa (OH d _ _ A s _ hk.1 x1 (by ext) λtk=>Aa (Ac (Ac ?_))))
   exact LB ds _ _ A { s with toks:=tk } _ Q hk.2 x2 (by ext) λtk' b' hb=>h tk' b' (by simp [hb,DT])
end
theorem Hd.hash {A:Around}{s:Shared}{d:D}{u:Value}{Q:Int->Shared->Prop}(x:Hd s.heap d u)(hu:A.units+8<cLine)(h:∀ tk,Q (CT w d) { s with toks:=tk }):wpAny (model prog w) A (pyHash u) Q E s:=by
 obtain ⟨as,r⟩:=x.rd
 have:=DO x.k
 exact OH d u as A s Q this.1 r (by ext) h
theorem Hd.eq {A:Around}{s:Shared}{d e:D}{u v:Value}{Q:Bool->Shared->Prop}(x:Hd s.heap d u)(y:Hd s.heap e v)(hu:A.units+8<cLine)(h:Q (decide (d=e)) s):wpAny (model prog w) A (eqBool u v) Q E s:=by
 obtain ⟨as,r⟩:=x.rd
 obtain ⟨bs,r'⟩:=y.rd
 have k1:=DO x.k
 have k2:=DO y.k
 refine SeqAt.eqAt_reads _ _ A s u v as bs r r' x.ok y.ok (by rw [Gz k1.1,Gz k2.1];ext) prog w E Q ?_
 rw [Fh k1.1 k2.1]
 exact h
mutual
theorem LX:∀ (n:Nat) (d:D) (u:Value) (as:List Addr) (A:Around) (s:Shared) (Q:Bool->Shared->Prop),hsh d=true->dpt d≤n->Reads s.heap u (toPy d) as->Q true s->wpAny (model prog w) A (eqIsQuiet n u) Q E s
 | n,.non,_,as,A,s,Q,_,_,x,h=>by cases x;rw [eqIsQuiet_byValue n rfl];exact Ac h
 | n,.int _,_,as,A,s,Q,_,_,x,h=>by cases x;rw [eqIsQuiet_byValue n rfl];exact Ac h
 | n,.str _,_,as,A,s,Q,_,_,x,h=>by cases x;rw [eqIsQuiet_byValue n rfl];exact Ac h
 | n,.tup ds,_,as,A,s,Q,hk,hn,x,h=>by
  unfold toPy at x
  cases x with
  | @tuple a o vs k _ _ g1 g2 g3 hw =>
   unfold dpt at hn
   obtain ⟨m,rfl⟩:∃ m,n=m+1:=⟨n-1,by ext⟩
   have hT:s.TypeIs (.ref a) "tuple":=⟨o,g1,g2⟩
   unfold eqIsQuiet
   refine Aa (wpAny_specialOf hT F.slot_tuple_eq.lookup ?_)
   refine (?_:wpAny _ _ (isInstance (.ref a) (.type "tuple") >>= _) _ _ s)
   refine Aa (wpAny_isInstance hT isSubtype_tuple_tuple ?_)
   simp only [Bool.not_true,AZ,if_false]
   refine Aa (wpAny_seqItems g1 g3 (Aa ?_))
   refine (?_:wpAny _ _ (forIn vs _ _) _ _ s)
   rw [← Array.forIn_toList]
   exact J5 m ds vs.toList as A s _ (by unfold hsh at hk;exact hk) (by ext) hw (Ac h)
 | _,.bl _,_,_,_,_,_,h,_,_,_=>nomatch h
 | _,.lst _,_,_,_,_,_,h,_,_,_=>nomatch h
 | _,.dct _ _,_,_,_,_,_,h,_,_,_=>nomatch h
 | _,.set _,_,_,_,_,_,h,_,_,_=>nomatch h
 | _,.ref _,_,_,_,_,_,h,_,_,_=>nomatch h
theorem J5:∀ (m:Nat) (ds:List D) (vs:List Value) (as:List Addr) (A:Around) (s:Shared) (Q:Option Bool×PUnit->Shared->Prop),Fm ds=true->Hs ds≤m->ReadsAll s.heap vs (B4 ds) as->Q (none,PUnit.unit) s ->
  wpAny (model prog w) A (forIn vs ((none,PUnit.unit):Option Bool×PUnit) λy r=>do
    let q←eqIsQuiet m y
    if (!q)=true then pure (ForInStep.done (some false,PUnit.unit)) else pure (ForInStep.yield (none,PUnit.unit))) Q E s
 | m,[],_,as,A,s,Q,_,_,x,h=>by unfold B4 at x;cases x;exact Ac h
 | m,d::ds,_,as,A,s,Q,hk,hn,x,h=>by
  unfold B4 at x
  cases x with
  | cons x1 x2 =>
   unfold Fm at hk
   rw [Ab] at hk
   unfold Hs at hn
   rw [List.forIn_cons]
   refine Aa (Aa (LX m d _ _ A s _ hk.1 (by ext) x1 ?_))
   simp only [Bool.not_true,AZ,if_false]
   exact Ac (J5 m ds _ _ A s Q hk.2 (by ext) x2 h)
end
theorem Hd.quiet {A:Around}{s:Shared}{d:D}{u:Value}{Q:Bool->Shared->Prop}(x:Hd s.heap d u)(h:Q true s):wpAny (model prog w) A (eqIsQuiet 8 u) Q E s:=by
 obtain ⟨as,r⟩:=x.rd
 have k:=DO x.k
 exact LX 8 d u as A s Q k.1 k.2 r h
end
def EnK (w:World)(h:Heap)(k:D)(e:DictEntry):Prop:=e.hash=CT w k∧Hd h k e.key
theorem Du {α β:Type}{F:α->β->Prop}:∀ {xs:List α} {ys:List β},Paired F xs ys->∀ j:Nat,(∀ x,xs[j]? = some x->∃ y,ys[j]? = some y∧F x y)∧(∀ y,ys[j]? = some y->∃ x,xs[j]? = some x∧F x y)
 | _,_,.nil,j=>⟨λx e=>by simp at e,λy e=>by simp at e⟩
 | _,_,.cons r t,0=>⟨λx e=>by simp at e;subst e;exact ⟨_,rfl,r⟩,λy e=>by simp at e;subst e;exact ⟨_,rfl,r⟩⟩
 | _,_,.cons r t,j+1=>by simpa using Du t j
theorem DM {α β:Type}{F:α->β->Prop}:∀ {xs:List α} {ys:List β},Paired F xs ys->xs.length=ys.length
 | _,_,.nil=>rfl
 | _,_,.cons _ t=>by simp [DM t]
theorem M5 {h:Heap}{k:D}{y:Str}{t:Tok}(x:Hd h k (.str y t)):k=.str y:=by
 obtain ⟨as,r⟩:=x.rd
 have hk:=(DO x.k).1
 cases k<;>first|(cases hk;done)|(unfold toPy at r;cases r;done)|(unfold toPy at r;cases r;rfl)
theorem Rj {h:Heap}{k k':D}{u:Value}(x:Hd h k u)(y:Hd h k' u):k=k':=by
 obtain ⟨as,r⟩:=x.rd
 obtain ⟨bs,r'⟩:=y.rd
 have hk:=(DO x.k).1
 have hk':=(DO y.k).1
 have e:toPy k=toPy k':=SeqAt.Reads.unique _ _ _ _ _ x.ok r r'
 have:=Fh hk hk'
 rw [← e,Fh hk hk] at this
 simpa using this
theorem QF {ks:List D}(hn:ks.Nodup){i j:Nat}{k:D}(a:ks[i]? = some k)(b:ks[j]? = some k):i=j:=by
 obtain ⟨hi,ei⟩:=Ad.mp a
 exact (List.getElem?_inj hi hn).mp (a.trans b.symm)
section
variable {prog:Program} {w:World} {A:Around} {E:Value->Shared->Prop} {s:Shared}
theorem EW {α:Type}{M:Model}{c:Prop} [Decidable c]{x y:Sem α}{Q:α->Shared->Prop}(h1:c->wpAny M A x Q E s)(h2:¬ c->wpAny M A y Q E s):wpAny M A (if c then x else y) Q E s:=by
 by_cases h:c
 ·rw [if_pos h];exact h1 h
 ·rw [if_neg h];exact h2 h
theorem O7 {k:D}{u:Value}{stored:List Value}{Q:Bool->Shared->Prop}(hk:Hd s.heap k u)(hst:∀ v∈stored,∃ k',Hd s.heap k' v)(h:Q false s):wpAny (model prog w) A (tableMayTell u stored) Q E s:=by
 unfold tableMayTell
 split
 ·exact Ac h
 ·refine Aa (hk.quiet ?_)
  simp only [Bool.not_true,AZ,if_false]
  refine Aa (wpAny_forIn_list _ (λrest r s'=>s'=s∧r=(none,PUnit.unit)∧∀ v∈rest,∃ k',Hd s.heap k' v) _ ?_ ?_ _ _ ⟨rfl,rfl,hst⟩)
  ·rintro x rest r s' ⟨rfl,rfl,hr⟩
   obtain ⟨k',hb⟩:=hr x List.mem_cons_self
   refine Aa (hb.quiet ?_)
   simp only [Bool.not_true,AZ,if_false]
   exact Ac ⟨rfl,rfl,λv hv=>hr v (Bu _ hv)⟩
  ·rintro r s' ⟨rfl,rfl,_⟩;exact Ac h
theorem mS {α:Type}{M:Model}{u:Value}{f:Str->Tok->Sem α}{g:Value->Sem α}{Q:α->Shared->Prop}(h1:∀ x t,u=.str x t->wpAny M A (f x t) Q E s)(h2:∀ v,wpAny M A (g v) Q E s):wpAny M A (isExactStrKey.match_1 (λ_=>Sem α) u f g) Q E s:=by
 cases u<;>first|exact h1 _ _ rfl|exact h2 _
theorem mR {α:Type}{M:Model}{u:Value}{f:Addr->Sem α}{g:Value->Sem α}{Q:α->Shared->Prop}(h1:∀ b,u=.ref b->wpAny M A (f b) Q E s)(h2:∀ v,wpAny M A (g v) Q E s):wpAny M A (carriedByValue.match_1 (λ_=>Sem α) u f g) Q E s:=by
 cases u<;>first|exact h1 _ rfl|exact h2 _
theorem mO {α:Type}{M:Model}{o:Option DictEntry}{e:DictEntry}{f:DictEntry->Sem α}{g:Option DictEntry->Sem α}{Q:α->Shared->Prop}(h:o=some e)(h1:wpAny M A (f e) Q E s):wpAny M A (dictWalkPlain.match_1 (λ_=>Sem α) o f g) Q E s:=by
 rw [h];exact h1
theorem IC {a:Addr}{o:Obj}{es:Array DictEntry}{ep:Nat}{ks:List D}{k:D}{u:Value}{Q:Option Nat->Shared->Prop}(hu:A.units+8<cLine)(hk:Hd s.heap k u)(ho:s.heap.get? a=some o)(hd:o.data=.dict es ep)
  (he:Paired (EnK w s.heap) ks es.toList) (hn:ks.Nodup) (h0:k∉ks->Q none s) (h1:∀ j,ks[j]? = some k->Q (some j) s):wpAny (model prog w) A (dictFind a u (CT w k)) Q E s:=by
 have hat:∀ j e,es[j]? = some e->∃ k',ks[j]? = some k'∧EnK w s.heap k' e:=λj e q=>(Du he j).2 e (by rw [Ah];exact q)
 have hto:∀ j k',ks[j]? = some k'->∃ e,es[j]? = some e∧EnK w s.heap k' e:=λj k' q=>by
  obtain ⟨e,e1,e2⟩:=(Du he j).1 k' q
  exact ⟨e,by rw [← Ah];exact e1,e2⟩
 have hsz:es.size=ks.length:=by rw [DM he,Array.length_toList]
 have hno:(∀ j,ks[j]?≠some k)->k∉ks:=λq z=>by obtain ⟨j,e⟩:=AO.mp z;exact q j e
 unfold dictFind
 try with_reducible refine AS ?_
 refine Aa (Bw ho hd ?_)
 have hp:∀ j,ks[j]? = some k->(es[j]?.map (λe:DictEntry=>e.hash)==some (CT w k))=true:=λj q=>by
  obtain ⟨e,e1,e2,_⟩:=hto j k q
  rw [e1];simp [e2]
 have walk:wpAny (model prog w) A (dictWalkPlain a u (CT w k) es (placesWithHash es.size (λi=>es[i]?.map (λe:DictEntry=>e.hash)) (CT w k))) Q E s:=by
  unfold dictWalkPlain
  refine Aa (wpAny_forIn_list _ (λrest b s'=>s'=s∧b=(none,PUnit.unit)∧∃ i,rest=(List.range' i (es.size-i)).filter (λi=>es[i]?.map (λe:DictEntry=>e.hash)==some (CT w k))∧i≤es.size∧∀ j,j<i->ks[j]?≠some k) _ ?_ ?_ _ _
   ⟨rfl,rfl,0,by rw [placesWithHash,List.range_eq_range',Nat.sub_zero],AW _,λj z=>absurd z (Nat.not_lt_zero _)⟩)
  ·rintro x rest b s' ⟨rfl,rfl,i,hr,hi,hH⟩
   obtain ⟨hix,hxn,hpx,hskip,hrest⟩:=filter_range'_cons _ _ _ _ _ hr.symm
   have hlt:x<es.size:=by ext
   have ex:es[x]? = some es[x]:=AF hlt
   obtain ⟨k',e1,e2,e3⟩:=hat x _ ex
   rw [ex] at hpx
   have hh:es[x].hash=CT w k:=by simpa using hpx
   have hh':(es[x].hash==CT w k)=true:=by simpa using hh
   have nx:∀ j,j<x->ks[j]?≠some k:=λj hj q=>by
    rcases Nat.lt_or_ge j i with z|z
    ·exact hH j z q
    ·have:=hskip j z hj;rw [hp j q] at this;cases this
   refine mO ex (EW (λ_=>Aa (BB ho hd (Aa (e3.eq hk hu (Aa (BB ho hd (EW (λz=>absurd z (by simp)) λ_=>?_))))))) λz=>absurd hh' z)
   refine EW (λc=>?_) λc=>?_
   ·exact Aa (Bc (Ac (Ac (h1 x ((of_decide_eq_true c)▸e1)))))
   ·refine Aa (Bc (Ac ⟨rfl,rfl,x+1,by rw [hrest];congr 2;ext,hlt,λj hj q=>?_⟩))
    rcases Nat.lt_or_ge j x with z|z
    ·exact nx j z q
    ·have:j=x:=by ext
     rw [this,e1] at q
     exact c (Br (AB q))
  ·rintro b s' ⟨rfl,rfl,i,hr,hi,hH⟩
   refine Ac (h0 (hno λj q=>?_))
   rcases Nat.lt_or_ge j i with z|z
   ·exact hH j z q
   ·have hj:j<es.size:=by rw [hsz];exact (Ad.mp q).1
    have:=List.filter_eq_nil_iff.mp hr.symm j (List.mem_range'_1.mpr ⟨z,by ext⟩)
    exact this (hp j q)
 have hst:∀ v∈(placesWithHash es.size (λi=>es[i]?.map (λe:DictEntry=>e.hash)) (CT w k)).filterMap (λi=>es[i]?.map (λe:DictEntry=>e.key)),∃ k',Hd s.heap k' v:=λv hv=>by
  obtain ⟨i,_,hi⟩:=List.mem_filterMap.mp hv
  cases ei:es[i]? with
  | none=>rw [ei] at hi;cases hi
  | some e =>
   rw [ei] at hi
   obtain rfl:e.key=v:=by simpa using hi
   obtain ⟨k',_,_,q⟩:=hat i e ei
   exact ⟨k',q⟩
 have hany:∀ b,u=.ref b->¬ (es.any λe=>e.key==u&&e.hash != CT w k)=true:=λb hb=>by
  rw [← Array.any_toList,List.any_eq_true]
  rintro ⟨e,hin,hc⟩
  obtain ⟨j,ej⟩:=AO.mp hin
  obtain ⟨k',_,q1,q2⟩:=hat j e (by rw [← Ah];exact ej)
  rw [Ab,bne_iff_ne] at hc
  have ek:e.key=u:=eq_of_beq hc.1
  rw [ek] at q2
  exact hc.2 (by rw [q1,Rj q2 hk])
 have str:∀ x t,u=.str x t->(es.all λe=>isExactStrKey e.key)=true->wpAny (model prog w) A (foundByValue a u es x) Q E s:=λx t hux hall=>by
  subst hux
  have kx:=M5 hk
  subst kx
  have hiff:∀ e∈es.toList,∀ k',Hd s.heap k' e.key->(e.key.isStr x=true ↔ k'=.str x):=λe hm k' q=>by
   rw [← Array.all_toList,Ay] at hall
   have:=hall e hm
   cases ek:e.key<;>rw [ek] at this q<;>first|(cases this;done)|skip
   rename_i y ty
   rw [M5 q]
   show (y==x)=true ↔ _
   simp
  have hidx:es.findIdx? (λe=>e.key.isStr x)=es.toList.findIdx? (λe=>e.key.isStr x):=by cases es;simp
  unfold foundByValue
  rw [hidx]
  cases hr:es.toList.findIdx? (λe=>e.key.isStr x) with
  | none =>
   refine Ac (h0 (hno λj q=>?_))
   obtain ⟨e,e1,e2,e3⟩:=hto j _ q
   have hm:e∈es.toList:=Ag (by rw [Ah];exact e1)
   have:=List.findIdx?_eq_none_iff.mp hr e hm
   rw [(hiff e hm _ e3).mpr rfl] at this
   cases this
  | some j =>
   obtain ⟨hj,hpj,_⟩:=List.findIdx?_eq_some_iff_getElem.mp hr
   have he':es[j]? = some es.toList[j]:=by rw [← Ah];exact Am hj
   obtain ⟨k',e1,e2,e3⟩:=hat j _ he'
   have kk:=(hiff _ (Bl hj) _ e3).mp hpj
   subst kk
   dsimp only
   rw [he']
   dsimp only
   refine Aa (BB ho hd (Aa (e3.eq hk hu (Aa (BB ho hd ?_)))))
   rw [if_neg (by simp),Br rfl]
   exact Aa (Bc (Ac (h1 j e1)))
 suffices g:wpAny (model prog w) A _ Q E s from mS (λx t hx=>EW (λhall=>str x t hx hall) λ_=>g) λ_=>g
 refine EW (λ_=>walk) λ_=>?_
 suffices g:wpAny (model prog w) A _ Q E s from mR (λb hb=>EW (λz=>absurd z (hany b hb)) λ_=>g) λ_=>g
 suffices g:wpAny (model prog w) A _ Q E s from EW (λ_=>Aa (Ac g)) λ_=>Aa (O7 hk hst g)
 refine EW (λz=>absurd z (by simp)) λ_=>?_
 refine Aa (wpAny_forIn_list _ (λrest b s'=>s'=s∧∃ i hit,b=(none,hit)∧rest=(List.range' i (es.size-i)).filter (λi=>es[i]?.map (λe:DictEntry=>e.hash)==some (CT w k))∧i≤es.size ∧
   ((hit=none∧∀ j,j<i->ks[j]?≠some k)∨∃ j,hit=some j∧j<i∧ks[j]? = some k)) _ ?_ ?_ _ _
  ⟨rfl,0,none,rfl,by rw [placesWithHash,List.range_eq_range',Nat.sub_zero],AW _,.inl ⟨rfl,λj z=>absurd z (Nat.not_lt_zero _)⟩⟩)
 ·rintro x rest b s' ⟨rfl,i,hit,rfl,hr,hi,hH⟩
  obtain ⟨hix,hxn,hpx,hskip,hrest⟩:=filter_range'_cons _ _ _ _ _ hr.symm
  have hlt:x<es.size:=by ext
  have hrest':rest=(List.range' (x+1) (es.size-(x+1))).filter (λi=>es[i]?.map (λe:DictEntry=>e.hash)==some (CT w k)):=by rw [hrest];congr 2;ext
  have ex:es[x]? = some es[x]:=AF hlt
  obtain ⟨k',e1,e2,e3⟩:=hat x _ ex
  rw [ex] at hpx
  have hh:es[x].hash=CT w k:=by simpa using hpx
  have hh':(es[x].hash==CT w k)=true:=by simpa using hh
  have hx:(hit=none∧∀ j,j<x->ks[j]?≠some k)∨∃ j,hit=some j∧j<x∧ks[j]? = some k:=by
   rcases hH with ⟨z0,hno'⟩|⟨j,z1,hji,hj⟩
   ·refine .inl ⟨z0,λj hj q=>?_⟩
    rcases Nat.lt_or_ge j i with z|z
    ·exact hno' j z q
    ·have:=hskip j z hj;rw [hp j q] at this;cases this
   ·exact .inr ⟨j,z1,by ext,hj⟩
  refine mO ex (EW (λ_=>Aa (BB ho hd (Aa (e3.eq hk hu (Aa (BB ho hd (EW (λz=>absurd z (by simp)) λ_=>?_))))))) λz=>absurd hh' z)
  refine EW (λc=>?_) λc=>?_
  ·have e1:ks[x]? = some k:=(of_decide_eq_true c)▸e1
   rcases hx with ⟨z0,_⟩|⟨j,_,hjx,hj⟩
   ·exact EW (λz=>absurd z (by simp [z0])) λ_=>Aa (Bc (EW (λ_=>Ac (Ac (h1 x e1))) λ_=>Ac ⟨rfl,x+1,some x,rfl,hrest',hlt,.inr ⟨x,rfl,Bm x,e1⟩⟩))
   ·exact absurd (QF hn hj e1) (by ext)
  ·refine Aa (Bc (EW (λz=>absurd z (by simp)) λ_=>Ac ⟨rfl,x+1,hit,rfl,hrest',hlt,?_⟩))
   rcases hx with ⟨z0,hno'⟩|⟨j,z1,hji,hj⟩
   ·refine .inl ⟨z0,λj hj q=>?_⟩
    rcases Nat.lt_or_ge j x with z|z
    ·exact hno' j z q
    ·have:j=x:=by ext
     rw [this,e1] at q
     exact c (Br (AB q))
   ·exact .inr ⟨j,z1,by ext,hj⟩
 ·rintro b s' ⟨rfl,i,hit,rfl,hr,hi,hH⟩
  rcases hH with ⟨rfl,hno'⟩|⟨j,rfl,_,hj⟩
  ·refine Ac (h0 (hno λj q=>?_))
   rcases Nat.lt_or_ge j i with z|z
   ·exact hno' j z q
   ·have hj:j<es.size:=by rw [hsz];exact (Ad.mp q).1
    exact List.filter_eq_nil_iff.mp hr.symm j (List.mem_range'_1.mpr ⟨z,by ext⟩) (hp j q)
  ·exact Ac (h1 j hj)
end
noncomputable def DL (k:D):List D->List D->Option D
 | k'::ks,d::ds=>if k'=k then some d else DL k ks ds
 | _,_=>none
noncomputable def JM (k v:D):List D->List D->List D
 | k'::ks,d::ds=>(if k'=k then v else d)::JM k v ks ds
 | _,ds=>ds
def GW (k v:D)(ks ds:List D):List D×List D:=if k∈ks then (ks,JM k v ks ds) else (ks++[k],ds++[v])
theorem Ea {k:D}:∀ {ks ds:List D},k∉ks->DL k ks ds=none
 | [],_,_=>rfl
 | _::_,[],_=>rfl
 | k'::ks,d::ds,h=>by
  rw [AH,not_or] at h
  rw [DL,if_neg (λe=>h.1 e.symm),Ea h.2]
theorem E3 {k:D}:∀ {ks ds:List D} {j:Nat},ks.Nodup->ks[j]? = some k->DL k ks ds=ds[j]?
 | [],_,_,_,e=>by simp at e
 | _::_,[],_,_,_=>by simp [DL]
 | k'::ks,d::ds,0,n,e=>by simp at e;subst e;simp [DL]
 | k'::ks,d::ds,j+1,n,e=>by
  rw [Bt] at n
  simp at e
  have:k'≠k:=λz=>n.1 (by rw [z];exact Ag e)
  rw [DL,if_neg this,E3 n.2 e]
  rfl
theorem Jz {k v:D}:∀ {ks ds:List D},k∉ks->JM k v ks ds=ds
 | [],_,_=>rfl
 | _::_,[],_=>rfl
 | k'::ks,d::ds,h=>by
  rw [AH,not_or] at h
  rw [JM,if_neg (λe=>h.1 e.symm),Jz h.2]
theorem Ln {k v:D}:∀ {ks ds:List D} {j:Nat},ks.Nodup->ks[j]? = some k->JM k v ks ds=ds.set j v
 | [],_,_,_,e=>by simp at e
 | _::_,[],_,_,_=>by simp [JM]
 | k'::ks,d::ds,0,n,e=>by
  simp at e
  subst e
  rw [Bt] at n
  rw [JM,if_pos rfl,Jz n.1]
  rfl
 | k'::ks,d::ds,j+1,n,e=>by
  rw [Bt] at n
  simp at e
  have:k'≠k:=λz=>n.1 (by rw [z];exact Ag e)
  rw [JM,if_neg this,Ln n.2 e]
  rfl
def F6 (K:Zc)(th:List Addr)(H:Hp)(a:Addr)(ks ds:List D):Prop:=∃ xs,H a=some (En a xs)∧xs.map (·.1)=DT K.w ks∧RepL K th H ks (xs.map (·.2.1))∧RepL K th H ds (xs.map (·.2.2))∧KeysOk ks
noncomputable def DY (mu:Sto):D->Option (List D×List D)
 | .dct ks ds=>some (ks,ds)
 | .ref k=>match mu[k]? with
  | some (.dct ks ds)=>some (ks,ds)
  | _=>none
 | _=>none
section
variable {X:Cx} {K:Zc} {th:List Addr} {mu:Sto} {H:Hp} {pins:List (Addr×Obj)} {st:L2.St} {s:Shared} {A:Around} {E:Value->Shared->Prop}
theorem EL (so:StoOk K th mu H){d:D}{p:List D×List D}{v:V}(h:DY mu d=some p)(r:Rep K th H d v):∃ a,v=.ref a∧F6 K th H a p.1 p.2:=by
 unfold DY at h
 split at h
 ·cases h;unfold Rep at r;obtain ⟨a,xs,rfl,_,h1⟩:=r;exact ⟨a,rfl,xs,h1⟩
 ·split at h
  ·rename_i k _ ks ds e
   cases h
   unfold Rep at r
   obtain ⟨a,rfl,ha⟩:=r
   exact ⟨a,rfl,so.at' k a _ ha e⟩
  ·cases h
 ·cases h
structure DcO (X:Cx) (th:List Addr) (H:Hp) (s:Shared) (a:Addr) (ks ds:List D) (xs:List (Int×V×V)) (o:Obj) (es:Array DictEntry) (ep:Nat):Prop where
 ns:(a==sysModules)=false
 at':s.heap.get? a=some o
 ex:o.ExactDict
 dt:o.data=.dict es ep
 pr:Paired (λ(x:Int×V×V) (e:DictEntry)=>e.hash=x.1∧RelV x.2.1 e.key∧RelV x.2.2 e.val) xs es.toList
 en:Paired (EnK X.w s.heap) ks es.toList
 xl:xs.length=ks.length
 dl:ds.length=ks.length
theorem Ll {α β:Type}{F:α->β->Prop}:∀ {xs:List α} {ys:List β},xs.length=ys.length->(∀ (j:Nat) x y,xs[j]? = some x->ys[j]? = some y->F x y)->Paired F xs ys
 | [],[],_,_=>.nil
 | [],_::_,h,_=>by simp at h
 | _::_,[],h,_=>by simp at h
 | x::xs,y::ys,h,f=>.cons (f 0 x y rfl rfl) (Ll (by simpa using h) λj a b e1 e2=>f (j+1) a b (by simpa using e1) (by simpa using e2))
theorem Fd (I:L2.Inv X pins st H s){a:Addr}{ks ds:List D}(h:F6 X.z th H a ks ds):∃ xs o es ep,H a=some (En a xs)∧DcO X th H s a ks ds xs o es ep:=by
 obtain ⟨xs,h1,h2,h3,h4,h5⟩:=h
 obtain ⟨⟨z,o,es,ep,g1,g2,g3,g4,ge⟩,_⟩:=(show ObjOk X.prog X.w H s.heap a (En a xs) from I.hok a _ h1)
 have xl:xs.length=ks.length:=by have:=h3.len;simpa using this
 refine ⟨xs,o,es,ep,h1,z,g1,g2,g3,g4,?_,xl,by have:=h4.len;rw [Ae] at this;ext⟩
 refine Ll (by rw [← DM g4,xl]) λj k e e1 e2=>?_
 obtain ⟨x,q1,q2,q3,q4⟩:=(Du g4 j).2 e e2
 have hh:(xs.map (·.1))[j]? = (DT X.w ks)[j]?:=by rw [h2]
 rw [Dk,Ar,Ar,q1,e1] at hh
 obtain ⟨v,v1,v2⟩:=h3.get e1
 rw [Ar,q1] at v1
 have v1':x.2.1=v:=by simpa using v1
 refine ⟨by rw [q2];simpa using hh,JN I (h5.ok k (Ag e1)) v2 (by rw [← v1'];exact q3)⟩
theorem SO (I:L2.Inv X pins st H s){a:Addr}{ks ds:List D}(h:F6 X.z th H a ks ds){k:D}{u:Value}(hk:Hd s.heap k u)(hu:A.units+8<cLine){Q:Option Value->Shared->Prop}
  (q0:DL k ks ds=none->∀ tk,Q none { s with toks:=tk }) (q1:∀ d v r,DL k ks ds=some d->Rep X.z th H d v->RelV v r->∀ tk,Q (some r) { s with toks:=tk }):wpAny (model X.prog X.w) A (dictGet a u) Q E s:=by
 obtain ⟨xs,o,es,ep,h1,g⟩:=Fd I h
 obtain ⟨xs',h1',h2,h3,h4,h5⟩:=id h
 unfold dictGet
 refine AS (Aa (hk.hash hu λtk=>Aa (IC (s:={ s with toks:=tk }) hu hk g.at' g.dt g.en h5.nd (λz=>Ac (q0 (Ea z) tk)) λj ej=>?_)))
 refine Aa (Bw (s:={ s with toks:=tk }) g.at' g.dt ?_)
 obtain ⟨e,e1,e2⟩:=(Du g.en j).1 k ej
 rw [Ah] at e1
 rw [e1]
 obtain ⟨⟨z',o',es',ep',g1,g2,g3,g4,ge⟩,_⟩:=(show ObjOk X.prog X.w H s.heap a (En a xs') from I.hok a _ h1')
 have g1':=g.at'
 rw [g1] at g1'
 cases g1'
 have g3':=g.dt
 rw [g3] at g3'
 cases g3'
 obtain ⟨x,x1,x2,x3,x4⟩:=(Du g4 j).2 e (by rw [Ah];exact e1)
 have vj:(xs'.map (·.2.2))[j]? = some x.2.2:=by rw [Ar,x1];rfl
 obtain ⟨d,d1,d2⟩:=h4.getV vj
 exact Ac (q1 d _ _ (by rw [E3 h5.nd ej];exact d1) d2 x4 tk)
theorem JI {α β:Type}{F:α->β->Prop}:∀ {xs:List α} {ys:List β} (j:Nat) {x:α} {y:β},Paired F xs ys->F x y->Paired F (xs.set j x) (ys.set j y)
 | _,_,_,_,_,.nil,_=>.nil
 | _,_,0,_,_,.cons _ t,f=>.cons f t
 | _,_,j+1,_,_,.cons r t,f=>.cons r (JI j t f)
theorem G8 {α β:Type}{F:α->β->Prop}:∀ {xs xs':List α} {ys ys':List β},Paired F xs ys->Paired F xs' ys'->Paired F (xs++xs') (ys++ys')
 | _,_,_,_,.nil,t=>t
 | _,_,_,_,.cons r t,t'=>.cons r (G8 t t')
theorem Rb (I:L2.Inv X pins st H s){a:Addr}{ks ds:List D}(h:F6 X.z th H a ks ds)(ext:∀ xs,Ext th H th (upd H a (En a xs)))(so:StoOk X.z th mu H){k v:D}{kv vv:V}{u r:Value}(hk:Fj k=true)(rk:Rep X.z th H k kv)(ru:RelV kv u)(rv:Rep X.z th H v vv)(rr:RelV vv r)(lt:ks.length<sizeLine)(hu:A.units+8<cLine)
  {Q:Unit->Shared->Prop} (q:∀ s' xs',L2.Inv X pins st (upd H a (En a xs')) s'->F6 X.z th (upd H a (En a xs')) a (GW k v ks ds).1 (GW k v ks ds).2->Q () s'):wpAny (model X.prog X.w) A (dictSet a u r) Q E s:=by
 have hd:=JN I hk rk ru
 obtain ⟨xs',h1',h2,h3,h4,h5⟩:=id h
 obtain ⟨⟨z',o,es,ep,g1,g2,g3,g4,ge⟩,_⟩:=(show ObjOk X.prog X.w H s.heap a (En a xs') from I.hok a _ h1')
 obtain ⟨xs,o',es',ep',h1,g⟩:=Fd I h
 have g1':=g.at'
 rw [g1] at g1'
 cases g1'
 have g3':=g.dt
 rw [g3] at g3'
 cases g3'
 have mu1:Mut (H a):=by rw [h1'];exact True.intro
 unfold dictSet
 refine AS (Aa (hd.hash hu λtk=>?_))
 unfold dictSetHashed
 refine AS (Aa (IC (s:={ s with toks:=tk }) hu hd g1 g3 g.en h5.nd (λz=>?_) λj ej=>?_))
 ·have hz0:es.size≤sizeLine:=by rw [← Array.length_toList,← DM g.en];ext
  refine Aa (Bc (wpAny_updateDictKeys (s:={ s with toks:=tk }) g1 g3 (hz:=hz0) ?_))
  have e1:(GW k v ks ds).1=ks++[k]:=by unfold GW;rw [if_neg z]
  have e2:(GW k v ks ds).2=ds++[v]:=by unfold GW;rw [if_neg z]
  have so1:=A5 (Obj.mapDictKeys (·.push ⟨CT X.w k,u,r⟩)) g1 (Obj.isFreed_of_dict (Obj.data_mapDictKeys g3 _))
  refine q _ (xs'++[(CT X.w k,kv,vv)]) (I.write (x:=a) (e:=a) (t':=tk) mu1 (.inl rfl) (λb ob hb e=>((AL ..).2 b hb).trans e) ⟨_,so1⟩ (IJ ⟨z',_,_,ep+1,so1,g2.mapDictKeys _,Obj.data_mapDictKeys g3 _,?_,by rw [Bf,ge]⟩)) ?_
  ·rw [BJ]
   exact G8 g4 (.cons ⟨rfl,ru,rr⟩ .nil)
  ·rw [e1,e2]
   have ex:=ext (xs'++[(CT X.w k,kv,vv)])
   refine ⟨_,CV,?_,?_,?_,?_⟩
   ·rw [Az,h2,Dk,Dk,Az];rfl
   ·rw [Az];exact (h3.ext ex so.out).app (.cons (rk.ext ex so.out) .nil)
   ·rw [Az];exact (h4.ext ex so.out).app (.cons (rv.ext ex so.out) .nil)
   ·refine ⟨by rw [An];exact lt,?_,λk' hk'=>?_⟩
    ·refine List.nodup_append.mpr ⟨h5.nd,by simp,λx hx y hy=>?_⟩
     rw [Aq.mp hy]
     exact λe=>z (e▸hx)
    ·rcases AA.mp hk' with w'|w'
     ·exact h5.ok k' w'
     ·rw [Aq.mp w'];exact hk
 ·have mem:k∈ks:=Ag ej
  have e1:(GW k v ks ds).1=ks:=by unfold GW;rw [if_pos mem]
  have e2:(GW k v ks ds).2=ds.set j v:=by unfold GW;rw [if_pos mem];exact Ln h5.nd ej
  have hj:j<xs'.length:=by
   have:=(Ad.mp ej).1
   have l2:=h3.len
   rw [Ae] at l2
   ext
  have hje:j<es.size:=by rw [← Array.length_toList,← DM g4];exact hj
  obtain ⟨y,y1,y2,y3,y4⟩:=(Du g4 j).1 xs'[j] (Am hj)
  rw [Ah] at y1
  have ye:es[j]=y:=by rw [AF hje] at y1;exact AB y1
  refine Aa (Bc (Aa (wpAny_updateDict (s:={ s with toks:=tk }) g1 g3 (wpAny_point ?_))))
  have so1:=A5 (Obj.mapDict (·.modify j λe=>{ e with val:=r })) g1 (Obj.isFreed_of_dict (Obj.data_mapDict g3 _))
  refine q _ (xs'.set j (xs'[j].1,xs'[j].2.1,vv)) (I.write (x:=a) (e:=a) (t':=tk) mu1 (.inl rfl) (λb ob hb e=>((AL ..).2 b hb).trans e) ⟨_,so1⟩ (IJ ⟨z',_,_,ep,so1,g2.mapDict _,Obj.data_mapDict g3 _,?_,by rw [Array.size_modify,ge]⟩)) ?_
  ·have em:(es.modify j λe=>{ e with val:=r }).toList=es.toList.set j { y with val:=r }:=by
    have yl:es.toList[j]? = some y:=by rw [Ah];exact y1
    rw [Array.toList_modify]
    refine BK λi=>?_
    rw [List.getElem?_modify]
    by_cases c:j=i
    ·subst c
     rw [yl,List.getElem?_set_self (by simpa using hje)]
     simp
    ·rw [Aw c]
     simp [c]
   rw [em]
   exact JI j g4 ⟨y2,y3,rr⟩
  ·rw [e1,e2]
   have ex:=ext (xs'.set j (xs'[j].1,xs'[j].2.1,vv))
   refine ⟨_,CV,?_,?_,?_,h5⟩
   ·rw [← h2,List.map_set]
    refine BK λi=>?_
    by_cases c:i=j
    ·subst c;simp [hj]
    ·rw [Aw (Ne.symm c)]
   ·have:(xs'.set j (xs'[j].1,xs'[j].2.1,vv)).map (·.2.1)=xs'.map (·.2.1):=by
     rw [List.map_set]
     refine BK λi=>?_
     by_cases c:i=j
     ·subst c;simp [hj]
     ·rw [Aw (Ne.symm c)]
    rw [this]
    exact h3.ext ex so.out
   ·rw [List.map_set]
    exact (h4.ext ex so.out).setAt j (rv.ext ex so.out)
theorem N0 (I:L2.Inv X pins st H s){a:Addr}{ks ds:List D}(h:F6 X.z th H a ks ds){k d:D}{u:Value}(hk:Hd s.heap k u)(e:DL k ks ds=some d):∃ v r,Rep X.z th H d v∧RelV v r ∧
  ∀ {A:Around} {E:Value->Shared->Prop} {Q:Option Value->Shared->Prop},A.units+8<cLine->(∀ tk,Q (some r) { s with toks:=tk })->wpAny (model X.prog X.w) A (dictGet a u) Q E s:=by
 obtain ⟨xs',h1',h2,h3,h4,h5⟩:=id h
 obtain ⟨xs,o,es,ep,h1,g⟩:=Fd I h
 obtain ⟨⟨z',o',es',ep',g1,g2,g3,g4,ge⟩,_⟩:=(show ObjOk X.prog X.w H s.heap a (En a xs') from I.hok a _ h1')
 have g1':=g.at'
 rw [g1] at g1'
 cases g1'
 have g3':=g.dt
 rw [g3] at g3'
 cases g3'
 have mem:k∈ks:=by
  refine Classical.byContradiction λz=>?_
  rw [Ea z] at e
  cases e
 obtain ⟨j,ej⟩:=AO.mp mem
 rw [E3 h5.nd ej] at e
 obtain ⟨v,v1,v2⟩:=h4.get e
 obtain ⟨en,e1,e2⟩:=(Du g.en j).1 k ej
 obtain ⟨x,x1,x2,x3,x4⟩:=(Du g4 j).2 en e1
 rw [Ar,x1] at v1
 have v1':x.2.2=v:=by simpa using v1
 rw [Ah] at e1
 refine ⟨v,en.val,v2,v1'▸x4,λhu q=>?_⟩
 unfold dictGet
 refine AS (Aa (hk.hash hu λtk=>Aa (IC (s:={ s with toks:=tk }) hu hk g1 g3 g.en h5.nd (λz=>absurd mem z) λj' ej'=>?_)))
 cases QF h5.nd ej ej'
 refine Aa (Bw (s:={ s with toks:=tk }) g1 g3 ?_)
 rw [e1]
 exact Ac (q tk)
theorem Qy (I:L2.Inv X pins st H s){a:Addr}{ks ds:List D}(h:F6 X.z th H a ks ds){k:D}{u:Value}(hk:Hd s.heap k u)(e:DL k ks ds=none){Q:Option Value->Shared->Prop}(hu:A.units+8<cLine)(q:∀ tk,Q none { s with toks:=tk }):wpAny (model X.prog X.w) A (dictGet a u) Q E s:=
 SO I h hk hu (λ_=>q) λd v r e'=>by rw [e] at e';cases e'
theorem Lp (I:L2.Inv X pins st H s){a:Addr}{ks ds:List D}(h:F6 X.z th H a ks ds):s.TypeIs (.ref a) "dict"∧(a==sysModules)=false∧∃ o,s.heap.get? a=some o∧o.dict=none:=by
 obtain ⟨xs,o,es,ep,h1,g⟩:=Fd I h
 exact ⟨⟨o,g.at',g.ex.1⟩,g.ns,o,g.at',g.ex.2.1⟩
theorem Oy {k:D}{ks ds:List D}(n:ks.Nodup)(l:ds.length=ks.length):(DL k ks ds).isSome=decide (k∈ks):=by
 by_cases c:k∈ks
 ·obtain ⟨j,ej⟩:=AO.mp c
  rw [E3 n ej,Br c]
  have:=(Ad.mp ej).1
  rw [Am (by ext)]
  rfl
 ·rw [Ea c,A1 c];rfl
theorem KR {a:Addr}{ks ds:List D}(h:F6 K th H a ks ds):ds.length=ks.length∧KeysOk ks:=by
 obtain ⟨xs,_,_,h3,h4,h5⟩:=h
 have a:=h3.len
 have b:=h4.len
 rw [Ae] at a b
 exact ⟨by ext,h5⟩
def ixC (d e:D)(mu:Sto):Rs D:=match DY mu d with
 | some p=>if Fj e=true then (DL e p.1 p.2).map λv=>(v,mu) else none
 | none=>none
theorem ON {d e:D}{r:D×Sto}(h:ixC d e mu=some r):∃ p,DY mu d=some p∧Fj e=true∧∃ v,DL e p.1 p.2=some v∧r=(v,mu):=by
 unfold ixC at h
 split at h
 ·rename_i p e1
  split at h
  ·rename_i c
   cases q:DL e p.1 p.2 with
   | none=>rw [q] at h;cases h
   | some v=>rw [q] at h;cases h;exact ⟨p,e1,c,v,q,rfl⟩
  ·cases h
 ·cases h
theorem V2 (hu:X.A.units+64<cLine):IxR X (r2 X.z ixC):=by
 intro value slice pins s st H x y v u Q I rx ry h hs
 obtain ⟨th,mu,d,e,so,r1,r2,t⟩:=h
 obtain ⟨a0,mu0,e0,_⟩:=id t
 obtain ⟨p,e1,hk,w',e2,er⟩:=ON e0
 rw [e0] at t
 cases er
 obtain ⟨a,rfl,dc⟩:=EL so e1 r1
 cases rx
 obtain ⟨v',r',q1,q2,q3⟩:=N0 I dc (JN I hk r2 ry) e2
 obtain ⟨ty,_⟩:=Lp I dc
 refine subscriptTail_builtinR (x:=r') ty slot_dict_getitem.lookup ?_ hs
 unfold getItem
 refine AS (Aa (wpAny_sequenceKey ty (by decide) (Aa (A6 (name:=Str.ofString "__getitem__") ty slot_dict_getitem (AY slot_dict_getitem ty entry_dict_getitem ?_ (args_dict_getitem _ _))))))
 refine (?_:wpAny _ _ (dictGet a u >>= _) _ _ s)
 exact Aa (q3 (by rw [Around.in1_units];ext) λtk=>Ac ⟨r',rfl,Ac ⟨rfl,v',H,I.tok _,q2,t.ret so _ q1⟩⟩)
theorem IxR.or {g g':D->D->Sto->Rs D}(h:IxR X (r2 X.z g))(h':IxR X (r2 X.z g')):IxR X (r2 X.z λd e mu=>match g d e mu with|some r=>some r|none=>g' d e mu):=by
 intro value slice pins s st H x y v u Q I rx ry q hs
 obtain ⟨th,mu,d,e,so,r1,r2,t⟩:=q
 dsimp only at t
 cases c:g d e mu with
 | some r=>rw [c] at t;exact h value slice pins s st H x y v u Q I rx ry ⟨th,mu,d,e,so,r1,r2,by rw [c];exact t⟩ hs
 | none=>rw [c] at t;exact h' value slice pins s st H x y v u Q I rx ry ⟨th,mu,d,e,so,r1,r2,t⟩ hs
def ixG (d e:D)(mu:Sto):Rs D:=match ixD d e mu with
 | some r=>some r
 | none=>ixC d e mu
theorem EH (hu:X.A.units+64<cLine):IxR X (r2 X.z ixG):=IxR.or VC (V2 hu)
def inC (neg:Bool)(d c:D)(mu:Sto):Rs D:=match DY mu c with
 | some p=>if Fj d=true then some (.bl (decide (d∈p.1) != neg),mu) else none
 | none=>none
theorem OR {neg:Bool}{d e:D}{r:D×Sto}(h:inC neg d e mu=some r):∃ p,DY mu e=some p∧Fj d=true∧r=(.bl (decide (d∈p.1) != neg),mu):=by
 unfold inC at h
 split at h
 ·rename_i p e1
  split at h
  ·rename_i c;cases h;exact ⟨p,e1,c,rfl⟩
  ·cases h
 ·cases h
theorem Tv (hu:X.A.units+64<cLine)(I:L2.Inv X pins st H s){a:Addr}{ks ds:List D}(dc:F6 X.z th H a ks ds){d:D}{u:Value}(hk:Hd s.heap d u){Q:Bool->Shared->Prop}(q:∀ tk,Q (decide (d∈ks)) { s with toks:=tk }):wpAny (model X.prog X.w) X.A (contains (.ref a) u) Q E s:=by
 obtain ⟨ty,ns,_⟩:=Lp I dc
 obtain ⟨l,ko⟩:=KR dc
 have gm:=Oy (k:=d) ko.nd l
 unfold contains
 refine AS (Aa (wpAny_specialOf ty slot_dict_contains.lookup ?_))
 refine (?_:wpAny _ _ (if (some (Value.builtin "dict.__contains__")==some Value.none)=true then _ else _) _ E s)
 rw [if_neg (by rw [beq_builtin_none];exact AQ)]
 refine Aa (wpAny_callSpecialUnlessNone?_slot (name:=Str.ofString "__contains__") ty slot_dict_contains (AY slot_dict_contains ty entry_dict_contains ?_ (args_dict_contains _ _)))
 refine (?_:wpAny _ _ (dictGet a u >>= _) _ _ s)
 refine Aa ?_
 have hu':X.A.in1.units+8<cLine:=by rw [Around.in1_units];ext
 cases c:DL d ks ds with
 | some v =>
  rw [c] at gm
  obtain ⟨v',r',q1,q2,q3⟩:=N0 I dc hk c
  refine q3 hu' λtk=>?_
  refine (?_:wpAny _ _ (ret (.bool true)) _ _ _)
  exact Ac ⟨_,rfl,wpAny_truthy_bool (by rw [← gm] at q;exact q tk)⟩
 | none =>
  rw [c] at gm
  refine Qy I dc hk c hu' λtk=>?_
  refine (?_:wpAny _ _ (Builtin.Dict.pendingKey? a u >>= _) _ _ _)
  exact Aa (wpAny_pendingKey_other ns (Ac ⟨_,rfl,wpAny_truthy_bool (by rw [← gm] at q;exact q tk)⟩))
theorem PX (hu:X.A.units+64<cLine):OpV X (compareOp .NotIn) (inC true):=by
 intro pins s st H x y v u Q I rx ry h
 obtain ⟨th,mu,d,e,so,r1,r2,t⟩:=h
 obtain ⟨a0,mu0,e0,_⟩:=id t
 obtain ⟨p,e1,hk,er⟩:=OR e0
 rw [e0] at t
 cases er
 obtain ⟨a,rfl,dc⟩:=EL so e1 r2
 cases ry
 refine (?_:wpAny _ _ (do return Value.bool (!(← contains (.ref a) v))) _ _ s)
 exact Aa (Tv hu I dc (JN I hk r1 rx) λtk=>Ac ⟨.bl _,H,I.tok _,rfl,by have:=t.ret so _ rfl;simpa using this⟩)
theorem OpV.or {f:Value->Value->Sem Value}{g g':D->D->Sto->Rs D}(h:OpV X f g)(h':OpV X f g'):OpV X f λd e mu=>match g d e mu with|some r=>some r|none=>g' d e mu:=by
 intro pins s st H x y v u Q I rx ry q
 obtain ⟨th,mu,d,e,so,r1,r2,t⟩:=q
 dsimp only at t
 cases c:g d e mu with
 | some r=>rw [c] at t;exact h pins s st H x y v u Q I rx ry ⟨th,mu,d,e,so,r1,r2,by rw [c];exact t⟩
 | none=>rw [c] at t;exact h' pins s st H x y v u Q I rx ry ⟨th,mu,d,e,so,r1,r2,t⟩
def Pe (d e:D)(mu:Sto):Rs D:=match Nc d e mu with
 | some r=>some r
 | none=>inC true d e mu
theorem Py (hu:X.A.units+64<cLine):OpV X (compareOp .NotIn) Pe:=OpV.or (PB hu) (PX hu)
def putG (d e v:D)(mu:Sto):Rs Unit:=match d with
 | .ref k=>match mu[k]? with
  | some (.dct ks ds)=>if Fj e=true∧ks.length<sizeLine then some ((),mu.set k (.dct (GW e v ks ds).1 (GW e v ks ds).2)) else none
  | _=>Pq d e v mu
 | _=>none
def UD (K:Zc):OL:=λo i v H Q=>∃ th mu d e w,StoOk K th mu H∧Rep K th H d o∧Rep K th H e i∧Rep K th H w v∧Tr K th H (putG d e w mu) λ_ _ _ H'=>Q H'
theorem Ti (hu:X.A.units+64<cLine):Pb X (UD X.z):=by
 intro pins s st H o i v ov iv u Q I ro ri rv h
 obtain ⟨th,mu,d,e,w,so,r1,r2,r3,t⟩:=h
 unfold putG at t
 split at t
 ·rename_i k
  split at t
  ·rename_i ks ds em
   split at t
   ·rename_i c
    unfold Rep at r1
    obtain ⟨a,rfl,ha⟩:=r1
    have dc:F6 X.z th H a ks ds:=so.at' k a _ ha em
    obtain ⟨ty,ns,_⟩:=Lp I dc
    cases ro
    unfold setItem
    refine AS (Aa (wpAny_sequenceKey ty (by decide) (Aa (A6 (name:=Str.ofString "__setitem__") ty slot_dict_setitem (AY slot_dict_setitem ty entry_dict_setitem ?_ (args_dict_setitem _ _ _))))))
    refine (?_:wpAny _ _ (Builtin.Dict.notOrdered "__setitem__" ⟨[.ref a,iv,u],[]⟩ >>= _) _ _ s)
    refine Aa (wpAny_notOrdered_dict ty (?_:wpAny _ _ (dictSet a iv u >>= _) _ _ s))
    refine Aa (Rb I dc (λxs=>.mut (Ag ha) _) so c.1 r2 ri r3 rv c.2 (by rw [Around.in1_units];ext) λs' xs' I' dc'=>Ac ⟨.none,rfl,Ac ⟨_,I',?_⟩⟩)
    exact t.retX (.mut (Ag ha) _) (so.putG ha _ _ dc')
   ·exact t.no.elim
  ·exact T5 pins s st H o i v ov iv u Q I ro ri rv ⟨th,mu,.ref k,e,w,so,r1,r2,r3,t⟩
 ·exact t.no.elim
def gIx (o i:Ex):Gx:=λv ro mu=>bM (o ro mu) λd m1=>bM (i ro m1) λe m2=>bM (putG d e v m2) λ_ m3=>some (ro,m3)
theorem NC (hu:X.A.units+64<cLine){o i:Expr}{mo mi:Ex}{pos:Pos}(ho:SV X o mo)(hi:SV X i mi)
  (ha:∀ v,assign (.Subscript o i pos) X.env v=(do
   let ov←holding [v] (eval o X.env)
   let iv←holding [v,ov] (eval i X.env)
   standAt pos
   holding [v,ov,iv] (setItem ov iv v)
   release [v,ov,iv] []):=by intro _;rfl):SVG X (.Subscript o i pos) (gIx mo mi):=⟨PG.weak (SS ho.r hi.r (Ti hu) ha) λv st H Q h=>by
 obtain ⟨th,mu,ro,d,so,en,r,t⟩:=h
 refine ⟨th,mu,ro,so,en,t.bind.mono λx th1 mu1 H1 e1 s1 t1 xv rx=>?_⟩
 refine ⟨th1,mu1,ro,s1,en.ext e1 so.out,t1.bind.mono λy th2 mu2 H2 e2 s2 t2 yv ry=>?_⟩
 refine ⟨th2,mu2,x,y,d,s2,rx.ext e2 s1.out,ry,(r.ext e1 so.out).ext e2 s1.out,t2.bind.mono λ_ th3 mu3 H3 e3 s3 t3=>?_⟩
 exact t3.ret s3 _ (((en.ext e1 so.out).ext e2 s1.out).ext e3 s2.out)⟩
end
section
variable {prog:Program} {w:World} {A:Around} {E:Value->Shared->Prop} {s:Shared}
theorem wp_choose {M:Model}{src:Source}{n:Nat}{Q:Nat->Shared->Prop}(hn:n≠0)(h:∀ i d',i<n->Q i { s with drawn:=d' }):wpAny M A (choose src n) Q E s:=
 λ_ _ _=>⟨hn,h _ _ (Nat.mod_lt _ (Nat.pos_of_ne_zero hn))⟩
theorem FZ {α:Type}:∀ (xs:List α) (i:Nat) (hi:i<xs.length),(xs[i]::xs.eraseIdx i).Perm xs
 | [],i,hi=>by simp at hi
 | x::xs,0,_=>A7 _
 | x::xs,i+1,hi=>by
  have hi':i<xs.length:=by simpa using hi
  exact (List.Perm.swap x xs[i] _).trans (List.Perm.cons x (FZ xs i hi'))
theorem Jr {M:Model}{α:Type}:∀ (n:Nat) (xs:List α) {s:Shared} {Q:List α->Shared->Prop},n=xs.length->(∀ ys d',ys.Perm xs->Q ys { s with drawn:=d' })->wpAny M A (drawOrder n xs) Q E s
 | 0,[],s,Q,_,h=>Ac (h [] s.drawn (A7 _))
 | 0,_::_,_,_,e,_=>by simp at e
 | n+1,[],_,_,e,_=>by simp at e
 | n+1,x::xs,s,Q,e,h=>by
  refine Aa (wp_choose (by simp) λi d' hi=>?_)
  rw [Am hi]
  refine Aa (Jr n ((x::xs).eraseIdx i) (by rw [List.length_eraseIdx_of_lt hi,← e];rfl) λys d2 p=>Ac (h _ d2 ?_))
  exact (List.Perm.cons _ p).trans (FZ _ _ hi)
theorem Ij {α:Type}(next:Nat->Nat):∀ (f k:Nat) (left:List α) (out:Array α),f=left.length->(pickOrder.go next f k left out).toList.Perm (out.toList++left)
 | 0,k,[],out,_=>by unfold pickOrder.go;simp
 | 0,_,_::_,_,e=>by simp at e
 | f+1,k,[],out,e=>by simp at e
 | f+1,k,x::xs,out,e=>by
  unfold pickOrder.go
  have hi:next k % (x::xs).length<(x::xs).length:=Nat.mod_lt _ (by simp)
  rw [Am hi]
  refine (Ij next f (k+1) _ _ (by rw [List.length_eraseIdx_of_lt hi,← e];rfl)).trans ?_
  rw [BJ,A4]
  exact List.Perm.append_left _ (FZ _ _ hi)
theorem Ei {α:Type}(next:Nat->Nat)(xs:Array α):(pickOrder next xs).toList.Perm xs.toList:=by
 have:=Ij next xs.size 0 xs.toList #[] (by simp)
 simpa [pickOrder] using this
noncomputable def Fe (w:World):Bool:=w.params.followText "set-order"
theorem DG {Q:Bool->Shared->Prop}(h:Q (Fe w) s):wpAny (model prog w) A setsByText Q E s:=Aa (wpAny_askSetting (Ac h))
theorem CH:Slot "set_iterator" "__next__" "set_iterator.__next__":=
 .of (owner:="set_iterator") (n:="__next__") (by rw [typeLookup_type,builtinLookup_eq_fast];kernel_rfl) (by symm) (by symm) (by symm) (by first|exact .inl (by symm)|exact .inr (by symm)) (by rw [isSubtype_type];kernel_rfl)
theorem Fi:entryFor table "set_iterator.__next__"=some Builtin.«set_iterator.__next__»:=entryFor_of_tree (by kernel_rfl)
theorem Hi:Manifest.owners.lookup (String.ofList ['r','o','t','a','r','e','t','i','_','t','e','s'].reverse)=some Manifest.sig_set_iterator:=by kernel_rfl
theorem FD (a:Value):argsOk "set_iterator.__next__" ⟨[a],[]⟩:=by
 unfold argsOk;rw [signature?_of (id:="set_iterator.__next__") (n:=['_','_','t','x','e','n','_','_']) (o:=['r','o','t','a','r','e','t','i','_','t','e','s']) (by kernel_rfl) Hi];kernel_rfl
theorem Ft:Slot "set_iterator" "__iter__" "set_iterator.__iter__":=
 .of (owner:="set_iterator") (n:="__iter__") (by rw [typeLookup_type,builtinLookup_eq_fast];kernel_rfl) (by symm) (by symm) (by symm) (by first|exact .inl (by symm)|exact .inr (by symm)) (by rw [isSubtype_type];kernel_rfl)
inductive Md where
 | txt|drw (TI:Addr) (pl:List Nat)|one
def SetAt (h:Heap)(S:Addr)(es:Array (Int×Value))(ep:Nat)(t:SetTable):Prop:=∃ o,h.get? S=some o∧o.data=.set es ep t
def Fst (w:World)(es:Array (Int×Value))(t:SetTable)(h:Heap)(i:Nat)(v:Value):Md->Prop
 | .txt=>Fe w=true∧∃ c:Nat,v=rawInt c
 | .drw TI pl=>v=.ref TI∧h.IsTuple TI (pl.map λp:Nat=>rawInt p).toArray∧pl.length=es.size∧(∀ p∈pl,p<es.size)
 | .one=>Fe w=false∧(t.plain=false∨es.size≤1)∧es.size≤1∧t.led=true∧v=rawInt ((if i=0 then 0 else t.place.getD 0 0+1:Nat):Int)
noncomputable def HH (w:World)(S:Addr)(es:Array (Int×Value))(ep:Nat):Md->List Value
 | .txt=>(pickOrder (w.params.setOrder S ep) es).toList.map (·.2)
 | .drw _ pl=>pl.map λp=>(es.getD p (0,.none)).2
 | .one=>es.toList.map (·.2)
def SIt (w:World)(S I:Addr)(es:Array (Int×Value))(ep:Nat)(t:SetTable)(md:Md)(i:Nat)(h:Heap):Prop:=
 SetAt h S es ep t∧∃ o v,h.get? I=some o∧o.cls=.type "set_iterator"∧o.data=.fields #[v,rawInt i,.ref S,rawInt es.size,rawInt ep]∧Fst w es t h i v md
theorem E6 {M:Model}{I:Addr}{Q:PySem.Fin->Shared->Prop}(hh:A.handled=none)(q:∀ h' e,(∀ c o,s.heap.get? c=some o->h'.get? c=some o)->(∃ o,h'.get? e=some o∧o.cls=.type "StopIteration")->E (.ref e) { s with heap:=h' }) :
  wpAny M A (newExc (.type "StopIteration") [] >>= λe=>(raiseNew e:Sem PySem.Fin)) Q E s:=by
 refine Aa ?_
 simp only [newExc,newTuple]
 refine Aa (A3 (Aa (m:=firstArgMember _ _) (wpAny_of_eq (a:=Value.none) (by first|rfl|(simp only [firstArgMember];rfl)) (A3 ?_ (by size_fits)))) (by size_fits))
 simp only [raiseNew]
 refine Aa (wpAny_handled ?_)
 rw [hh]
 exact Aa (Ac (wpAny_throw (q _ _ (λc o e=>Af _ (Af _ e)) ⟨_,Av _ rfl,rfl⟩)))
theorem Hh {xs:Array Nat}(h:xs.size≤1):SetTable.below xs 0=0:=by
 unfold SetTable.below
 rcases Nat.lt_or_ge 0 xs.size with c|c
 ·have:xs.size=1:=by ext
  rw [this]
  simp [SetTable.below.go]
 ·have:xs.size=0:=by ext
  rw [this]
  simp [SetTable.below.go]
theorem Kh {xs:Array Nat}(h:xs.size=1):SetTable.below xs (xs.getD 0 0+1)=1:=by
 unfold SetTable.below
 have e0:xs[0]? = some xs[0]:=AF (by ext)
 rw [h]
 simp [SetTable.below.go,e0]
theorem DE {a:Addr}{o:Obj}{vs:Array Value}{i:Nat}{x:Value}{h:Heap}(ho:h.get? a=some o)(hd:o.data=.fields vs):∃ o',(h.update a (Obj.mapFields (·.setIfInBounds i x))).get? a=some o'∧o'.cls=o.cls∧o'.data=.fields (vs.setIfInBounds i x):=
 ⟨_,A5 _ ho (Obj.isFreed_of_fields (Obj.data_mapFields hd _)),Obj.cls_mapFields ..,Obj.data_mapFields hd _⟩
theorem SetAt.keep {h h':Heap}{S I:Addr}{es:Array (Int×Value)}{ep:Nat}{t:SetTable}(x:SetAt h S es ep t)(ne:S≠I)(sb:Heap.SameBut I h h'):SetAt h' S es ep t:=
 let ⟨o,a,b⟩:=x;⟨o,(sb.2 S ne).trans a,b⟩
def Md.apart (I:Addr):Md->Prop
 | .drw TI _=>TI≠I
 | _=>True
theorem MJ {S I:Addr}{es:Array (Int×Value)}{ep:Nat}{t:SetTable}{md:Md}{i:Nat}{Q:Value->Shared->Prop}(hf:t.fits es.size=true)(ne:S≠I)(ap:md.apart I)(g:SIt w S I es ep t md i s.heap)(hi:i<es.size)
  (q:∀ v h',(HH w S es ep md)[i]? = some v->SIt w S I es ep t md (i+1) h'->Heap.SameBut I s.heap h'->Q v { s with heap:=h' }) :
  wpAny (model prog w) A (Builtin.«set_iterator.__next__» ⟨[.ref I],[]⟩) (λfin s'=>∃ v,fin=.done (.ret v)∧Q v s') E s:=by
 obtain ⟨⟨ob,g1,g2⟩,o,v,k1,k2,k3,k4⟩:=id g
 refine (?_:wpAny _ _ (fieldsOf (.ref I) >>= _) _ _ _)
 refine Aa (wpAny_fieldsOf k1 k3 (?_:wpAny _ _ (setEntries S >>= _) _ _ _))
 refine Aa (wpAny_setEntries_of g1 g2 hf ?_)
 rw [if_neg (by simp)]
 cases md with
 | drw TI pl =>
  obtain ⟨rfl,⟨tb,b1,b2,n,b3⟩,c1,c2⟩:=k4
  refine (?_:wpAny _ _ (seqItems? (.ref TI) >>= _) _ _ _)
  refine Aa (wpAny_seqItems b1 b3 ?_)
  have hp:i<pl.length:=by ext
  have ei:(pl.map λp:Nat=>rawInt p).toArray[(i:Int).toNat]? = some (rawInt pl[i]):=by simp [hp]
  dsimp only
  rw [ei]
  have hpl:=c2 pl[i] (Bl hp)
  refine (?_:wpAny _ _ (setNextDrawn S ((pl[i]:Nat):Int).toNat ((ep:Nat):Int).toNat >>= _) _ _ _)
  refine Aa ?_
  unfold setNextDrawn
  refine Aa (Bx g1 g2 hf ?_)
  rw [Int.toNat_natCast,Int.toNat_natCast]
  dsimp only
  rw [if_neg (by simp),AF hpl]
  refine Ac (Aa (Bs k1 k3 (by simp) (Ac ⟨_,rfl,q _ _ ?_ ?_ (AL ..)⟩)))
  ·unfold HH
   rw [Ar,Am hp]
   simp [Array.getD,hpl]
  ·obtain ⟨o',e1,e2,e3⟩:=DE (i:=1) (x:=rawInt ((i:Int)+1)) k1 k3
   exact ⟨SetAt.keep ⟨ob,g1,g2⟩ ne (AL ..),o',.ref TI,e1,e2.trans k2,e3,rfl,⟨tb,((AL ..).2 TI ap).trans b1,b2,n,b3⟩,c1,c2⟩
 | txt =>
  obtain ⟨bt,c,rfl⟩:=k4
  refine (?_:wpAny _ _ (setNext S ((c:Nat):Int).toNat ((i:Nat):Int).toNat ((ep:Nat):Int).toNat >>= _) _ _ _)
  refine Aa ?_
  unfold setNext
  refine Aa (Bx g1 g2 hf (Aa (DG ?_)))
  rw [if_pos bt]
  rw [Int.toNat_natCast,Int.toNat_natCast,Int.toNat_natCast]
  dsimp only
  rw [if_neg (by simp)]
  refine Aa ?_
  unfold setWalk
  refine Aa (Bx g1 g2 hf (Aa (DG ?_)))
  rw [if_pos bt]
  refine Aa (wpAny_askSetting (Ac ?_))
  have hl:i<(pickOrder (w.params.setOrder S ep) es).size:=by
   have:=(Ei (w.params.setOrder S ep) es).length_eq
   simp at this
   ext
  have ex:(pickOrder ((⟨prog,w.params⟩:Setting).params.setOrder S ep) es)[i]? = some (pickOrder (w.params.setOrder S ep) es)[i]:=AF hl
  refine Ac ?_
  have ex':Option.map (λe:Int×Value=>(e.2,c)) (pickOrder ((⟨prog,w.params⟩:Setting).params.setOrder S ep) es)[i]? = some ((pickOrder (w.params.setOrder S ep) es)[i].2,c):=by rw [ex];rfl
  refine (?_:wpAny _ _ (match Option.map (λe:Int×Value=>(e.2,c)) (pickOrder ((⟨prog,w.params⟩:Setting).params.setOrder S ep) es)[i]? with|some (x,next)=>_|none=>_) _ _ _)
  rw [ex']
  obtain ⟨o',e1,e2,e3⟩:=DE (i:=0) (x:=rawInt (c:Int)) k1 k3
  refine Aa (Bs k1 k3 (by simp) ?_)
  obtain ⟨o2,f1,f2,f3⟩:=DE (i:=1) (x:=rawInt ((i:Int)+1)) e1 e3
  refine Aa (Bs e1 e3 (by simp) (Ac ⟨_,rfl,q _ _ ?_ ?_ ((AL ..).trans (AL ..))⟩))
  ·unfold HH
   rw [Ar,Ah,AF hl]
   rfl
  ·exact ⟨(SetAt.keep ⟨ob,g1,g2⟩ ne (AL ..)).keep ne (AL ..),o2,rawInt c,f1,(f2.trans e2).trans k2,f3,bt,c,rfl⟩
 | one =>
  obtain ⟨bt,pl,sz,led,rfl⟩:=k4
  have i0:i=0:=by ext
  subst i0
  have s1:es.size=1:=by ext
  have ps:t.place.size=1:=by
   simp only [SetTable.fits,Ab,beq_iff_eq,Al] at hf
   ext
  refine (?_:wpAny _ _ (setNext S ((0:Nat):Int).toNat ((0:Nat):Int).toNat ((ep:Nat):Int).toNat >>= _) _ _ _)
  refine Aa ?_
  unfold setNext
  refine Aa (Bx g1 g2 hf (Aa (DG ?_)))
  rw [if_neg (by rw [bt];exact AQ)]
  refine EW (λz=>?_) λ_=>?_
  ·exfalso
   have z':(!t.plain&&decide (es.size > 1))=true:=z
   rw [s1] at z'
   simp at z'
  refine Aa (EW (λz=>?_) λ_=>?_)
  ·exfalso
   have z':(!t.led&&!es.isEmpty)=true:=z
   rw [led] at z'
   simp at z'
  refine Ac ?_
  have b0:=Hh (xs:=t.place) (by ext)
  have ee:es[0]? = some es[0]:=AF (by ext)
  have pe:t.place[0]? = some t.place[0]:=AF (by ext)
  have hm:(match es[SetTable.below t.place ((0:Nat):Int).toNat]?,t.place[SetTable.below t.place ((0:Nat):Int).toNat]? with|some (_,x),some j=>some (x,j+1)|_,_=>none)=some (es[0].2,t.place[0]+1):=by
   rw [show ((0:Nat):Int).toNat=0 from rfl,b0,ee,pe]
  refine (?_:wpAny _ _ (pure (match es[SetTable.below t.place ((0:Nat):Int).toNat]?,t.place[SetTable.below t.place ((0:Nat):Int).toNat]? with|some (_,x),some j=>some (x,j+1)|_,_=>none)) _ _ _)
  rw [hm]
  refine Ac ?_
  obtain ⟨o',e1,e2,e3⟩:=DE (i:=0) (x:=rawInt ((t.place[0]+1:Nat):Int)) k1 k3
  refine Aa (Bs k1 k3 (by simp) ?_)
  obtain ⟨o2,f1,f2,f3⟩:=DE (i:=1) (x:=rawInt (((0:Nat):Int)+1)) e1 e3
  refine Aa (Bs e1 e3 (by simp) (Ac ⟨_,rfl,q _ _ ?_ ?_ ((AL ..).trans (AL ..))⟩))
  ·unfold HH
   rw [Ar,Ah,ee]
   rfl
  ·refine ⟨(SetAt.keep ⟨ob,g1,g2⟩ ne (AL ..)).keep ne (AL ..),o2,rawInt ((t.place[0]+1:Nat):Int),f1,(f2.trans e2).trans k2,f3,bt,pl,sz,led,?_⟩
   have:t.place.getD 0 0=t.place[0]:=by simp [Array.getD,ps]
   rw [this]
   rfl
end
noncomputable def rk:D->Nat
 | .int _=>0|.str _=>1|.tup _=>2|_=>3
noncomputable def Fw (i j:Nat):Ordering:=if i<j then .lt else if j<i then .gt else .eq
noncomputable def GV (i j:Int):Ordering:=if i<j then .lt else if j<i then .gt else .eq
noncomputable def EN (x y:Str):Ordering:=if x.cps.toList<y.cps.toList then .lt else if y.cps.toList<x.cps.toList then .gt else .eq
noncomputable def oTh:Ordering->Ordering->Ordering
 | .eq,t=>t
 | .lt,_=>.lt
 | .gt,_=>.gt
mutual
noncomputable def B9:D->D->Ordering
 | .int i,.int j=>GV i j
 | .str x,.str y=>EN x y
 | .tup xs,.tup ys=>CG xs ys
 | a,b=>Fw (rk a) (rk b)
noncomputable def CG:List D->List D->Ordering
 | [],[]=>.eq
 | [],_::_=>.lt
 | _::_,[]=>.gt
 | x::xs,y::ys=>oTh (B9 x y) (CG xs ys)
end
def ltT (a b:D):Bool:=B9 a b==.lt
structure T3 (a b c:Ordering):Prop where
 e1:a=.eq->b=c
 e2:b=.eq->a=c
 e3:a=b->c=a
theorem Cm (i j:Nat):Fw j i=(Fw i j).swap:=by
 unfold Fw
 rcases Nat.lt_trichotomy i j with h|h|h
 ·rw [if_pos h,if_neg (by ext),if_pos h];rfl
 ·subst h;simp
 ·rw [if_pos h,if_neg (by ext),if_pos h];rfl
theorem Mj (i j:Int):GV j i=(GV i j).swap:=by
 unfold GV
 rcases Int.lt_trichotomy i j with h|h|h
 ·rw [if_pos h,if_neg (by ext),if_pos h];rfl
 ·subst h;simp
 ·rw [if_pos h,if_neg (by ext),if_pos h];rfl
theorem SD {x y:Str}:(x.cps.toList<y.cps.toList)->¬ (y.cps.toList<x.cps.toList):=λa b=>List.lt_asymm a b
theorem GK (i j:Str):EN j i=(EN i j).swap:=by
 unfold EN
 by_cases h:i.cps.toList<j.cps.toList
 ·rw [if_pos h,if_neg (SD h),if_pos h];rfl
 ·rw [if_neg h]
  by_cases h2:j.cps.toList<i.cps.toList
  ·rw [if_pos h2,if_neg h,if_pos h2];rfl
  ·rw [if_neg h2,if_neg h,if_neg h2];rfl
theorem QW {α:Type}(f:α->α->Ordering)(lt:α->α->Prop)(h1:∀ x y,lt x y->f x y=.lt∧f y x=.gt)(h0:∀ x,f x x=.eq)(tr:∀ x y z,lt x y->lt y z->lt x z)(tri:∀ x y,lt x y∨x=y∨lt y x)(a b c:α):T3 (f a b) (f b c) (f a c):=by
 rcases tri a b with h|rfl|h
 ·rcases tri b c with g|rfl|g
  ·rw [(h1 _ _ h).1,(h1 _ _ g).1,(h1 _ _ (tr _ _ _ h g)).1];exact ⟨λz=>(nomatch z),λ_=>rfl,λ_=>rfl⟩
  ·rw [(h1 _ _ h).1,h0];exact ⟨λz=>(nomatch z),λ_=>rfl,λ_=>rfl⟩
  ·rw [(h1 _ _ h).1,(h1 _ _ g).2];exact ⟨λz=>(nomatch z),λz=>(nomatch z),λz=>(nomatch z)⟩
 ·rw [h0];exact ⟨λ_=>rfl,λz=>z.symm,λz=>z.symm⟩
 ·rcases tri b c with g|rfl|g
  ·rw [(h1 _ _ h).2,(h1 _ _ g).1];exact ⟨λz=>(nomatch z),λz=>(nomatch z),λz=>(nomatch z)⟩
  ·rw [(h1 _ _ h).2,h0];exact ⟨λz=>(nomatch z),λ_=>rfl,λ_=>rfl⟩
  ·rw [(h1 _ _ h).2,(h1 _ _ g).2,(h1 _ _ (tr _ _ _ g h)).2];exact ⟨λz=>(nomatch z),λ_=>rfl,λ_=>rfl⟩
theorem Rz:∀ i j k:Nat,T3 (Fw i j) (Fw j k) (Fw i k):=
 QW Fw (·<·) (λx y h=>⟨if_pos h,by rw [Fw,if_neg (Nat.lt_asymm h),if_pos h]⟩) (λx=>by rw [Fw,if_neg (Bq x),if_neg (Bq x)]) (λ_ _ _=>Nat.lt_trans) Nat.lt_trichotomy
theorem Rv:∀ i j k:Int,T3 (GV i j) (GV j k) (GV i k):=
 QW GV (·<·) (λx y h=>⟨if_pos h,by rw [GV,if_neg (Int.lt_asymm h),if_pos h]⟩) (λx=>by rw [GV,if_neg (Int.lt_irrefl x),if_neg (Int.lt_irrefl x)]) (λ_ _ _=>Int.lt_trans) Int.lt_trichotomy
theorem Gj {i j:Str}:EN i j=.eq ↔ i=j:=by
 unfold EN
 constructor
 ·intro h
  by_cases h1:i.cps.toList<j.cps.toList
  ·rw [if_pos h1] at h;cases h
  ·rw [if_neg h1] at h
   by_cases h2:j.cps.toList<i.cps.toList
   ·rw [if_pos h2] at h;cases h
   ·exact O3 (List.le_antisymm (Std.not_lt.mp h2) (Std.not_lt.mp h1))
 ·rintro rfl
  rw [if_neg (List.lt_irrefl _),if_neg (List.lt_irrefl _)]
theorem Er {i j:Str}:EN i j=.lt ↔ i.cps.toList<j.cps.toList:=by
 unfold EN
 by_cases h1:i.cps.toList<j.cps.toList
 ·simp [h1]
 ·rw [if_neg h1]
  by_cases h2:j.cps.toList<i.cps.toList
  ·simp [h2,h1]
  ·simp [h2,h1]
theorem G0 {i j:Str}:EN i j=.gt ↔ j.cps.toList<i.cps.toList:=by
 rw [← Er,GK i j]
 cases EN i j<;>simp
theorem RP (i j k:Str):T3 (EN i j) (EN j k) (EN i k):=by
 refine ⟨λh=>?_,λh=>?_,λh=>?_⟩
 ·rw [Gj.mp h]
 ·rw [Gj.mp h]
 ·cases c:EN i j with
  | eq=>rw [Gj.mp c];rw [c] at h;exact h.symm
  | lt=>rw [c] at h;exact Er.mpr (List.lt_trans (Er.mp c) (Er.mp h.symm))
  | gt=>rw [c] at h;exact G0.mpr (List.lt_trans (G0.mp h.symm) (G0.mp c))
mutual
theorem cmp_swap:∀ (a b:D),B9 b a=(B9 a b).swap
 | .tup xs,.tup ys=>by unfold B9;exact HP xs ys
 | .int i,b=>by cases b<;>first|(unfold B9;exact Mj _ _)|(simp only [B9];exact Cm _ _)
 | .str i,b=>by cases b<;>first|(unfold B9;exact GK _ _)|(simp only [B9];exact Cm _ _)
 | .tup xs,.int _=>by simp only [B9];exact Cm _ _
 | .tup xs,.str _=>by simp only [B9];exact Cm _ _
 | .tup xs,.non=>by simp only [B9];exact Cm _ _
 | .tup xs,.bl _=>by simp only [B9];exact Cm _ _
 | .tup xs,.lst _=>by simp only [B9];exact Cm _ _
 | .tup xs,.dct _ _=>by simp only [B9];exact Cm _ _
 | .tup xs,.set _=>by simp only [B9];exact Cm _ _
 | .tup xs,.ref _=>by simp only [B9];exact Cm _ _
 | .non,b=>by cases b<;>(simp only [B9];exact Cm _ _)
 | .bl _,b=>by cases b<;>(simp only [B9];exact Cm _ _)
 | .lst _,b=>by cases b<;>(simp only [B9];exact Cm _ _)
 | .dct _ _,b=>by cases b<;>(simp only [B9];exact Cm _ _)
 | .set _,b=>by cases b<;>(simp only [B9];exact Cm _ _)
 | .ref _,b=>by cases b<;>(simp only [B9];exact Cm _ _)
theorem HP:∀ (xs ys:List D),CG ys xs=(CG xs ys).swap
 | [],[]=>rfl
 | [],_::_=>rfl
 | _::_,[]=>rfl
 | x::xs,y::ys=>by
  unfold CG
  rw [cmp_swap x y]
  cases B9 x y with
  | eq=>exact HP xs ys
  | lt=>rfl
  | gt=>rfl
end
theorem La {a b:D}(h:rk a≠rk b):B9 a b=Fw (rk a) (rk b):=by
 cases a<;>cases b<;>first|(simp only [B9];done)|(exact absurd rfl h)
theorem RH {a b:D}(h:B9 a b=.eq):rk a=rk b:=by
 refine Classical.byContradiction λz=>?_
 rw [La z] at h
 unfold Fw at h
 repeat' split at h
 all_goals first|(cases h;done)|ext
theorem T3.then' {h1 h2 h3 t1 t2 t3:Ordering}(h:T3 h1 h2 h3)(t:T3 t1 t2 t3):T3 (oTh h1 t1) (oTh h2 t2) (oTh h3 t3):=by
 obtain ⟨a,b,c⟩:=h
 cases h1 with
 | eq =>
  cases a rfl
  cases h2 with
  | eq=>exact t
  | lt=>exact (show T3 t1 .lt .lt from ⟨λ_=>rfl,λz=>(nomatch z),λz=>z.symm⟩)
  | gt=>exact (show T3 t1 .gt .gt from ⟨λ_=>rfl,λz=>(nomatch z),λz=>z.symm⟩)
 | lt =>
  cases h2 with
  | eq=>cases b rfl;exact (show T3 .lt t2 .lt from ⟨λz=>(nomatch z),λ_=>rfl,λ_=>rfl⟩)
  | lt=>cases c rfl;exact (show T3 .lt .lt .lt from ⟨λz=>(nomatch z),λ_=>rfl,λ_=>rfl⟩)
  | gt=>exact (show T3 .lt .gt _ from ⟨λz=>(nomatch z),λz=>(nomatch z),λz=>(nomatch z)⟩)
 | gt =>
  cases h2 with
  | eq=>cases b rfl;exact (show T3 .gt t2 .gt from ⟨λz=>(nomatch z),λ_=>rfl,λ_=>rfl⟩)
  | gt=>cases c rfl;exact (show T3 .gt .gt .gt from ⟨λz=>(nomatch z),λ_=>rfl,λ_=>rfl⟩)
  | lt=>exact (show T3 .gt .lt _ from ⟨λz=>(nomatch z),λz=>(nomatch z),λz=>(nomatch z)⟩)
theorem T3.of_rk {a b c:D}(h:¬ (rk a=rk b∧rk b=rk c)):T3 (B9 a b) (B9 b c) (B9 a c):=by
 have n3:=Rz (rk a) (rk b) (rk c)
 have sg:∀ x y:D,rk x≠rk y->B9 x y≠.eq:=λx y z e=>z (RH e)
 have lt:∀ x y:D,rk x<rk y->B9 x y=.lt:=λx y z=>by rw [La (by ext)];unfold Fw;rw [if_pos z]
 have gt:∀ x y:D,rk y<rk x->B9 x y=.gt:=λx y z=>by rw [La (by ext)];unfold Fw;rw [if_neg (by ext),if_pos z]
 rcases Nat.lt_trichotomy (rk a) (rk b) with h1|h1|h1<;>rcases Nat.lt_trichotomy (rk b) (rk c) with h2|h2|h2
 ·rw [lt a b h1,lt b c h2,lt a c (by ext)];exact ⟨λz=>(nomatch z),λ_=>rfl,λ_=>rfl⟩
 ·rw [lt a b h1,lt a c (by ext)];exact ⟨λz=>(nomatch z),λ_=>rfl,λ_=>rfl⟩
 ·rw [lt a b h1,gt b c h2];exact ⟨λz=>(nomatch z),λz=>(nomatch z),λz=>(nomatch z)⟩
 ·rw [lt b c h2,lt a c (by ext)];exact ⟨λ_=>rfl,λz=>(nomatch z),λz=>z.symm⟩
 ·exact absurd ⟨h1,h2⟩ h
 ·rw [gt b c h2,gt a c (by ext)];exact ⟨λ_=>rfl,λz=>(nomatch z),λz=>z.symm⟩
 ·rw [gt a b h1,lt b c h2];exact ⟨λz=>(nomatch z),λz=>(nomatch z),λz=>(nomatch z)⟩
 ·rw [gt a b h1,gt a c (by ext)];exact ⟨λz=>(nomatch z),λ_=>rfl,λ_=>rfl⟩
 ·rw [gt a b h1,gt b c h2,gt a c (by ext)];exact ⟨λz=>(nomatch z),λ_=>rfl,λ_=>rfl⟩
theorem Nr {b:D}(h:0=rk b):∃ j,b=.int j:=by cases b<;>first|exact ⟨_,rfl⟩|cases h
theorem Oq {b:D}(h:1=rk b):∃ j,b=.str j:=by cases b<;>first|exact ⟨_,rfl⟩|cases h
theorem NL {b:D}(h:2=rk b):∃ j,b=.tup j:=by cases b<;>first|exact ⟨_,rfl⟩|cases h
theorem S5 {a b:D}(ha:3=rk a)(hb:3=rk b):B9 a b=.eq:=by
 cases a<;>first|(cases ha;done)|(cases b<;>first|(cases hb;done)|rfl)
theorem T3.of_o {a b c:D}(h:3=rk a):T3 (B9 a b) (B9 b c) (B9 a c):=by
 by_cases e:rk a=rk b∧rk b=rk c
 ·have h2:=h.trans e.1
  rw [S5 h h2,S5 h2 (h2.trans e.2),S5 h (h2.trans e.2)]
  exact ⟨λ_=>rfl,λ_=>rfl,λ_=>rfl⟩
 ·exact .of_rk e
mutual
theorem QP:∀ (a b c:D),T3 (B9 a b) (B9 b c) (B9 a c)
 | .tup xs,b,c=>by
  by_cases e:rk (.tup xs)=rk b∧rk b=rk c
  ·obtain ⟨ys,rfl⟩:=NL e.1
   obtain ⟨zs,rfl⟩:=NL e.2
   unfold B9
   exact Oh xs ys zs
  ·exact .of_rk e
 | .int i,b,c=>by
  by_cases e:rk (.int i)=rk b∧rk b=rk c
  ·obtain ⟨j,rfl⟩:=Nr e.1
   obtain ⟨k,rfl⟩:=Nr e.2
   unfold B9
   exact Rv _ _ _
  ·exact .of_rk e
 | .str i,b,c=>by
  by_cases e:rk (.str i)=rk b∧rk b=rk c
  ·obtain ⟨j,rfl⟩:=Oq e.1
   obtain ⟨k,rfl⟩:=Oq e.2
   unfold B9
   exact RP _ _ _
  ·exact .of_rk e
 | .non,_,_=>.of_o rfl
 | .bl _,_,_=>.of_o rfl
 | .lst _,_,_=>.of_o rfl
 | .dct _ _,_,_=>.of_o rfl
 | .set _,_,_=>.of_o rfl
 | .ref _,_,_=>.of_o rfl
theorem Oh:∀ (xs ys zs:List D),T3 (CG xs ys) (CG ys zs) (CG xs zs)
 | [],[],[]=>⟨λ_=>rfl,λ_=>rfl,λ_=>rfl⟩
 | [],[],_::_=>⟨λ_=>rfl,λz=>(nomatch z),λz=>(nomatch z)⟩
 | [],_::_,[]=>⟨λz=>(nomatch z),λz=>(nomatch z),λz=>(nomatch z)⟩
 | [],y::ys,z::zs=>⟨λz=>(nomatch z),λ_=>rfl,λ_=>rfl⟩
 | x::xs,[],[]=>⟨λz=>(nomatch z),λ_=>rfl,λz=>(nomatch z)⟩
 | x::xs,[],_::_=>⟨λz=>(nomatch z),λz=>(nomatch z),λz=>(nomatch z)⟩
 | x::xs,y::ys,[]=>⟨λ_=>rfl,λz=>(nomatch z),λz=>z.symm⟩
 | x::xs,y::ys,z::zs=>by
  unfold CG
  exact (QP x y z).then' (Oh xs ys zs)
end
theorem Gk (a b:D)(h:ltT a b=true):ltT b a=false:=by
 unfold ltT at *
 rw [cmp_swap a b]
 cases c:B9 a b<;>rw [c] at h<;>first|rfl|cases h
theorem KN (a b c:D)(h1:ltT b a=false)(h2:ltT c b=false):ltT c a=false:=by
 unfold ltT at *
 have t:=QP c b a
 cases q:B9 c b with
 | eq=>rw [← t.e1 q];exact h1
 | lt=>rw [q] at h2;cases h2
 | gt =>
  cases q2:B9 b a with
  | eq=>rw [← t.e2 q2,q];rfl
  | lt=>rw [q2] at h1;cases h1
  | gt=>rw [t.e3 (q.trans q2.symm),q];rfl
mutual
noncomputable def Dv:D->Bool
 | .int _=>true
 | .str _=>true
 | .tup ds=>Ej ds
 | _=>false
noncomputable def Ej:List D->Bool
 | []=>true
 | d::ds=>Dv d&&Ej ds
end
mutual
theorem IB:∀ {d:D},Dv d=true->hsh d=true
 | .int _,_=>rfl
 | .str _,_=>rfl
 | .tup ds,h=>by unfold Dv at h;unfold hsh;exact JB h
 | .non,h=>nomatch h
 | .bl _,h=>nomatch h
 | .lst _,h=>nomatch h
 | .dct _ _,h=>nomatch h
 | .set _,h=>nomatch h
 | .ref _,h=>nomatch h
theorem JB:∀ {ds:List D},Ej ds=true->Fm ds=true
 | [],_=>rfl
 | d::ds,h=>by
  unfold Ej at h
  rw [Ab] at h
  unfold Fm
  rw [IB h.1,JB h.2]
  rfl
end
mutual
theorem KJ:∀ (a b:D),Dv a=true->Dv b=true->B9 a b=.eq->a=b
 | .int i,b,_,hb,h=>by
  cases b<;>first|(cases hb;done)|(simp [B9,Fw,rk] at h;done)|skip
  rename_i j
  unfold B9 GV at h
  repeat' split at h
  all_goals first|(cases h;done)|(congr 1;ext)
 | .str i,b,_,hb,h=>by
  cases b<;>first|(cases hb;done)|(simp [B9,Fw,rk] at h;done)|skip
  unfold B9 at h
  rw [Gj.mp h]
 | .tup xs,b,ha,hb,h=>by
  cases b<;>first|(cases hb;done)|(simp [B9,Fw,rk] at h;done)|skip
  unfold B9 at h
  unfold Dv at ha hb
  congr 1
  exact L6 xs _ ha hb h
 | .non,_,h,_,_=>nomatch h
 | .bl _,_,h,_,_=>nomatch h
 | .lst _,_,h,_,_=>nomatch h
 | .dct _ _,_,h,_,_=>nomatch h
 | .set _,_,h,_,_=>nomatch h
 | .ref _,_,h,_,_=>nomatch h
theorem L6:∀ (xs ys:List D),Ej xs=true->Ej ys=true->CG xs ys=.eq->xs=ys
 | [],[],_,_,_=>rfl
 | [],_::_,_,_,h=>by cases h
 | _::_,[],_,_,h=>by cases h
 | x::xs,y::ys,ha,hb,h=>by
  unfold Ej at ha hb
  rw [Ab] at ha hb
  unfold CG at h
  cases c:B9 x y<;>rw [c] at h<;>first|(cases h;done)|skip
  rw [KJ x y ha.1 hb.1 c,L6 xs ys ha.2 hb.2 h]
end
theorem lt_eq (a b:D)(ha:Dv a=true)(hb:Dv b=true)(h1:ltT a b=false)(h2:ltT b a=false):a=b:=by
 refine KJ a b ha hb ?_
 unfold ltT at h1 h2
 rw [cmp_swap a b] at h2
 cases c:B9 a b with
 | eq=>rfl
 | lt=>rw [c] at h1;cases h1
 | gt=>rw [c] at h2;cases h2
theorem JC (a:D):B9 a a=.eq:=by
 have:=cmp_swap a a
 cases c:B9 a a<;>rw [c] at this<;>first|rfl|cases this
mutual
theorem QV:∀ (a b:D) (r:Bool),Dv a=true->Dv b=true->ltB a b=some r->r=(B9 a b==.lt)
 | .int i,b,r,_,hb,h=>by
  cases b<;>first|(cases hb;done)|(unfold ltB at h;cases h;done)|skip
  rename_i j
  unfold ltB at h
  cases h
  unfold B9 GV
  by_cases c:i<j
  ·simp [c]
  ·rw [A1 c,if_neg c];split<;>rfl
 | .str i,b,r,_,hb,h=>by
  cases b<;>first|(cases hb;done)|(unfold ltB at h;cases h;done)|skip
  rename_i j
  unfold ltB at h
  cases h
  unfold B9
  by_cases c:i.cps.toList<j.cps.toList
  ·rw [Br c,Er.mpr c];rfl
  ·rw [A1 c]
   have:EN i j≠.lt:=λz=>c (Er.mp z)
   cases e:EN i j<;>first|rfl|exact absurd e this
 | .tup xs,b,r,ha,hb,h=>by
  cases b<;>first|(cases hb;done)|(unfold ltB at h;cases h;done)|skip
  unfold ltB at h
  unfold B9
  unfold Dv at ha hb
  exact Oc xs _ r ha hb h
 | .non,_,_,h,_,_=>nomatch h
 | .bl _,_,_,h,_,_=>nomatch h
 | .lst _,_,_,h,_,_=>nomatch h
 | .dct _ _,_,_,h,_,_=>nomatch h
 | .set _,_,_,h,_,_=>nomatch h
 | .ref _,_,_,h,_,_=>nomatch h
theorem Oc:∀ (xs ys:List D) (r:Bool),Ej xs=true->Ej ys=true->ET xs ys=some r->r=(CG xs ys==.lt)
 | [],[],r,_,_,h=>by unfold ET at h;cases h;rfl
 | [],_::_,r,_,_,h=>by unfold ET at h;cases h;rfl
 | _::_,[],r,_,_,h=>by unfold ET at h;cases h;rfl
 | x::xs,y::ys,r,ha,hb,h=>by
  unfold Ej at ha hb
  rw [Ab] at ha hb
  unfold ET at h
  split at h
  ·rw [Fh (IB ha.1) (IB hb.1)] at h
   unfold CG
   by_cases c:x=y
   ·rw [Br c] at h
    subst c
    rw [JC]
    exact Oc xs ys r ha.2 hb.2 (by simpa using h)
   ·rw [A1 c] at h
    have e:=QV x y r ha.1 hb.1 (by simpa using h)
    rw [e]
    cases q:B9 x y with
    | eq=>exact absurd (KJ x y ha.1 hb.1 q) c
    | lt=>rfl
    | gt=>rfl
  ·cases h
end
def leT (a b:D):Bool:=!ltT b a
def Dx (es:List D):List D:=es.mergeSort leT
theorem MT (a b c:D)(h1:leT a b=true)(h2:leT b c=true):leT a c=true:=by
 unfold leT at *
 simp at h1 h2 ⊢
 exact KN a b c h1 h2
theorem MU (a b:D):(leT a b||leT b a)=true:=by
 unfold leT
 cases c:ltT b a with
 | false=>rfl
 | true=>simp [Gk b a c]
theorem CF (es:List D):(Dx es).Perm es:=List.mergeSort_perm es leT
theorem G2 (es:List D):(Dx es).Pairwise λa b=>leT a b=true:=List.pairwise_mergeSort MT MU es
theorem Gm {es rs:List D}(ho:∀ d∈es,Dv d=true)(hp:rs.Perm es)(hs:rs.Pairwise λa b=>leT a b=true):rs=Dx es:=by
 have hp2:=hp.trans (CF es).symm
 refine List.Perm.eq_of_pairwise (λa b ha hb h1 h2=>?_) hs (G2 es) hp2
 unfold leT at h1 h2
 simp at h1 h2
 exact lt_eq a b (ho a (hp.mem_iff.mp ha)) (ho b ((CF es).mem_iff.mp hb)) h2 h1
theorem HR {es fs:List D}(ho:∀ d∈es,Dv d=true)(hp:fs.Perm es):Dx fs=Dx es:=Gm ho ((CF fs).trans hp) (G2 fs)
section
variable {prog:Program} {w:World} {A:Around} {E:Value->Shared->Prop} {s:Shared}
theorem Mi {S I:Addr}{es:Array (Int×Value)}{ep:Nat}{t:SetTable}{md:Md}{Q:PySem.Fin->Shared->Prop}(hh:A.handled=none)(hf:t.fits es.size=true)(g:SIt w S I es ep t md es.size s.heap)
  (q:∀ h' e,(∀ c o,c≠I->s.heap.get? c=some o->h'.get? c=some o)->(∃ o,h'.get? e=some o∧o.cls=.type "StopIteration")->E (.ref e) { s with heap:=h' }) :
  wpAny (model prog w) A (Builtin.«set_iterator.__next__» ⟨[.ref I],[]⟩) Q E s:=by
 obtain ⟨⟨ob,g1,g2⟩,o,v,k1,k2,k3,k4⟩:=id g
 have upd:∀ (h:Heap) f c o',c≠I->h.get? c=some o'->(h.update I f).get? c=some o':=λh f c o' hc e=>((AL ..).2 c hc).trans e
 refine (?_:wpAny _ _ (fieldsOf (.ref I) >>= _) _ _ _)
 refine Aa (wpAny_fieldsOf k1 k3 (?_:wpAny _ _ (setEntries S >>= _) _ _ _))
 refine Aa (wpAny_setEntries_of g1 g2 hf ?_)
 rw [if_neg (by simp)]
 cases md with
 | drw TI pl =>
  obtain ⟨rfl,⟨tb,b1,b2,n,b3⟩,c1,c2⟩:=k4
  refine (?_:wpAny _ _ (seqItems? (.ref TI) >>= _) _ _ _)
  refine Aa (wpAny_seqItems b1 b3 ?_)
  have ei:(pl.map λp:Nat=>rawInt p).toArray[((es.size:Nat):Int).toNat]? = none:=by simp [c1]
  dsimp only
  rw [ei]
  obtain ⟨o',e1,e2,e3⟩:=DE (i:=0) (x:=rawInt 0) k1 k3
  refine Aa (Bs k1 k3 (by simp) (Aa (Bs e1 e3 (by simp) ?_)))
  exact E6 (I:=I) hh λh' e a b=>q h' e (λc o hc z=>a c o (upd _ _ c o hc (upd _ _ c o hc z))) b
 | txt =>
  obtain ⟨bt,c,rfl⟩:=k4
  refine (?_:wpAny _ _ (setNext S ((c:Nat):Int).toNat ((es.size:Nat):Int).toNat ((ep:Nat):Int).toNat >>= _) _ _ _)
  refine Aa ?_
  unfold setNext
  refine Aa (Bx g1 g2 hf (Aa (DG ?_)))
  rw [if_pos bt]
  rw [Int.toNat_natCast,Int.toNat_natCast,Int.toNat_natCast]
  dsimp only
  rw [if_neg (by simp)]
  refine Aa ?_
  unfold setWalk
  refine Aa (Bx g1 g2 hf (Aa (DG ?_)))
  rw [if_pos bt]
  refine Aa (wpAny_askSetting (Ac (Ac ?_)))
  have hl:(pickOrder (w.params.setOrder S ep) es).size=es.size:=by
   have:=(Ei (w.params.setOrder S ep) es).length_eq
   simpa using this
  have ex':Option.map (λe:Int×Value=>(e.2,c)) (pickOrder ((⟨prog,w.params⟩:Setting).params.setOrder S ep) es)[es.size]? = none:=by
   rw [Bd (by rw [show (⟨prog,w.params⟩:Setting).params.setOrder S ep=w.params.setOrder S ep from rfl,hl];exact Ak _)];rfl
  refine (?_:wpAny _ _ (match Option.map (λe:Int×Value=>(e.2,c)) (pickOrder ((⟨prog,w.params⟩:Setting).params.setOrder S ep) es)[es.size]? with|some (x,next)=>_|none=>_) _ _ _)
  rw [ex']
  refine Aa (Bs k1 k3 (by simp) ?_)
  exact E6 (I:=I) hh λh' e a b=>q h' e (λc o hc z=>a c o (upd _ _ c o hc z)) b
 | one =>
  obtain ⟨bt,pl,sz,led,rfl⟩:=k4
  refine (?_:wpAny _ _ (setNext S ((if es.size=0 then 0 else (t.place.getD 0 0+1):Nat):Int).toNat ((es.size:Nat):Int).toNat ((ep:Nat):Int).toNat >>= _) _ _ _)
  refine Aa ?_
  unfold setNext
  refine Aa (Bx g1 g2 hf (Aa (DG ?_)))
  rw [if_neg (by rw [bt];exact AQ)]
  refine EW (λz=>?_) λ_=>?_
  ·exfalso
   have z':(!t.plain&&decide (es.size > 1))=true:=z
   simp at z'
   ext
  refine Aa (EW (λz=>?_) λ_=>?_)
  ·exfalso
   have z':(!t.led&&!es.isEmpty)=true:=z
   rw [led] at z'
   simp at z'
  refine Ac ?_
  have ps:t.place.size=es.size:=by
   simp only [SetTable.fits,Ab,beq_iff_eq,Al] at hf
   exact hf.1
  have bl:SetTable.below t.place (if es.size=0 then 0 else (t.place.getD 0 0+1))=es.size:=by
   by_cases c:es.size=0
   ·rw [if_pos c,Hh (by ext),c]
   ·rw [if_neg c,Kh (by ext)];ext
  have en:es[es.size]? = none:=Bd (Ak _)
  have hm:(match es[SetTable.below t.place ((if es.size=0 then 0 else (t.place.getD 0 0+1):Nat):Int).toNat]?,t.place[SetTable.below t.place ((if es.size=0 then 0 else (t.place.getD 0 0+1):Nat):Int).toNat]? with|some (_,x),some j=>some (x,j+1)|_,_=>none)=none:=by
   rw [Int.toNat_natCast,bl,en]
  refine (?_:wpAny _ _ (pure (match es[SetTable.below t.place ((if es.size=0 then 0 else (t.place.getD 0 0+1):Nat):Int).toNat]?,t.place[SetTable.below t.place ((if es.size=0 then 0 else (t.place.getD 0 0+1):Nat):Int).toNat]? with|some (_,x),some j=>some (x,j+1)|_,_=>none)) _ _ _)
  rw [hm]
  refine Ac (Aa (Bs k1 k3 (by simp) ?_))
  exact E6 (I:=I) hh λh' e a b=>q h' e (λc o hc z=>a c o (upd _ _ c o hc z)) b
theorem SIt.ty {S I:Addr}{es:Array (Int×Value)}{ep:Nat}{t:SetTable}{md:Md}{i:Nat}(g:SIt w S I es ep t md i s.heap):s.TypeIs (.ref I) "set_iterator":=let ⟨_,o,v,k1,k2,_⟩:=g;⟨o,k1,k2⟩
noncomputable def Md.fp (S I:Addr):Md->List Addr
 | .drw TI _=>[I,S,TI]
 | _=>[I,S]
theorem GU:entryFor table "set_iterator.__iter__"=some Builtin.«dict_keyiterator.__iter__»:=
 entryFor_alias (id':="dict_keyiterator.__iter__") (by kernel_rfl) rfl (by symm) (by kernel_rfl)
theorem G4 (a:Value):argsOk "set_iterator.__iter__" ⟨[a],[]⟩:=by
 unfold argsOk;rw [signature?_of (id:="set_iterator.__iter__") (n:=['_','_','r','e','t','i','_','_']) (o:=['r','o','t','a','r','e','t','i','_','t','e','s']) (by kernel_rfl) Hi];kernel_rfl
theorem HU (hh:A.handled=none){S I:Addr}{es:Array (Int×Value)}{ep:Nat}{t:SetTable}{md:Md}(hf:t.fits es.size=true)(ne:S≠I)(ap:md.apart I) :
  Walks prog w A I (md.fp S I) [I] es.size (λi v=>(HH w S es ep md)[i]? = some v) (λi h=>SIt w S I es ep t md i h) where
 sub:=λb hb=>by rw [Aq.mp hb];cases md<;>simp [Md.fp]
 frame:=λ_ h h' st hk=>by
  obtain ⟨⟨ob,g1,g2⟩,o,v,k1,k2,k3,k4⟩:=st
  refine ⟨⟨ob,hk S (by cases md<;>simp [Md.fp]) _ g1,g2⟩,o,v,hk I (by cases md<;>simp [Md.fp]) _ k1,k2,k3,?_⟩
  cases md with
  | drw TI pl=>obtain ⟨a,⟨tb,b1,b2⟩,c⟩:=k4;exact ⟨a,⟨tb,hk TI (by simp [Md.fp]) _ b1,b2⟩,c⟩
  | txt=>exact k4
  | one=>exact k4
 item:=λ_ s Q E hi st hQ=>by
  unfold pyNext
  exact Aa (wpAny_attempt (A6 (name:=Str.ofString "__next__") st.ty CH (AY CH st.ty Fi (MJ hf ne ap st hi λv h' e g' sb=>Ac (hQ v h' s.toks e g' λb o hb z=>(sb.2 b (by simpa using hb)).trans z)) (FD _))))
 done:=λs Q E st hQ=>by
  unfold pyNext
  refine Aa (wpAny_attempt (A6 (name:=Str.ofString "__next__") st.ty CH (AY CH st.ty Fi (Mi hh hf st λh' e a b=>?_) (FD _))))
  obtain ⟨o,ho,hc⟩:=b
  exact Aa (wpAny_isInstance (T:="StopIteration") (b:=true) ⟨o,ho,hc⟩ isSubtype_stop (Ac (hQ h' s.toks λb o hb z=>a b o (by simpa using hb) z)))
 self:=λi s Q E st hQ=>by
  refine wpAny_pyIter_slot st.ty Ft (AY Ft st.ty GU ?_ (G4 _))
  refine (?_:wpAny _ _ (ret (.ref I)) _ _ s)
  exact Ac ⟨_,rfl,"set_iterator",_,st.ty,CH.lookup,hQ⟩
theorem HA:entryFor table "set.__iter__"=some Builtin.«frozenset.__iter__»:=
 entryFor_alias (id':="frozenset.__iter__") (by kernel_rfl) (by symm) (by symm) (by kernel_rfl)
theorem Kv {S:Addr}{ob:Obj}{es:Array (Int×Value)}{ep:Nat}{t:SetTable}{Q:Value->Shared->Prop}(hz:es.size≤sizeLine)(g1:s.heap.get? S=some ob)(gc:ob.cls=.type "set")(g2:ob.data=.set es ep t)(hf:t.fits es.size=true)(hw:Fe w=true∨t.led=true∧(t.plain=false∨es.size≤1))
  (q:∀ I h' d' md,s.heap.objs.size≤I->SIt w S I es ep t md 0 h'->md.apart I->(∀ b o,s.heap.get? b=some o->h'.get? b=some o)->(HH w S es ep md).Perm (es.toList.map (·.2))->(∀ b∈md.fp S I,b<h'.objs.size)->Q (.ref I) { s with heap:=h',drawn:=d' }):wpAny (model prog w) A (pyIter (.ref S)) Q E s:=by
 have ty:s.TypeIs (.ref S) "set":=⟨ob,g1,gc⟩
 refine wpAny_pyIter_slot ty F.slot_set_iter (AY F.slot_set_iter ty HA ?_ (F.args_set_iter_1 _))
 refine (?_:wpAny _ _ (Builtin.Frozenset.sizeOf S >>= _) _ _ s)
 refine Aa (Aa (wpAny_setEntries_of g1 g2 hf (Ac ?_)))
 have lt:S<s.heap.objs.size:=Ax g1
 have fin:∀ (h1:Heap) d1 (md:Md) (v:Value),(∀ b o,s.heap.get? b=some o->h1.get? b=some o)->s.heap.objs.size≤h1.objs.size->Fst w es t h1 0 v md->(∀ TI pl,md=.drw TI pl->TI<h1.objs.size)->(HH w S es ep md).Perm (es.toList.map (·.2)) ->
   wpAny (model prog w) A.in1 (setEpoch S >>= λe=>newFields "set_iterator" [v,rawInt 0,.ref S,rawInt es.size,rawInt e] >>= λr=>ret r) (λfin s'=>∃ v,fin=.done (.ret v)∧∃ T' r,s'.TypeIs v T'∧typeLookup (.type T') "__next__"=pure (some r)∧Q v s') E { s with heap:=h1,drawn:=d1 }:=λh1 d1 md v hk hsz hF hTI hp=>by
  refine Aa (wpAny_setEpoch_of (s:={ s with heap:=h1,drawn:=d1 }) (hk _ _ g1) g2 hf (Aa ?_))
  unfold newFields
  refine A3 (Ac ⟨_,rfl,"set_iterator",_,⟨_,Av _ rfl,rfl⟩,CH.lookup,?_⟩) (by size_fits)
  refine q h1.objs.size _ d1 md hsz ⟨⟨ob,Af _ (hk _ _ g1),g2⟩,_,v,Av _ rfl,rfl,rfl,?_⟩ ?_ (λb o e=>Af _ (hk b o e)) hp ?_
  ·cases md with
   | drw TI pl=>obtain ⟨a,⟨tb,b1,b2⟩,c⟩:=hF;exact ⟨a,⟨tb,Af _ b1,b2⟩,c⟩
   | txt=>exact hF
   | one=>exact hF
  ·cases md with
   | drw TI pl=>exact AJ (hTI TI pl rfl)
   | txt=>exact True.intro
   | one=>exact True.intro
  ·intro b hb
   rw [Heap.size_push]
   have lS:=By (AD lt hsz)
   cases md with
   | drw TI pl =>
    have:=hTI TI pl rfl
    simp only [Md.fp,AH,Bj,or_false] at hb
    rcases hb with rfl|rfl|rfl
    ·exact Bm _
    ·exact lS
    ·exact By this
   | txt =>
    simp only [Md.fp,AH,Bj,or_false] at hb
    rcases hb with rfl|rfl
    ·exact Bm _
    ·exact lS
   | one =>
    simp only [Md.fp,AH,Bj,or_false] at hb
    rcases hb with rfl|rfl
    ·exact Bm _
    ·exact lS
 refine (?_:wpAny _ _ (setDrawn S >>= _) _ _ s)
 refine Aa ?_
 unfold setDrawn
 refine Aa (Bx g1 g2 hf (Aa (DG (Ac ?_))))
 refine EW (λc=>?_) λc=>?_
 ·have c':(!Fe w&&(!t.plain&&decide (es.size > 1)))=true:=c
  refine Aa (Jr es.size (List.range es.size) (by simp) λys d' p=>?_)
  unfold newTuple
  refine Aa (A3 ?_ (by
   show ((ys.map λi:Nat=>rawInt i).toArray).size≤sizeLine
   rw [Ap,Ae,p.length_eq,List.length_range];exact hz))
  have sz:(s.heap.push { cls:=.type "tuple",data:=.seq (ys.map λi:Nat=>rawInt i).toArray }).objs.size=s.heap.objs.size+1:=Heap.size_push ..
  refine fin _ d' (.drw s.heap.objs.size ys) _ (λb o e=>Af _ e) (by rw [sz];ext) ⟨rfl,⟨_,Av _ rfl,rfl,_,rfl⟩,by rw [p.length_eq,List.length_range],λx hx=>List.mem_range.mp (p.mem_iff.mp hx)⟩ (λTI pl e=>by cases e;rw [sz];exact Bm _) ?_
  unfold HH
  have e1:(List.range es.size).map (λp=>(es.getD p (0,.none)).2)=es.toList.map (·.2):=by
   refine BK λi=>?_
   rw [Ar,Ar,Ah]
   by_cases hi:i<es.size
   ·simp [hi,Array.getD]
   ·simp [hi]
  rw [← e1]
  exact p.map _
 ·have c':¬ (!Fe w&&(!t.plain&&decide (es.size > 1)))=true:=c
  by_cases bt:Fe w=true
  ·refine fin s.heap s.drawn .txt (rawInt 0) (λ_ _ e=>e) (Ak _) ⟨bt,0,rfl⟩ (λTI pl e=>nomatch e) ?_
   exact (Ei _ es).map _
  ·have bf:Fe w=false:=by simpa using bt
   have hw':=hw.resolve_left bt
   have sz:es.size≤1:=by
    rw [bf] at c'
    rcases hw'.2 with z|z
    ·rw [z] at c';simp at c';ext
    ·exact z
   exact fin s.heap s.drawn .one (rawInt 0) (λ_ _ e=>e) (Ak _) ⟨bf,hw'.2,sz,hw'.1,rfl⟩ (λTI pl e=>nomatch e) (A7 _)
theorem K6 {S:Addr}{ob:Obj}{es:Array (Int×Value)}{ep:Nat}{t:SetTable}{Q:List Value->Shared->Prop}(hh:A.handled=none)(hz:es.size≤sizeLine)(g1:s.heap.get? S=some ob)(gc:ob.cls=.type "set")(g2:ob.data=.set es ep t)(hf:t.fits es.size=true)(hw:Fe w=true∨t.led=true∧(t.plain=false∨es.size≤1))
  (q:∀ zs h' tk d',zs.Perm (es.toList.map (·.2))->(∀ b o,s.heap.get? b=some o->h'.get? b=some o)->Q zs { s with heap:=h',toks:=tk,drawn:=d' }):wpAny (model prog w) A (collect (.ref S)) Q E s:=by
 have lt:S<s.heap.objs.size:=Ax g1
 have nS:s.heap.objs.size≠S:=Nat.ne_of_gt lt
 unfold collect
 refine Aa (wpAny_runValue (codeAny_builtin F.entry_proto_collect ?_))
 (rw [Around.under_plainId F.plain_proto_collect _])
 refine (?_:wpAny _ A.in1 (newList [] >>= λl=>again (.builtin "list.__iadd__" ⟨[l,.ref S],[]⟩)) _ _ s)
 refine Aa (A3 (Ac ⟨plainId_quiet F.plain_list_iadd _,codeAny_builtin F.entry_list_iadd ?_⟩))
 (rw [Around.under_plainId F.plain_list_iadd _])
 refine (?_:wpAny _ A.in1 (Builtin.List.listExtendWith (.ref s.heap.objs.size) (.ref S) (.ref s.heap.objs.size)) _ _ _)
 (unfold Builtin.List.listExtendWith)
 have gS:(s.heap.push { cls:=.type "list",data:=.seq ([]:List Value).toArray }).get? S=some ob:=Af _ g1
 have gL:(s.heap.push { cls:=.type "list",data:=.seq ([]:List Value).toArray }).get? s.heap.objs.size=some { cls:=.type "list",data:=.seq ([]:List Value).toArray }:=Av _ rfl
 generalize hP:s.heap.push { cls:=.type "list",data:=.seq ([]:List Value).toArray }=h1 at gS gL ⊢
 have k1:∀ b o,s.heap.get? b=some o->h1.get? b=some o:=λb o e=>by rw [← hP];exact Af _ e
 have sz1:h1.objs.size=s.heap.objs.size+1:=by rw [← hP];exact Heap.size_push ..
 have ty:Shared.TypeIs { s with heap:=h1 } (.ref S) "set":=⟨ob,gS,gc⟩
 refine Aa (wpAny_typeOf ty ?_)
 have e1:Builtin.List.listSameRef (.ref s.heap.objs.size) (.ref S)=false:=by simp [Builtin.List.listSameRef,nS]
 have e2:(Value.type "set"==Value.type "list")=false:=by decide
 have e3:(Value.type "set"==Value.type "tuple")=false:=by decide
 simp only [e1,e2,e3,Bool.or_false,AZ,if_false]
 refine Aa (Kv (s:={ s with heap:=h1 }) hz gS gc g2 hf hw λI h2 d2 md hI st ap k2 pm fpl=>?_)
 refine Aa (AS ?_)
 have ty2:Shared.TypeIs { s with heap:=h2,drawn:=d2 } (.ref S) "set":=⟨ob,k2 _ _ gS,gc⟩
 (unfold Builtin.List.listLengthHint)
 refine Aa (wpAny_specialOf ty2 F.slot_set_len.lookup ?_)
 refine (?_:wpAny _ A.in1 (isInstance (Value.ref S) (.type "set") >>= _) _ _ _)
 refine Aa (wpAny_isInstance ty2 sub_set_self ?_)
 refine (?_:wpAny _ A.in1 (typeOf (Value.ref S) >>= _) _ _ _)
 refine Aa (wpAny_typeOf ty2 (Ac ?_))
 refine (?_:wpAny _ A.in1 (rule "list.extend.makes-room" >>= λ_=>Builtin.List.listTouch (.ref s.heap.objs.size) >>= λ_=>again (.builtin "list.extend.loop" ⟨[.ref s.heap.objs.size,.ref I,.ref s.heap.objs.size],[]⟩)) _ _ _)
 refine Aa (Bc (Aa ?_))
 refine (?_:wpAny _ A.in1 (updateSeq s.heap.objs.size (·.push .none) >>= λ_=>updateSeq s.heap.objs.size (·.pop)) _ _ _)
 have gL2:=k2 _ _ gL
 refine Aa (wpAny_updateSeq gL2 rfl ?_)
 have gL3:=A5 (Obj.mapSeq (·.push Value.none)) gL2 rfl
 refine wpAny_updateSeq gL3 rfl ?_
 have gL4:=A5 (Obj.mapSeq (·.pop)) gL3 rfl
 have nL:s.heap.objs.size∉md.fp S I:=by
  have nI:s.heap.objs.size≠I:=λe=>by
   have:s.heap.objs.size+1≤I:=by rw [← sz1];exact hI
   rw [← e] at this
   exact absurd this (Nat.not_succ_le_self _)
  cases md with
  | drw TI pl =>
   obtain ⟨_,o,v,_,_,_,_,⟨tb,b1,b2,_⟩,_⟩:=st
   have nT:s.heap.objs.size≠TI:=λe=>by
    rw [← e,gL2] at b1
    cases b1
    exact absurd b2 (by decide)
   simp only [Md.fp,AH,Bj,or_false,not_or]
   exact ⟨nI,nS,nT⟩
  | txt=>simp only [Md.fp,AH,Bj,or_false,not_or];exact ⟨nI,nS⟩
  | one=>simp only [Md.fp,AH,Bj,or_false,not_or];exact ⟨nI,nS⟩
 have oth:∀ b o,b≠s.heap.objs.size->h2.get? b=some o->((h2.update s.heap.objs.size (Obj.mapSeq (·.push Value.none))).update s.heap.objs.size (Obj.mapSeq (·.pop))).get? b=some o:=
  λb o hb e=>(Bv _ _ (Ne.symm hb)).trans ((Bv _ _ (Ne.symm hb)).trans e)
 have nSI:S≠I:=λe=>by
  have a:s.heap.objs.size+1≤I:=by rw [← sz1];exact hI
  rw [← e] at a
  exact absurd (AD lt (AM (Nat.le_succ _) a)) (Bq _)
 have W:=(HU (prog:=prog) (A:=A.in1) (w:=w) (ep:=ep) hh hf nSI ap).toS
 refine Ac ⟨plainId_quiet F.plain_extend_loop _,codeAny_extend_loopS (A:=A) W hz _ nL _ es.size 0 _ _ _ rfl (AW _) ?_ gL4 (ItemsOf.nil _) λs' acc' c' hm hS' hacc=>?_⟩
 ·exact (HU (prog:=prog) (A:=A.in1) (w:=w) (ep:=ep) hh hf nSI ap).frame 0 _ _ st λb hb o e=>oth b o (λz=>nL (z▸hb)) e
 refine (?_:wpAny _ A (load s.heap.objs.size >>= _) _ _ s')
 refine Aa (wpAny_load hS' ?_)
 obtain ⟨zh,zg,zd,zt,zo⟩:=s'
 have e4:zg=s.gens:=hm.gens
 have e5:zd=d2:=hm.drawn
 have e6:zo=s.os:=hm.os
 subst e4 e5 e6
 refine Ac (q acc'.toList zh zt zd ?_ λb o e=>?_)
 ·have ln:(HH w S es ep md).length=es.size:=by rw [pm.length_eq];simp
  have:acc'.toList=HH w S es ep md:=by
   refine BK λi=>?_
   by_cases hi:i<es.size
   ·have hi':i<acc'.size:=by rw [hacc.1];exact hi
    rw [Ah,AF hi']
    exact (hacc.2 i _ (AF hi')).symm
   ·rw [Ah,Bd (by rw [hacc.1];ext),List.getElem?_eq_none (by rw [ln];ext)]
  rw [this]
  exact pm
 ·have bl:=Ax e
  refine hm.heap b o ?_ (oth b o (AJ bl) (k2 _ _ (k1 _ _ e)))
  simp only [AH,Bj,or_false,not_or]
  refine ⟨AJ bl,λz=>?_⟩
  have a:s.heap.objs.size+1≤I:=by rw [← sz1];exact hI
  rw [← z] at a
  exact absurd (AD bl (AM (Nat.le_succ _) a)) (Bq _)
end
end PV
namespace PV
open PySem PyProof.Rows
noncomputable def RL:Bool->Keyed->Array Keyed->Nat->Nat->Nat->StateT SortSt Sem (Option Nat):=sortPriv% PySem.Builtin.gallop
structure TOk (prog:Program) (w:World) (A:Around) (s:Shared) (κ:SortKind) (M:Keyed->Prop) (lt:Keyed->Keyed->Bool):Prop where
 ask:∀ x y,M x->M y->∀ (Q:Bool->Shared->Prop) (E:Value->Shared->Prop),Q (lt x y) s->wpAny (model prog w) A (keyLt' κ x.1 y.1) Q E s
 asym:∀ x y,lt x y=true->lt y x=false
 tr:∀ x y z,lt y x=false->lt z y=false->lt z x=false
section
variable {prog:Program} {w:World} {A:Around} {E:Value->Shared->Prop} {s:Shared} {κ:SortKind} {M:Keyed->Prop} {lt:Keyed->Keyed->Bool} {st:SortSt}
theorem TOk.irr (T:TOk prog w A s κ M lt)(x:Keyed):lt x x=false:=by
 cases e:lt x x with
 | false=>rfl
 | true=>rw [← e];exact T.asym x x e
theorem TOk.run (T:TOk prog w A s κ M lt)(hk:kindOf st=κ){x y:Keyed}(hx:M x)(hy:M y){Q:Option Bool->SortSt->Prop}(h:Q (some (lt x y)) st):wpS (model prog w) A E s (lt' x y) Q st:=by
 rw [lt'_eq]
 refine Ao (wpS_get ?_)
 rw [hk]
 exact Ao (wpS_lift (wpAny_attempt (T.ask _ _ hx hy _ _ ⟨rfl,Au h⟩)))
theorem Cj {M:Model}{arr:Array Keyed}{i:Nat}{x:Keyed}(e:arr[i]? = some x){Q:Keyed->SortSt->Prop}(h:Q x st):wpS M A E s (elem' arr i) Q st:=by
 rw [elem'_eq,e]
 exact Au h
theorem OK (T:TOk prog w A s κ M lt){left:Bool}{key:Keyed}{arr:Array Keyed}{base n hint:Nat}{bey:Nat->Bool}(hk:kindOf st=κ)(hm:M key)
  (hb:∀ i,i<n->∃ x,arr[base+i]? = some x∧M x∧bey i=(if left=true then lt x key else !lt key x)) (mono:∀ i j,i≤j->j<n->bey j=true->bey i=true) (hh:hint<n)
  {Q:Option Nat->SortSt->Prop} (h:∀ k,k≤n->(∀ i,i<k->bey i=true)->(∀ i,k≤i->i<n->bey i=false)->Q (some k) st):wpS (model prog w) A E s (RL left key arr base n hint) Q st:=by
 have ff:∀ i j,i≤j->j<n->bey i=false->bey j=false:=λi j h1 h2 h3=>by
  cases e:bey j with
  | false=>rfl
  | true=>rw [mono i j h1 h2 e] at h3;cases h3
 have B:∀ i,i<n->∀ (Q':Option Bool->SortSt->Prop),Q' (some (bey i)) st->wpS (model prog w) A E s (elem' arr (base+i) >>= λx=>if left=true then lt' x key else lt' key x >>= λr=>pure (r.map (!·))) Q' st:=λi hi Q' hq=>by
  obtain ⟨x,e1,e2,e3⟩:=hb i hi
  refine Ao (Cj e1 ?_)
  cases left with
  | true=>exact T.run hk e2 hm (by rw [if_pos rfl] at e3;rw [← e3];exact hq)
  | false=>exact Ao (T.run hk hm e2 (Au (by rw [if_neg AQ] at e3;rw [Option.map_some,← e3];exact hq)))
 have J:∀ (lo hi:Nat) (f:Nat->Option (Option Nat)×Nat×Nat->StateT SortSt Sem (ForInStep (Option (Option Nat)×Nat×Nat))) (g:Option (Option Nat)×Nat×Nat->StateT SortSt Sem (Option Nat)),lo≤hi->hi≤n->(∀ i,i<lo->bey i=true)->(∀ i,hi≤i->i<n->bey i=false) ->
   (∀ x lo hi (R:ForInStep (Option (Option Nat)×Nat×Nat)->SortSt->Prop),hi≤lo->R (.done (none,lo,hi)) st->wpS (model prog w) A E s (f x (none,lo,hi)) R st) ->
   (∀ x lo hi (R:ForInStep (Option (Option Nat)×Nat×Nat)->SortSt->Prop),lo<hi->hi≤n->(bey (lo+(hi-lo) / 2)=true->R (.yield (none,lo+(hi-lo) / 2+1,hi)) st)->(bey (lo+(hi-lo) / 2)=false->R (.yield (none,lo,lo+(hi-lo) / 2)) st)->wpS (model prog w) A E s (f x (none,lo,hi)) R st) ->
   (∀ lo hi,Q (some hi) st->wpS (model prog w) A E s (g (none,lo,hi)) Q st)->wpS (model prog w) A E s (forIn [0:n] (none,lo,hi) f >>= g) Q st:=λlo hi f g h1 h2 h3 h4 f1 f2 g0=>by
  refine Ao (wpS_forRange (I:=λx c st'=>st'=st∧∃ lo hi,c=(none,lo,hi)∧lo≤hi∧hi≤n∧hi-lo≤n-x∧(∀ i,i<lo->bey i=true)∧∀ i,hi≤i->i<n->bey i=false) ?_ ?_ ⟨rfl,lo,hi,rfl,h1,h2,by ext,h3,h4⟩)
  ·rintro x c st' _ hx ⟨rfl,lo,hi,rfl,g1,g2,g3,g4,g5⟩
   by_cases q:lo ≥ hi
   ·exact f1 _ _ _ _ q (g0 _ _ (h hi g2 (λi z=>g4 i (by ext)) g5))
   ·exact f2 _ _ _ _ (by ext) g2 (λe=>⟨rfl,_,_,rfl,by ext,g2,by ext,λi z=>mono i _ (by ext) (by ext) e,g5⟩) λe=>⟨rfl,_,_,rfl,by ext,by ext,by ext,g4,λi z1 z2=>ff _ i z1 z2 e⟩
  ·rintro c st' ⟨rfl,lo,hi,rfl,g1,g2,g3,g4,g5⟩
   exact g0 _ _ (h hi g2 (λi z=>g4 i (by ext)) g5)
 refine Ao (B hint hh _ ?_)
 cases e:bey hint with
 | true =>
  refine Ao (wpS_mono (wpS_forRange (I:=λx c st'=>st'=st∧∃ la o,c=(none,la,o)∧la<o∧x<o∧hint+la<n∧bey (hint+la)=true) (Q:=λc st'=>st'=st∧∃ la o,c=(none,la,o)∧la<o∧hint+la<n∧bey (hint+la)=true∧(o<n-hint->bey (hint+o)=false)) ?_ ?_ ⟨rfl,0,1,rfl,by ext,by ext,by ext,e⟩) ?_)
  ·rintro x c st' _ hx ⟨rfl,la,o,rfl,g1,g2,g3,g4⟩
   dsimp only
   by_cases q:o ≥ n-hint
   ·rw [if_pos q]
    exact Au ⟨rfl,_,_,rfl,g1,g3,g4,λz=>by ext⟩
   ·rw [if_neg q]
    refine Ao (B _ (by ext) _ ?_)
    cases e:bey (hint+o) with
    | true=>exact Au ⟨rfl,_,_,rfl,by ext,by ext,by ext,e⟩
    | false=>exact Au ⟨rfl,_,_,rfl,g1,g3,g4,λ_=>e⟩
  ·rintro c st' ⟨rfl,la,o,rfl,g1,g2,g3,g4⟩
   exact ⟨rfl,_,_,rfl,g1,g3,g4,λz=>by ext⟩
  ·rintro c st' ⟨rfl,la,o,rfl,g1,g3,g4,g5⟩
   refine J (hint+la+1) (hint+min o (n-hint)) _ _ (by ext) (by ext) (λi z=>mono i _ (by ext) g3 g4) (λi z1 z2=>ff (hint+o) i (by ext) z2 (g5 (by ext))) ?_ ?_ λlo hi hq=>Au hq
   ·intro x lo hi R q hR;dsimp only;rw [if_pos q];exact Au hR
   ·intro x lo hi R q q2 r1 r2
    dsimp only
    rw [if_neg (by ext)]
    refine Ao (B _ (by ext) _ ?_)
    cases e:bey (lo+(hi-lo) / 2) with
    | true=>exact Au (r1 e)
    | false=>exact Au (r2 e)
 | false =>
  refine Ao (wpS_mono (wpS_forRange (I:=λx c st'=>st'=st∧∃ la o,c=(none,la,o)∧la<o∧x<o∧la≤hint∧bey (hint-la)=false) (Q:=λc st'=>st'=st∧∃ la o,c=(none,la,o)∧la<o∧la≤hint∧bey (hint-la)=false∧(o<hint+1->bey (hint-o)=true)) ?_ ?_ ⟨rfl,0,1,rfl,by ext,by ext,by ext,e⟩) ?_)
  ·rintro x c st' _ hx ⟨rfl,la,o,rfl,g1,g2,g3,g4⟩
   dsimp only
   by_cases q:o ≥ hint+1
   ·rw [if_pos q]
    exact Au ⟨rfl,_,_,rfl,g1,g3,g4,λz=>by ext⟩
   ·rw [if_neg q]
    refine Ao (B _ (by ext) _ ?_)
    cases e:bey (hint-o) with
    | true=>exact Au ⟨rfl,_,_,rfl,g1,g3,g4,λ_=>e⟩
    | false=>exact Au ⟨rfl,_,_,rfl,by ext,by ext,by ext,e⟩
  ·rintro c st' ⟨rfl,la,o,rfl,g1,g2,g3,g4⟩
   exact ⟨rfl,_,_,rfl,g1,g3,g4,λz=>by ext⟩
  ·rintro c st' ⟨rfl,la,o,rfl,g1,g3,g4,g5⟩
   refine J (hint+1-min o (hint+1)) (hint-la) _ _ (by ext) (by ext) (λi z=>mono i (hint-o) (by ext) (by ext) (g5 (by ext))) (λi z1 z2=>ff _ i z1 z2 g4) ?_ ?_ λlo hi hq=>Au hq
   ·intro x lo hi R q hR;dsimp only;rw [if_pos q];exact Au hR
   ·intro x lo hi R q q2 r1 r2
    dsimp only
    rw [if_neg (by ext)]
    refine Ao (B _ (by ext) _ ?_)
    cases e:bey (lo+(hi-lo) / 2) with
    | true=>exact Au (r1 e)
    | false=>exact Au (r2 e)
end
noncomputable def V7:Array Keyed->Array Keyed->StateT SortSt Sem (Array Keyed):=sortPriv% PySem.Builtin.mergeLo
noncomputable def V3:Array Keyed->Array Keyed->StateT SortSt Sem (Array Keyed):=sortPriv% PySem.Builtin.mergeHi
def upR (lt:Keyed->Keyed->Bool)(a:Array Keyed):Prop:=∀ (i j:Nat) (x y:Keyed),i≤j->a[i]? = some x->a[j]? = some y->lt y x=false
def Srt (lt:Keyed->Keyed->Bool)(l:List Keyed):Prop:=l.Pairwise λx y=>lt y x=false
noncomputable abbrev wG (st:SortSt) (g:Nat):SortSt:=SortSt.mk' (kindOf st) (arrOf st) (pendingOf st) g (failedOf st)
def upS (lt:Keyed->Keyed->Bool)(a:Array Keyed)(lo hi:Nat):Prop:=∀ (i j:Nat) (x y:Keyed),lo≤i->i≤j->j<hi->a[i]? = some x->a[j]? = some y->lt y x=false
theorem upR.seg {lt:Keyed->Keyed->Bool}{a:Array Keyed}(h:upR lt a)(lo hi:Nat):upS lt a lo hi:=λi j x y _ z _=>h i j x y z
def CC (lt:Keyed->Keyed->Bool)(a b r:Array Keyed):Prop:=r.toList.Perm (a.toList++b.toList)∧Srt lt r.toList
section
variable {lt:Keyed->Keyed->Bool} {a b out out':Array Keyed} {ia ib k:Nat}
theorem upR.srt (h:upR lt a):Srt lt a.toList:=by
 unfold Srt
 (rw [List.pairwise_iff_getElem])
 intro i j hi hj hij
 exact h i j _ _ (Nat.le_of_lt hij) (by simp at hi;simp [hi]) (by simp at hj;simp [hj])
theorem Hu (a:Array Keyed)(i j:Nat):(a.extract i j).toList=(a.toList.drop i).take (j-i):=by simp [List.extract_eq_take_drop]
theorem GN (a:Array Keyed)(i:Nat):(a.extract i a.size).toList=a.toList.drop i:=by
 rw [Hu,List.take_of_length_le]
 rw [BD,Array.length_toList]
 exact Ak _
theorem Nv {x:Keyed}(e:a[ia]? = some x):(a.toList.drop ia).take 1=[x]:=by
 rw [← Ah] at e
 obtain ⟨h,rfl⟩:=Ad.mp e
 rw [Bn h]
 rfl
theorem Nj {x:Keyed}(h:x∈a.toList.drop ia):∃ j,a[ia+j]? = some x:=by
 obtain ⟨j,hj⟩:=AO.mp h
 rw [List.getElem?_drop,Ah] at hj
 exact ⟨j,hj⟩
theorem NZ {x:Keyed}(h:x∈(a.toList.drop ia).take k):∃ i,i<k∧a[ia+i]? = some x:=by
 obtain ⟨j,hj⟩:=AO.mp h
 rw [List.getElem?_take] at hj
 split at hj
 ·rw [List.getElem?_drop,Ah] at hj
  exact ⟨j,by assumption,hj⟩
 ·cases hj
theorem Di {l m:List Keyed}:Srt lt (l++m) ↔ Srt lt l∧Srt lt m∧∀ x∈l,∀ y∈m,lt y x=false:=List.pairwise_append
theorem P1 {o p q c:List Keyed}(h1:Srt lt (o++(p++q)))(h2:Srt lt (o++c))(h3:∀ x∈p,∀ y∈c,lt y x=false):Srt lt ((o++p)++c):=by
 rw [Di] at h1 h2
 obtain ⟨g1,g2,g3⟩:=h1
 rw [Di] at g2
 refine Di.mpr ⟨Di.mpr ⟨g1,g2.1,λx hx y hy=>g3 x hx y (AK _ hy)⟩,h2.2.1,λx hx y hy=>?_⟩
 rcases AA.mp hx with hx|hx
 ·exact h2.2.2 x hx y hy
 ·exact h3 x hx y hy
structure MI (lt:Keyed->Keyed->Bool) (a b out:Array Keyed) (ia ib:Nat):Prop where
 pm:(out.toList++(a.toList.drop ia++b.toList.drop ib)).Perm (a.toList++b.toList)
 sa:Srt lt (out.toList++a.toList.drop ia)
 sb:Srt lt (out.toList++b.toList.drop ib)
theorem MI.tkA (h:MI lt a b out ia ib)(k:Nat)(hk:∀ i x j y,i<k->a[ia+i]? = some x->b[ib+j]? = some y->lt y x=false)(e:out'.toList=out.toList++(a.toList.drop ia).take k):MI lt a b out' (ia+k) ib:=by
 have d:a.toList.drop ia=(a.toList.drop ia).take k++a.toList.drop (ia+k):=by rw [← List.drop_drop,Bp]
 refine ⟨?_,?_,?_⟩
 ·rw [e,A4,← A4 (List.take _ _),← d];exact h.pm
 ·rw [e,A4,← d];exact h.sa
 ·have:=h.sa
  rw [d] at this
  rw [e]
  refine P1 this h.sb λx hx y hy=>?_
  obtain ⟨i,h1,h2⟩:=NZ hx
  obtain ⟨j,h3⟩:=Nj hy
  exact hk i x j y h1 h2 h3
theorem MI.swap (h:MI lt a b out ia ib):MI lt b a out ib ia:=⟨((List.perm_append_comm).append_left _).trans (h.pm.trans List.perm_append_comm),h.sb,h.sa⟩
theorem MI.tkB (h:MI lt a b out ia ib)(k:Nat)(hk:∀ i x j y,i<k->b[ib+i]? = some x->a[ia+j]? = some y->lt y x=false)(e:out'.toList=out.toList++(b.toList.drop ib).take k):MI lt a b out' ia (ib+k):=(h.swap.tkA k hk e).swap
theorem MI.len (h:MI lt a b out ia ib):out.size+((a.size-ia)+(b.size-ib))=a.size+b.size:=by
 have:=h.pm.length_eq
 simpa using this
theorem MI.finB (h:MI lt a b out ia ib)(e:ib=b.size):CC lt a b (out++a.extract ia a.size++b.extract ib b.size):=by
 have d:b.toList.drop ib=[]:=List.drop_of_length_le (by rw [Array.length_toList,e];exact Ak _)
 have p:=h.pm
 have q:=h.sa
 unfold CC
 rw [AN,AN,GN,GN]
 rw [d] at p ⊢
 rw [BA] at p ⊢
 exact ⟨p,q⟩
theorem MI.finA (h:MI lt a b out ia ib)(e:ia=a.size):CC lt a b (out++a.extract ia a.size++b.extract ib b.size):=by
 have d:a.toList.drop ia=[]:=List.drop_of_length_le (by rw [Array.length_toList,e];exact Ak _)
 have p:=h.pm
 have q:=h.sb
 unfold CC
 rw [AN,AN,GN,GN]
 rw [d] at p ⊢
 rw [BA]
 exact ⟨p,q⟩
theorem MI.finL (h:MI lt a b out ia ib)(e:ia+1=a.size)(hl:∀ (i:Nat) (x y:Keyed),a[a.size-1]? = some x->b[i]? = some y->lt x y=false):CC lt a b (out++b.extract ib b.size++a.extract ia a.size):=by
 have hi:ia<a.toList.length:=by rw [Array.length_toList];ext
 have d:a.toList.drop ia=[a.toList[ia]]:=by rw [Bn hi,List.drop_of_length_le (by rw [Array.length_toList];ext)]
 have p:=h.pm
 unfold CC
 rw [AN,AN,GN,GN,A4]
 refine ⟨((List.perm_append_comm).append_left _).trans p,?_⟩
 rw [← A4]
 have q:=h.sa
 rw [d] at q ⊢
 rw [Di] at q
 refine Di.mpr ⟨h.sb,q.2.1,λx hx y hy=>?_⟩
 rcases AA.mp hx with hx|hx
 ·exact q.2.2 x hx y hy
 ·obtain ⟨j,hj⟩:=Nj hx
  rw [Aq] at hy
  subst hy
  exact hl _ _ _ (by rw [← Ah,show a.size-1=ia by ext];exact Am hi) hj
end
section
variable {prog:Program} {w:World} {A:Around} {E:Value->Shared->Prop} {s:Shared} {κ:SortKind} {M:Keyed->Prop} {lt:Keyed->Keyed->Bool} {st:SortSt} {a b:Array Keyed}
theorem Cw {i:Nat}(h:i<a.size):∃ x,a[i]? = some x:=⟨a[i],by simp [h]⟩
theorem TOk.le (T:TOk prog w A s κ M lt)(ub:upR lt b){i j:Nat}{y z:Keyed}(hij:i≤j)(e:b[i]? = some y)(e':b[j]? = some z){x:Keyed}(h:lt y x=false):lt z x=false:=T.tr x y z h (ub i j y z hij e e')
theorem KU (T:TOk prog w A s κ M lt)(hk:kindOf st=κ){base n hint:Nat}(ua:upS lt a base (base+n))(ma:∀ (i:Nat) (x:Keyed),a[i]? = some x->M x)(hn:base+n≤a.size)(hh:hint<n){key:Keyed}(hm:M key)
  {Q:Option Nat->SortSt->Prop} (h:∀ k,k≤n->(∀ i x,i<k->a[base+i]? = some x->lt key x=false)->(∀ i x,k≤i->i<n->a[base+i]? = some x->lt key x=true)->Q (some k) st):wpS (model prog w) A E s (RL false key a base n hint) Q st:=by
 refine OK T (bey:=λi=>!lt key (a.getD (base+i) (.none,.none))) hk hm (λi hi=>?_) (λi j h1 h2 h3=>?_) hh λk h1 h2 h3=>h k h1 (λi x h4 h5=>?_) λi x h4 h5 h6=>?_
 ·obtain ⟨x,e⟩:=Cw (a:=a) (i:=base+i) (by ext)
  exact ⟨x,e,ma _ _ e,by simp [A0,e]⟩
 ·obtain ⟨x,e⟩:=Cw (a:=a) (i:=base+i) (by ext)
  obtain ⟨y,e'⟩:=Cw (a:=a) (i:=base+j) (by ext)
  simp only [A0,e,e',Option.getD_some,Bool.not_eq_true'] at h3 ⊢
  exact T.tr x y key (ua _ _ _ _ (by ext) (by ext) (by ext) e e') h3
 ·have:=h2 i h4
  simpa [A0,h5] using this
 ·have:=h3 i h4 h5
  simpa [A0,h6] using this
theorem Ku (T:TOk prog w A s κ M lt)(hk:kindOf st=κ){base n hint:Nat}(ua:upS lt a base (base+n))(ma:∀ (i:Nat) (x:Keyed),a[i]? = some x->M x)(hn:base+n≤a.size)(hh:hint<n){key:Keyed}(hm:M key)
  {Q:Option Nat->SortSt->Prop} (h:∀ k,k≤n->(∀ i x,i<k->a[base+i]? = some x->lt x key=true)->(∀ i x,k≤i->i<n->a[base+i]? = some x->lt x key=false)->Q (some k) st):wpS (model prog w) A E s (RL true key a base n hint) Q st:=by
 refine OK T (bey:=λi=>lt (a.getD (base+i) (.none,.none)) key) hk hm (λi hi=>?_) (λi j h1 h2 h3=>?_) hh λk h1 h2 h3=>h k h1 (λi x h4 h5=>?_) λi x h4 h5 h6=>?_
 ·obtain ⟨x,e⟩:=Cw (a:=a) (i:=base+i) (by ext)
  exact ⟨x,e,ma _ _ e,by simp [A0,e]⟩
 ·obtain ⟨x,e⟩:=Cw (a:=a) (i:=base+i) (by ext)
  obtain ⟨y,e'⟩:=Cw (a:=a) (i:=base+j) (by ext)
  simp only [A0,e,e',Option.getD_some] at h3 ⊢
  cases q:lt x key with
  | true=>rfl
  | false=>rw [T.tr key x y q (ua _ _ _ _ (by ext) (by ext) (by ext) e e')] at h3;cases h3
 ·have:=h2 i h4
  simpa [A0,h5] using this
 ·have:=h3 i h4 h5
  simpa [A0,h6] using this
theorem F8 {out:Array Keyed}{i:Nat}{x:Keyed}(e:a[i]? = some x):(out.push x).toList=out.toList++(a.toList.drop i).take 1:=by rw [Nv e,BJ]
theorem NF {out:Array Keyed}{i k:Nat}:(out++a.extract i (i+k)).toList=out.toList++(a.toList.drop i).take k:=by rw [AN,Hu,Nat.add_sub_cancel_left]
theorem QG {i:Nat}{x:Keyed}(e:a[i]? = some x):i<a.size:=(Array.getElem?_eq_some_iff.mp e).1
theorem Cz {μ:Model}{σ β:Type}{st:σ}{c:Prop} [Decidable c]{m n:StateT σ Sem β}{Q:β->σ->Prop}(h1:c->wpS μ A E s m Q st)(h2:¬c->wpS μ A E s n Q st):wpS μ A E s (if c then m else n) Q st:=by
 by_cases h:c
 ·rw [if_pos h];exact h1 h
 ·rw [if_neg h];exact h2 h
theorem CU {μ:Model}{σ β:Type}{st:σ}{x y:Nat}{m n:StateT σ Sem β}{Q:β->σ->Prop}(h1:x=y->wpS μ A E s m Q st)(h2:x≠y->wpS μ A E s n Q st):wpS μ A E s (if (x==y)=true then m else n) Q st:=Cz (λh=>h1 (eq_of_beq h)) λh=>h2 λe=>h (beq_iff_eq.mpr e)
theorem Eu {μ:Model}{σ β:Type}{n:Nat}{st:σ}{f:Nat->β->StateT σ Sem (ForInStep β)}(I:Nat->β->σ->Prop){Q:β->σ->Prop}
  (hs:∀ i c st (R:ForInStep β->σ->Prop),(∀ c st,Q c st->R (.done c) st)->(∀ c st,I (i+1) c st->R (.yield c) st)->i<n->I i c st->wpS μ A E s (f i c) R st)
  (he:∀ c st,I n c st->Q c st) {c:β} (h:I 0 c st):wpS μ A E s (forIn [0:n] c f) Q st:=
 wpS_forRange I (λi c st _ hi hI=>hs i c st _ (λ_ _ z=>z) (λ_ _ z=>z) hi hI) (λc st z=>he c st (by rwa [show max 0 n=n by ext] at z)) h
theorem RJ (T:TOk prog w A s κ M lt)(hk:kindOf st=κ)(ua:upR lt a)(ub:upR lt b)(ma:∀ (i:Nat) (x:Keyed),a[i]? = some x->M x)(mb:∀ (i:Nat) (x:Keyed),b[i]? = some x->M x)(na:1≤a.size)(nb:1≤b.size)
  (h0:∀ x y,a[0]? = some x->b[0]? = some y->lt x y=false) (hl:∀ (i:Nat) (x y:Keyed),a[a.size-1]? = some x->b[i]? = some y->lt x y=false)
  {Q:Array Keyed->SortSt->Prop} (h:∀ r g,CC lt a b r->Q r (wG st g)):wpS (model prog w) A E s (V7 a b) Q st:=by
 have hk':∀ g,kindOf (wG st g)=κ:=λ_=>hk
 have I0:MI lt a b #[] 0 0:=⟨A7 _,ua.srt,ub.srt⟩
 obtain ⟨b0,eb⟩:=Cw nb
 obtain ⟨a0,ea⟩:=Cw na
 have I1:MI lt a b #[b0] 0 1:=I0.tkB 1 (λi x j y q e1 e2=>by
  cases (show i=0 by ext)
  cases eb.symm.trans e1
  exact T.le ua (AW _) ea e2 (h0 _ _ ea eb)) (F8 (out:=#[]) eb)
 refine Ao (wpS_lift (Bc ⟨rfl,?_⟩))
 refine Ao (Cj eb ?_)
 by_cases c1:1=b.size
 ·rw [if_pos (by simpa using c1)]
  exact Au (h _ (gallopOf st) (I1.finB c1))
 rw [if_neg (by simpa using c1)]
 by_cases c2:0+1=a.size
 ·rw [if_pos (by simpa using c2)]
  exact Au (h _ (gallopOf st) (I1.finL c2 hl))
 rw [if_neg (by simpa using c2)]
 refine Ao (wpS_get ?_)
 refine Ao (wpS_mono (wpS_forRange (I:=λx c st'=>(∃ g,st'=wG st g)∧∃ o ia ib mg,c=(none,o,ia,ib,mg)∧MI lt a b o ia ib∧ia+1<a.size∧ib<b.size∧x<o.size)
  (Q:=λc st'=>(∃ g,st'=wG st g)∧∃ r z,c=(some r,z)∧CC lt a b r) ?_ ?_ ⟨⟨gallopOf st,rfl⟩,_,_,_,_,rfl,I1,by ext,by ext,by simp⟩) ?_)
 ·rintro x c st' _ hx ⟨⟨g,rfl⟩,o,ia,ib,mg,rfl,I,la,lb,hs⟩
  refine Ao (wpS_mono (wpS_forRange (I:=λy c st'=>st'=wG st g∧∃ o ia ib ac bc,c=(none,o,ia,ib,ac,bc)∧MI lt a b o ia ib∧ia+1<a.size∧ib<b.size∧x+y<o.size)
   (Q:=λc st'=>st'=wG st g∧((∃ r z,c=(some r,z)∧CC lt a b r)∨∃ o ia ib ac bc,c=(none,o,ia,ib,ac,bc)∧MI lt a b o ia ib∧ia+1<a.size∧ib<b.size∧x+1<o.size)) ?_ ?_ ⟨rfl,_,_,_,_,_,rfl,I,la,lb,hs⟩) ?_)
  ·rintro y c st' _ hy ⟨rfl,o,ia,ib,ac,bc,rfl,I,la,lb,hs⟩
   dsimp only
   obtain ⟨v,ev⟩:=Cw lb
   obtain ⟨u,eu⟩:=Cw (show ia<a.size by ext)
   refine Ao (Cj ev (Ao (Cj eu (Ao (T.run (hk' g) (mb _ _ ev) (ma _ _ eu) ?_)))))
   cases q:lt v u with
   | true =>
    refine Ao (Cj ev ?_)
    have J:=I.tkB 1 (λi x j y z e1 e2=>by
     cases (show i=0 by ext)
     cases ev.symm.trans e1
     exact T.le ua (Nat.le_add_right _ _) eu e2 (T.asym _ _ q)) (F8 ev)
    by_cases c3:ib+1=b.size
    ·rw [if_pos (by simpa using c3)]
     exact Au ⟨rfl,.inl ⟨_,_,rfl,J.finB c3⟩⟩
    rw [if_neg (by simpa using c3)]
    by_cases c4:bc+1 ≥ mg
    ·rw [if_pos c4]
     exact Au ⟨rfl,.inr ⟨_,_,_,_,_,rfl,J,la,by ext,by rw [Bf];ext⟩⟩
    ·rw [if_neg c4]
     exact Au ⟨rfl,_,_,_,_,_,rfl,J,la,by ext,by rw [Bf];ext⟩
   | false =>
    refine Ao (Cj eu ?_)
    have J:=I.tkA 1 (λi x j y z e1 e2=>by
     cases (show i=0 by ext)
     cases eu.symm.trans e1
     exact T.le ub (Nat.le_add_right _ _) ev e2 q) (F8 eu)
    by_cases c3:ia+1+1=a.size
    ·rw [if_pos (by simpa using c3)]
     exact Au ⟨rfl,.inl ⟨_,_,rfl,J.finL c3 hl⟩⟩
    rw [if_neg (by simpa using c3)]
    by_cases c4:ac+1 ≥ mg
    ·rw [if_pos c4]
     exact Au ⟨rfl,.inr ⟨_,_,_,_,_,rfl,J,by ext,lb,by rw [Bf];ext⟩⟩
    ·rw [if_neg c4]
     exact Au ⟨rfl,_,_,_,_,_,rfl,J,by ext,lb,by rw [Bf];ext⟩
  ·rintro c st' ⟨rfl,o,ia,ib,ac,bc,rfl,I,la,lb,hs⟩
   exact ⟨rfl,.inr ⟨_,_,_,_,_,rfl,I,la,lb,by ext⟩⟩
  rintro c st' ⟨rfl,⟨r,z,rfl,hr⟩|⟨o,ia,ib,ac,bc,rfl,I,la,lb,hs⟩⟩
  ·exact Au ⟨⟨_,rfl⟩,_,_,rfl,hr⟩
  refine Ao (wpS_lift (Bc ⟨rfl,?_⟩))
  refine Ao (wpS_mono (Eu (I:=λy c st'=>(∃ g,st'=wG st g)∧∃ o ia ib mg ac bc,c=(none,o,ia,ib,mg,ac,bc)∧MI lt a b o ia ib∧ia+1<a.size∧ib<b.size∧x+1<o.size)
   (Q:=λc st'=>(∃ g,st'=wG st g)∧((∃ r z,c=(some r,z)∧CC lt a b r)∨∃ o ia ib mg ac bc,c=(none,o,ia,ib,mg,ac,bc)∧MI lt a b o ia ib∧ia+1<a.size∧ib<b.size∧x+1<o.size)) ?_ ?_ ⟨⟨_,rfl⟩,_,_,_,_,_,_,rfl,I,la,lb,hs⟩) ?_)
  ·rintro y c st' R rd ry hy ⟨⟨g,rfl⟩,o,ia,ib,mg,ac,bc,rfl,I,la,lb,hs⟩
   obtain ⟨v,ev⟩:=Cw lb
   dsimp -zeta -zetaHave only
   extract_lets s1 o1 s2 ia1 s3 ib1 s4 mg1 s5 ac1 bc1 ib2 jp mg2
   have H:∀ m,wpS (model prog w) A E s (jp () m) R (wG st g):=λm=>by
    refine Ao (BN (Ao (Cj ev (Ao (KU T (hk' m) (base:=ia) (n:=a.size-ia) (ua.seg _ _) ma (by ext) (by ext) (mb _ _ ev) λk k1 k2 k3=>?_)))))
    dsimp -zeta -zetaHave only
    extract_lets ac2 jp2 o2 ia2
    have H2:∀ o ia,MI lt a b o ia ib->ia+1<a.size->x+1<o.size->(∀ j u,a[ia+j]? = some u->lt u v=false)->wpS (model prog w) A E s (jp2 () o ia) R (wG st m):=λo ia I la hs hv=>by
     obtain ⟨u,eu⟩:=Cw (show ia<a.size by ext)
     have J:=I.tkB 1 (λi x j y z e1 e2=>by
      cases (show i=0 by ext)
      cases ev.symm.trans e1
      exact hv _ _ e2) (F8 ev)
     have hs1:x+1<(o.push v).size:=by rw [Bf];ext
     refine Ao (Cj ev (CU (λc3=>Au (rd _ _ ⟨⟨_,rfl⟩,.inl ⟨_,_,rfl,J.finB c3⟩⟩)) λc3=>?_))
     have c3':ib+1≠b.size:=c3
     refine Ao (Cj eu (Ao (Ku T (hk' m) (base:=ib+1) (n:=b.size-(ib+1)) (ub.seg _ _) mb (by ext) (by ext) (ma _ _ eu) λk k1 k2 k3=>?_)))
     dsimp -zeta -zetaHave only
     extract_lets bc3 ia3 jp3 o3 ib3
     have H3:∀ o ib,MI lt a b o ia ib->ib<b.size->x+1<o.size->(∀ j u',b[ib+j]? = some u'->lt u' u=false)->wpS (model prog w) A E s (jp3 () o ib) R (wG st m):=λo ib I lb hs hv=>by
      have J:=I.tkA 1 (λi x j y z e1 e2=>by
       cases (show i=0 by ext)
       cases eu.symm.trans e1
       exact hv _ _ e2) (F8 eu)
      have hs':x+1<(o.push u).size:=by rw [Bf];ext
      exact Ao (Cj eu (CU (λc3=>Au (rd _ _ ⟨⟨_,rfl⟩,.inl ⟨_,_,rfl,J.finL c3 hl⟩⟩)) λc3=>have c3':ia+1+1≠a.size:=c3
       Cz (λ_=>Au (rd _ _ ⟨⟨_,rfl⟩,.inr ⟨_,_,_,_,_,_,rfl,J,by ext,lb,hs'⟩⟩)) λ_=>Au (ry _ _ ⟨⟨_,rfl⟩,_,_,_,_,_,_,rfl,J,by ext,lb,hs'⟩)))
     have J2:MI lt a b (o.push v++b.extract (ib+1) (ib+1+k)) ia (ib+1+k):=J.tkB k (λi x j y z e1 e2=>T.le ua (Nat.le_add_right _ _) eu e2 (T.asym _ _ (k2 i x z e1))) NF
     have up:∀ j u',b[ib+1+k+j]? = some u'->lt u' u=false:=λj u' e=>k3 (k+j) u' (by ext) (by have:=QG e;ext) (by rw [← Nat.add_assoc];exact e)
     refine Cz (λz=>CU (λc4=>Au (rd _ _ ⟨⟨_,rfl⟩,.inl ⟨_,_,rfl,J2.finB c4⟩⟩)) λc4=>?_) λz=>?_
     ·have c4':ib+1+k≠b.size:=c4
      exact H3 _ _ J2 (show ib+1+k<b.size by ext) (show x+1<(o.push v++b.extract (ib+1) (ib+1+k)).size by rw [BH];ext) up
     ·cases (show k=0 by ext)
      exact H3 _ _ J (show ib+1<b.size by ext) hs1 up
    have J2:MI lt a b (o++a.extract ia (ia+k)) (ia+k) ib:=I.tkA k (λi x j y z e1 e2=>T.le ub (Nat.le_add_right _ _) ev e2 (k2 i x z e1)) NF
    have up:∀ j u',a[ia+k+j]? = some u'->lt u' v=false:=λj u' e=>T.asym _ _ (k3 (k+j) u' (by ext) (by have:=QG e;ext) (by rw [← Nat.add_assoc];exact e))
    refine Cz (λz=>CU (λc4=>Au (rd _ _ ⟨⟨_,rfl⟩,.inl ⟨_,_,rfl,J2.finL c4 hl⟩⟩)) λc4=>CU (λc5=>Au (rd _ _ ⟨⟨_,rfl⟩,.inl ⟨_,_,rfl,J2.finA c5⟩⟩)) λc5=>?_) λz=>?_
    ·have c4':ia+k+1≠a.size:=c4
     have c5':ia+k≠a.size:=c5
     exact H2 _ _ J2 (show ia+k+1<a.size by ext) (show x+1<(o++a.extract ia (ia+k)).size by rw [BH];ext) up
    ·cases (show k=0 by ext)
     exact H2 _ _ I la hs up
   split
   ·exact H _
   ·exact H _
  ·rintro c st' ⟨⟨g,rfl⟩,o,ia,ib,mg,ac,bc,rfl,I,la,lb,hs⟩
   exact ⟨⟨_,rfl⟩,.inr ⟨_,_,_,_,_,_,rfl,I,la,lb,hs⟩⟩
  rintro c st' ⟨⟨g,rfl⟩,⟨r,z,rfl,hr⟩|⟨o,ia,ib,mg,ac,bc,rfl,I,la,lb,hs⟩⟩
  ·exact Au ⟨⟨_,rfl⟩,_,_,rfl,hr⟩
  ·exact Ao (BN (Au ⟨⟨_,rfl⟩,_,_,_,_,rfl,I,la,lb,hs⟩))
 ·rintro c st' ⟨⟨g,rfl⟩,o,ia,ib,mg,rfl,I,la,lb,hs⟩
  have:=I.len
  ext
 ·rintro c st' ⟨⟨g,rfl⟩,r,z,rfl,hr⟩
  exact Au (h _ _ hr)
end
section
variable {lt:Keyed->Keyed->Bool} {a b out out':Array Keyed} {na nb k:Nat}
theorem O9 {o p q c:List Keyed}(h1:Srt lt ((q++p)++o))(h2:Srt lt (c++o))(h3:∀ x∈c,∀ y∈p,lt y x=false):Srt lt (c++(p++o)):=by
 rw [Di] at h1 h2
 obtain ⟨g1,g2,g3⟩:=h1
 rw [Di] at g1
 refine Di.mpr ⟨h2.1,Di.mpr ⟨g1.2.1,g2,λx hx y hy=>g3 x (As _ hx) y hy⟩,λx hx y hy=>?_⟩
 rcases AA.mp hy with hy|hy
 ·exact h3 x hx y hy
 ·exact h2.2.2 x hx y hy
theorem KQ {x:Keyed}(h:x∈a.toList.take na):∃ i,i<na∧a[i]? = some x:=by
 have:=NZ (a:=a) (ia:=0) (k:=na) (x:=x) h
 simpa using this
structure HI (lt:Keyed->Keyed->Bool) (a b out:Array Keyed) (na nb:Nat):Prop where
 pm:(a.toList.take na++(b.toList.take nb++out.toList.reverse)).Perm (a.toList++b.toList)
 sa:Srt lt (a.toList.take na++out.toList.reverse)
 sb:Srt lt (b.toList.take nb++out.toList.reverse)
theorem HI.tkA (h:HI lt a b out na nb)(k:Nat)(kn:k≤na)(hk:∀ i x j y,k≤i->i<na->a[i]? = some x->j<nb->b[j]? = some y->lt x y=false)(e:out'.toList.reverse=(a.toList.take na).drop k++out.toList.reverse):HI lt a b out' k nb:=by
 have d:a.toList.take na=a.toList.take k++(a.toList.take na).drop k:=by
  have:=(Bp k (a.toList.take na)).symm
  rwa [List.take_take,Nat.min_eq_left kn] at this
 have s1:=h.sa
 have p1:=h.pm
 rw [d] at s1 p1
 rw [A4] at p1
 refine ⟨?_,?_,?_⟩
 ·rw [e]
  exact (List.Perm.append_left _ (List.perm_append_comm_assoc _ _ _)).trans p1
 ·rw [e,← A4];exact s1
 ·rw [e]
  refine O9 s1 h.sb λx hx y hy=>?_
  obtain ⟨j,j1,j2⟩:=KQ hx
  obtain ⟨i,hi⟩:=AO.mp hy
  rw [List.getElem?_drop,List.getElem?_take] at hi
  split at hi
  ·rw [Ah] at hi
   exact hk _ _ _ _ (Nat.le_add_right _ _) (by assumption) hi j1 j2
  ·cases hi
theorem HI.swap (h:HI lt a b out na nb):HI lt b a out nb na:=⟨(List.perm_append_comm_assoc _ _ _).trans (h.pm.trans List.perm_append_comm),h.sb,h.sa⟩
theorem HI.tkB (h:HI lt a b out na nb)(k:Nat)(kn:k≤nb)(hk:∀ i x j y,k≤i->i<nb->b[i]? = some x->j<na->a[j]? = some y->lt x y=false)(e:out'.toList.reverse=(b.toList.take nb).drop k++out.toList.reverse):HI lt a b out' na k:=(h.swap.tkA k kn hk e).swap
theorem HI.len (h:HI lt a b out na nb)(h1:na≤a.size)(h2:nb≤b.size):out.size+(na+nb)=a.size+b.size:=by
 have:=h.pm.length_eq
 simp only [An,AE,List.length_reverse,Array.length_toList] at this
 ext
theorem HQ (a:Array Keyed)(i:Nat):(a.extract 0 i).toList=a.toList.take i:=by rw [Hu];rfl
theorem HI.finA (h:HI lt a b out na nb)(e:na=0):CC lt a b (a.extract 0 na++b.extract 0 nb++out.reverse):=by
 have p:=h.pm
 have q:=h.sb
 unfold CC
 rw [AN,AN,HQ,HQ,Array.toList_reverse]
 subst e
 exact ⟨p,q⟩
theorem HI.finB (h:HI lt a b out na nb)(e:nb=0):CC lt a b (a.extract 0 na++b.extract 0 nb++out.reverse):=by
 have p:=h.pm
 have q:=h.sa
 unfold CC
 rw [AN,AN,HQ,HQ,Array.toList_reverse]
 subst e
 rw [List.take_zero,BA]
 exact ⟨p,q⟩
theorem HI.finF (h:HI lt a b out na nb)(e:nb=1)(hl:∀ (i:Nat) (x y:Keyed),a[i]? = some x->b[0]? = some y->lt x y=false):CC lt a b (b.extract 0 nb++a.extract 0 na++out.reverse):=by
 have p:=h.pm
 have q:=h.sa
 have r:=h.sb
 unfold CC
 rw [AN,AN,HQ,HQ,Array.toList_reverse,A4]
 refine ⟨(List.perm_append_comm_assoc _ _ _).trans p,?_⟩
 rw [Di] at r
 refine Di.mpr ⟨r.1,q,λx hx y hy=>?_⟩
 rcases AA.mp hy with hy|hy
 ·obtain ⟨i,h1,h2⟩:=KQ hy
  obtain ⟨j,h3,h4⟩:=KQ hx
  cases (show j=0 by ext)
  exact hl _ _ _ h2 h4
 ·exact r.2.2 x hx y hy
theorem Fv {n:Nat}{x:Keyed}(h:0<n)(e:a[n-1]? = some x):(out.push x).toList.reverse=(a.toList.take n).drop (n-1)++out.toList.reverse:=by
 rw [BJ,List.reverse_append]
 congr 1
 rw [List.drop_take,show n-(n-1)=1 by ext,Nv e]
 rfl
theorem Lv {i n:Nat}:(out++(a.extract i n).reverse).toList.reverse=(a.toList.take n).drop i++out.toList.reverse:=by
 rw [AN,Array.toList_reverse,List.reverse_append,List.reverse_reverse,Hu,List.drop_take]
end
section
variable {prog:Program} {w:World} {A:Around} {E:Value->Shared->Prop} {s:Shared} {κ:SortKind} {M:Keyed->Prop} {lt:Keyed->Keyed->Bool} {st:SortSt} {a b:Array Keyed}
theorem TOk.ge (T:TOk prog w A s κ M lt)(ub:upR lt b){i j:Nat}{x y v:Keyed}(hij:i≤j)(e:b[i]? = some x)(e':b[j]? = some y)(h:lt v y=false):lt v x=false:=T.tr x y v (ub i j x y hij e e') h
theorem R7 (T:TOk prog w A s κ M lt)(hk:kindOf st=κ)(ua:upR lt a)(ub:upR lt b)(ma:∀ (i:Nat) (x:Keyed),a[i]? = some x->M x)(mb:∀ (i:Nat) (x:Keyed),b[i]? = some x->M x)(pa:1≤a.size)(pb:1≤b.size)
  (h0:∀ x y,a[0]? = some x->b[0]? = some y->lt x y=false) (hl:∀ (i:Nat) (x y:Keyed),a[a.size-1]? = some x->b[i]? = some y->lt x y=false)
  {Q:Array Keyed->SortSt->Prop} (h:∀ r g,CC lt a b r->Q r (wG st g)):wpS (model prog w) A E s (V3 a b) Q st:=by
 have hk':∀ g,kindOf (wG st g)=κ:=λ_=>hk
 obtain ⟨a0,ea⟩:=Cw pa
 have hf:∀ (i:Nat) (x y:Keyed),a[i]? = some x->b[0]? = some y->lt x y=false:=λi x y e1 e2=>T.le ua (AW _) ea e1 (h0 _ _ ea e2)
 have I0:HI lt a b #[] a.size b.size:=by
  have e:∀ c:Array Keyed,c.toList.take c.size=c.toList:=λc=>List.take_of_length_le (by simp)
  refine ⟨?_,?_,?_⟩<;>simp only [e,List.reverse_nil,BA,A7,ua.srt,ub.srt]
 obtain ⟨z,ez⟩:=Cw (a:=a) (i:=a.size-1) (by ext)
 have I1:HI lt a b #[z] (a.size-1) b.size:=I0.tkA (a.size-1) (by ext) (λi x j y q1 q2 e1 _ e2=>by
  cases (show i=a.size-1 by ext)
  exact hl _ _ _ e1 e2) (Fv (out:=#[]) pa ez)
 refine Ao (wpS_lift (Bc ⟨rfl,?_⟩))
 refine Ao (Cj ez ?_)
 refine CU (λc1=>Au (h _ (gallopOf st) (I1.finA c1))) λc1=>?_
 refine CU (λc2=>Au (h _ (gallopOf st) (I1.finF c2 hf))) λc2=>?_
 have c1':a.size-1≠0:=c1
 have c2':b.size≠1:=c2
 refine Ao (wpS_get ?_)
 refine Ao (wpS_mono (Eu (I:=λx c st'=>(∃ g,st'=wG st g)∧∃ na nb o mg,c=(none,na,nb,o,mg)∧HI lt a b o na nb∧0<na∧na≤a.size∧1<nb∧nb≤b.size∧x<o.size)
  (Q:=λc st'=>(∃ g,st'=wG st g)∧∃ r z,c=(some r,z)∧CC lt a b r) ?_ ?_ ⟨⟨gallopOf st,rfl⟩,_,_,_,_,rfl,I1,by ext,by ext,by ext,by ext,by simp⟩) ?_)
 ·rintro x c st' R rd ry hx ⟨⟨g,rfl⟩,na,nb,o,mg,rfl,I,la,la',lb,lb',hs⟩
  refine Ao (wpS_mono (Eu (I:=λy c st'=>st'=wG st g∧∃ na nb o ac bc,c=(none,na,nb,o,ac,bc)∧HI lt a b o na nb∧0<na∧na≤a.size∧1<nb∧nb≤b.size∧x+y<o.size)
   (Q:=λc st'=>st'=wG st g∧((∃ r z,c=(some r,z)∧CC lt a b r)∨∃ na nb o ac bc,c=(none,na,nb,o,ac,bc)∧HI lt a b o na nb∧0<na∧na≤a.size∧1<nb∧nb≤b.size∧x+1<o.size)) ?_ ?_ ⟨rfl,_,_,_,_,_,rfl,I,la,la',lb,lb',hs⟩) ?_)
  ·rintro y c st' R rd ry hy ⟨rfl,na,nb,o,ac,bc,rfl,I,la,la',lb,lb',hs⟩
   obtain ⟨v,ev⟩:=Cw (a:=b) (i:=nb-1) (by ext)
   obtain ⟨u,eu⟩:=Cw (a:=a) (i:=na-1) (by ext)
   refine Ao (Cj ev (Ao (Cj eu (Ao (T.run (hk' g) (mb _ _ ev) (ma _ _ eu) ?_)))))
   cases q:lt v u with
   | true =>
    have J:HI lt a b (o.push u) (na-1) nb:=I.tkA (na-1) (by ext) (λi x j y z1 z2 e1 z3 e2=>by
     cases (show i=na-1 by ext)
     cases eu.symm.trans e1
     exact T.ge ub (by ext) e2 ev (T.asym _ _ q)) (Fv la eu)
    have hs':x+(y+1)<(o.push u).size:=by rw [Bf];ext
    have hs1:x+1<(o.push u).size:=by ext
    exact Ao (Cj eu (CU (λc3=>Au (rd _ _ ⟨rfl,.inl ⟨_,_,rfl,J.finA c3⟩⟩)) λc3=>have c3':na-1≠0:=c3
     have l1:0<na-1:=by ext
     have l2:na-1≤a.size:=by ext
     Cz (λ_=>Au (rd _ _ ⟨rfl,.inr ⟨_,_,_,_,_,rfl,J,l1,l2,lb,lb',hs1⟩⟩)) λ_=>Au (ry _ _ ⟨rfl,_,_,_,_,_,rfl,J,l1,l2,lb,lb',hs'⟩)))
   | false =>
    have J:HI lt a b (o.push v) na (nb-1):=I.tkB (nb-1) (by ext) (λi x j y z1 z2 e1 z3 e2=>by
     cases (show i=nb-1 by ext)
     cases ev.symm.trans e1
     exact T.ge ua (by ext) e2 eu q) (Fv (by ext) ev)
    have hs':x+(y+1)<(o.push v).size:=by rw [Bf];ext
    have hs1:x+1<(o.push v).size:=by ext
    exact Ao (Cj ev (CU (λc3=>Au (rd _ _ ⟨rfl,.inl ⟨_,_,rfl,J.finF c3 hf⟩⟩)) λc3=>have c3':nb-1≠1:=c3
     have l1:1<nb-1:=by ext
     have l2:nb-1≤b.size:=by ext
     Cz (λ_=>Au (rd _ _ ⟨rfl,.inr ⟨_,_,_,_,_,rfl,J,la,la',l1,l2,hs1⟩⟩)) λ_=>Au (ry _ _ ⟨rfl,_,_,_,_,_,rfl,J,la,la',l1,l2,hs'⟩)))
  ·rintro c st' ⟨rfl,na,nb,o,ac,bc,rfl,I,la,la',lb,lb',hs⟩
   exact ⟨rfl,.inr ⟨_,_,_,_,_,rfl,I,la,la',lb,lb',by ext⟩⟩
  rintro c st' ⟨rfl,⟨r,z,rfl,hr⟩|⟨na,nb,o,ac,bc,rfl,I,la,la',lb,lb',hs⟩⟩
  ·exact Au (rd _ _ ⟨⟨_,rfl⟩,_,_,rfl,hr⟩)
  refine Ao (wpS_lift (Bc ⟨rfl,?_⟩))
  refine Ao (wpS_mono (Eu (I:=λy c st'=>(∃ g,st'=wG st g)∧∃ na nb o mg ac bc,c=(none,na,nb,o,mg,ac,bc)∧HI lt a b o na nb∧0<na∧na≤a.size∧1<nb∧nb≤b.size∧x+1<o.size)
   (Q:=λc st'=>(∃ g,st'=wG st g)∧((∃ r z,c=(some r,z)∧CC lt a b r)∨∃ na nb o mg ac bc,c=(none,na,nb,o,mg,ac,bc)∧HI lt a b o na nb∧0<na∧na≤a.size∧1<nb∧nb≤b.size∧x+1<o.size)) ?_ ?_ ⟨⟨_,rfl⟩,_,_,_,_,_,_,rfl,I,la,la',lb,lb',hs⟩) ?_)
  ·rintro y c st' R rd ry hy ⟨⟨g,rfl⟩,na,nb,o,mg,ac,bc,rfl,I,la,la',lb,lb',hs⟩
   obtain ⟨v,ev⟩:=Cw (a:=b) (i:=nb-1) (by ext)
   dsimp -zeta -zetaHave only
   extract_lets s1 na1 s2 nb1 s3 o1 s4 mg1 s5 ac1 bc1 nb2 jp mg2
   have H:∀ m,wpS (model prog w) A E s (jp () m) R (wG st g):=λm=>by
    refine Ao (BN (Ao (Cj ev (Ao (KU T (hk' m) (base:=0) (n:=na) (hint:=na-1) (ua.seg _ _) ma (by ext) (by ext) (mb _ _ ev) λk k1 k2 k3=>?_)))))
    dsimp -zeta -zetaHave only
    extract_lets kk ac2 jp2 o2
    have H2:∀ o na,HI lt a b o na nb->0<na->na≤a.size->x+1<o.size->(∀ j u,j<na->a[j]? = some u->lt v u=false)->wpS (model prog w) A E s (jp2 () na o) R (wG st m):=λo na I la la' hs hv=>by
     obtain ⟨u,eu⟩:=Cw (a:=a) (i:=na-1) (by ext)
     have J:HI lt a b (o.push v) na (nb-1):=I.tkB (nb-1) (by ext) (λi x j y z1 z2 e1 z3 e2=>by
      cases (show i=nb-1 by ext)
      cases ev.symm.trans e1
      exact hv _ _ z3 e2) (Fv (by ext) ev)
     have hs1:x+1<(o.push v).size:=by rw [Bf];ext
     refine Ao (Cj ev (CU (λc3=>Au (rd _ _ ⟨⟨_,rfl⟩,.inl ⟨_,_,rfl,J.finF c3 hf⟩⟩)) λc3=>?_))
     have c3':nb-1≠1:=c3
     refine Ao (Cj eu (Ao (Ku T (hk' m) (base:=0) (n:=nb-1) (hint:=nb-1-1) (ub.seg _ _) mb (by ext) (by ext) (ma _ _ eu) λk k1 k2 k3=>?_)))
     dsimp -zeta -zetaHave only
     extract_lets kk bc3 na3 jp3 o3 nb3
     have H3:∀ o nb,HI lt a b o na nb->1<nb->nb≤b.size->x+1<o.size->(∀ j u',j<nb->b[j]? = some u'->lt u u'=false)->wpS (model prog w) A E s (jp3 () nb o) R (wG st m):=λo nb I lb lb' hs hv=>by
      have J:HI lt a b (o.push u) (na-1) nb:=I.tkA (na-1) (by ext) (λi x j y z1 z2 e1 z3 e2=>by
       cases (show i=na-1 by ext)
       cases eu.symm.trans e1
       exact hv _ _ z3 e2) (Fv la eu)
      have hs':x+1<(o.push u).size:=by rw [Bf];ext
      exact Ao (Cj eu (CU (λc3=>Au (rd _ _ ⟨⟨_,rfl⟩,.inl ⟨_,_,rfl,J.finA c3⟩⟩)) λc3=>have c3':na-1≠0:=c3
       have l1:0<na-1:=by ext
       have l2:na-1≤a.size:=by ext
       Cz (λ_=>Au (rd _ _ ⟨⟨_,rfl⟩,.inr ⟨_,_,_,_,_,_,rfl,J,l1,l2,lb,lb',hs'⟩⟩)) λ_=>Au (ry _ _ ⟨⟨_,rfl⟩,_,_,_,_,_,_,rfl,J,l1,l2,lb,lb',hs'⟩)))
     have J2:HI lt a b (o.push v++(b.extract k (nb-1)).reverse) na k:=J.tkB k k1 (λi x j y z1 z2 e1 z3 e2=>T.ge ua (by ext) e2 eu (k3 i x z1 z2 (by rw [AU];exact e1))) Lv
     have up:∀ j u',j<k->b[j]? = some u'->lt u u'=false:=λj u' z e=>T.asym _ _ (k2 j u' z (by rw [AU];exact e))
     refine Cz (λz=>CU (λc4=>Au (rd _ _ ⟨⟨_,rfl⟩,.inl ⟨_,_,rfl,J2.finF c4 hf⟩⟩)) λc4=>CU (λc5=>Au (rd _ _ ⟨⟨_,rfl⟩,.inl ⟨_,_,rfl,J2.finB c5⟩⟩)) λc5=>?_) λz=>?_
     ·have c4':k≠1:=c4
      have c5':k≠0:=c5
      exact H3 _ _ J2 (show 1<k by ext) (show k≤b.size by ext) (show x+1<(o.push v++(b.extract k (nb-1)).reverse).size by rw [BH];ext) up
     ·have z':¬ nb-1-k > 0:=z
      cases (show k=nb-1 by ext)
      exact H3 _ _ J (show 1<nb-1 by ext) (show nb-1≤b.size by ext) hs1 up
    have J2:HI lt a b (o++(a.extract k na).reverse) k nb:=I.tkA k k1 (λi x j y z1 z2 e1 z3 e2=>T.ge ub (by ext) e2 ev (T.asym _ _ (k3 i x z1 z2 (by rw [AU];exact e1)))) Lv
    have up:∀ j u',j<k->a[j]? = some u'->lt v u'=false:=λj u' z e=>k2 j u' z (by rw [AU];exact e)
    refine Cz (λz=>CU (λc5=>Au (rd _ _ ⟨⟨_,rfl⟩,.inl ⟨_,_,rfl,J2.finA c5⟩⟩)) λc5=>?_) λz=>?_
    ·have c5':k≠0:=c5
     exact H2 _ _ J2 (show 0<k by ext) (show k≤a.size by ext) (show x+1<(o++(a.extract k na).reverse).size by rw [BH];ext) up
    ·have z':¬ na-k > 0:=z
     cases (show k=na by ext)
     exact H2 _ _ I la la' hs up
   exact Cz (λ_=>H _) λ_=>H _
  ·rintro c st' ⟨⟨g,rfl⟩,na,nb,o,mg,ac,bc,rfl,I,la,la',lb,lb',hs⟩
   exact ⟨⟨_,rfl⟩,.inr ⟨_,_,_,_,_,_,rfl,I,la,la',lb,lb',hs⟩⟩
  rintro c st' ⟨⟨g,rfl⟩,⟨r,z,rfl,hr⟩|⟨na,nb,o,mg,ac,bc,rfl,I,la,la',lb,lb',hs⟩⟩
  ·exact Au (rd _ _ ⟨⟨_,rfl⟩,_,_,rfl,hr⟩)
  ·exact Ao (BN (Au (ry _ _ ⟨⟨_,rfl⟩,_,_,_,_,rfl,I,la,la',lb,lb',hs⟩)))
 ·rintro c st' ⟨⟨g,rfl⟩,na,nb,o,mg,rfl,I,la,la',lb,lb',hs⟩
  have:=I.len la' lb'
  ext
 ·rintro c st' ⟨⟨g,rfl⟩,r,z,rfl,hr⟩
  exact Au (h _ _ hr)
end
theorem LD {f:Array Keyed->Keyed×Nat->Array Keyed}{off:Nat}(hf:∀ a p j,f a (p,j)=a.setIfInBounds (off+j) p):∀ (m:List Keyed) (k:Nat) (arr:Array Keyed),off+k+m.length≤arr.size ->
  ((m.zipIdx k).foldl f arr).toList=arr.toList.take (off+k)++(m++arr.toList.drop (off+k+m.length))
 | [],k,arr,_=>by
  show arr.toList=_
  simp
 | p::m,k,arr,h=>by
  rw [List.length_cons] at h
  rw [List.zipIdx_cons,List.foldl_cons,hf]
  have:=LD hf m (k+1) (arr.setIfInBounds (off+k) p) (by rw [Array.size_setIfInBounds];ext)
  rw [this,Array.toList_setIfInBounds,List.length_cons,show off+(k+1)=off+k+1 by ext]
  have l:off+k<arr.toList.length:=by rw [Array.length_toList];ext
  rw [List.drop_set_of_lt (by ext),show off+k+1+m.length=off+k+(m.length+1) by ext]
  have:(arr.toList.set (off+k) p).take (off+k+1)=arr.toList.take (off+k)++[p]:=by
   rw [List.take_succ_eq_append_getElem (by rw [Bb];exact l),List.take_set_of_le (by ext),List.getElem_set_self]
  rw [this,A4]
  rfl
theorem Q2 {l m:List Keyed}{o n:Nat}(hm:m.length=n)(ho:o+n≤l.length)(k:Nat):(l.take o++(m++l.drop (o+n)))[k]? = if k<o then l[k]? else if k<o+n then m[k-o]? else l[k]?:=by
 rw [List.getElem?_append,AE,Nat.min_eq_left (by ext)]
 by_cases h:k<o
 ·rw [if_pos h,if_pos h,Bh h]
 ·rw [if_neg h,if_neg h,List.getElem?_append,hm]
  by_cases h2:k-o<n
  ·rw [if_pos h2,if_pos (by ext)]
  ·rw [if_neg h2,if_neg (by ext),List.getElem?_drop]
   congr 1
   ext
section
variable {prog:Program} {w:World} {A:Around} {E:Value->Shared->Prop} {s:Shared} {κ:SortKind} {M:Keyed->Prop} {lt:Keyed->Keyed->Bool} {st:SortSt}
theorem DR {a:Array Keyed}{i j k:Nat}(hj:j≤a.size){x:Keyed}(e:(a.extract i j)[k]? = some x):i+k<j∧a[i+k]? = some x:=by
 rw [← Ah,Hu,List.getElem?_take] at e
 split at e
 ·rw [List.getElem?_drop,Ah] at e
  exact ⟨by ext,e⟩
 ·cases e
theorem RG (T:TOk prog w A s κ M lt){i sa na nb pw pw':Nat}(hk:kindOf st=κ)(hf:failedOf st=none)(ma:∀ (i:Nat) (x:Keyed),(arrOf st)[i]? = some x->M x)(e1:(pendingOf st)[i]? = some (sa,na,pw))(e2:(pendingOf st)[i+1]? = some (sa+na,nb,pw'))
  (pa:1≤na) (pb:1≤nb) (le:sa+na+nb≤(arrOf st).size) (ua:upS lt (arrOf st) sa (sa+na)) (ub:upS lt (arrOf st) (sa+na) (sa+na+nb)) {Q:Bool->SortSt->Prop}
  (h:∀ r g,r.toList.Perm (arrOf st).toList->(∀ k,k<sa∨sa+na+nb≤k->r[k]? = (arrOf st)[k]?)->upS lt r sa (sa+na+nb)->Q true (SortSt.mk' κ r (((pendingOf st).setIfInBounds i (sa,na+nb,pw)).eraseIdxIfInBounds (i+1)) g none)):wpS (model prog w) A E s (mergeAt' i) Q st:=by
 obtain ⟨kd,ar,pn,mg,fl⟩:=st
 subst hk hf
 replace ma:∀ (i:Nat) (x:Keyed),ar[i]? = some x->M x:=ma
 replace e1:pn[i]? = some (sa,na,pw):=e1
 replace e2:pn[i+1]? = some (sa+na,nb,pw'):=e2
 replace le:sa+na+nb≤ar.size:=le
 replace ua:upS lt ar sa (sa+na):=ua
 replace ub:upS lt ar (sa+na) (sa+na+nb):=ub
 replace h:∀ r g,r.toList.Perm ar.toList->(∀ k,k<sa∨sa+na+nb≤k->r[k]? = ar[k]?)->upS lt r sa (sa+na+nb)->Q true (SortSt.mk' kd r ((pn.setIfInBounds i (sa,na+nb,pw)).eraseIdxIfInBounds (i+1)) g none):=h
 have hk':∀ g,kindOf (SortSt.mk' kd ar ((pn.setIfInBounds i (sa,na+nb,pw)).eraseIdxIfInBounds (i+1)) g none)=kd:=λ_=>rfl
 refine Ao (wpS_get ?_)
 dsimp -zeta -zetaHave only
 rw [e1,e2]
 obtain ⟨b0,eb⟩:=Cw (a:=ar) (i:=sa+na) (by ext)
 refine Ao (BN (Ao (Cj eb ?_)))
 refine Ao (KU T (hk' mg) (base:=sa) (n:=na) (hint:=0) ua ma (by ext) (by ext) (ma _ _ eb) λk k1 k2 k3=>?_)
 dsimp -zeta -zetaHave only
 have same:upS lt ar sa (sa+k):=λi j x y h1 h2 h3=>ua i j x y h1 h2 (by ext)
 have low:∀ i j x y,sa≤i->i<sa+k->sa+na≤j->j<sa+na+nb->ar[i]? = some x->ar[j]? = some y->lt y x=false:=λi j x y h1 h2 h3 h4 q1 q2=>by
  have:=k2 (i-sa) x (by ext) (by rw [show sa+(i-sa)=i by ext];exact q1)
  exact T.tr x b0 y this (ub _ _ _ _ (Ak _) h3 h4 eb q2)
 refine CU (λc=>Au (h ar mg (A7 _) (λ_ _=>rfl) λi j x y h1 h2 h3 q1 q2=>?_)) λc=>?_
 ·have c':na-k=0:=c
  by_cases z1:j<sa+na
  ·exact ua _ _ _ _ h1 h2 z1 q1 q2
  ·by_cases z2:i<sa+na
   ·exact low i j x y h1 (by ext) (by ext) h3 q1 q2
   ·exact ub _ _ _ _ (by ext) h2 h3 q1 q2
 have c':na-k≠0:=c
 obtain ⟨z,ez⟩:=Cw (a:=ar) (i:=sa+k+(na-k)-1) (by ext)
 refine Ao (Cj ez (Ao (Ku T (hk' mg) (base:=sa+na) (n:=nb) (hint:=nb-1) ub ma (by ext) (by ext) (ma _ _ ez) λn n1 n2 n3=>?_)))
 have ez':ar[sa+na-1]? = some z:=by rw [← ez];congr 1;ext
 have high:∀ i j x y,sa≤i->i<sa+na->sa+na+n≤j->j<sa+na+nb->ar[i]? = some x->ar[j]? = some y->lt y x=false:=λi j x y h1 h2 h3 h4 q1 q2=>by
  have:=n3 (j-(sa+na)) y (by ext) (by ext) (by rw [show sa+na+(j-(sa+na))=j by ext];exact q2)
  exact T.tr x z y (ua _ _ _ _ h1 (by ext) (by ext) q1 ez') this
 dsimp -zeta -zetaHave only
 refine CU (λc=>Au (h ar mg (A7 _) (λ_ _=>rfl) λi j x y h1 h2 h3 q1 q2=>?_)) λc2=>?_
 ·have c':n=0:=c
  by_cases z1:j<sa+na
  ·exact ua _ _ _ _ h1 h2 z1 q1 q2
  ·by_cases z2:i<sa+na
   ·exact high i j x y h1 z2 (by ext) h3 q1 q2
   ·exact ub _ _ _ _ (by ext) h2 h3 q1 q2
 have c2':n≠0:=c2
 extract_lets xs ys jp
 have hx:xs=ar.extract (sa+k) (sa+na):=rfl
 have hy:ys=ar.extract (sa+na) (sa+na+n):=rfl
 have sx:xs.size=na-k:=by rw [hx,Array.size_extract];ext
 have sy:ys.size=n:=by rw [hy,Array.size_extract];ext
 have H:∀ r g,CC lt xs ys r->wpS (model prog w) A E s (jp r) Q (SortSt.mk' kd ar ((pn.setIfInBounds i (sa,na+nb,pw)).eraseIdxIfInBounds (i+1)) g none):=λr g hr=>by
  obtain ⟨pm,sr⟩:=hr
  have lr:r.toList.length=na-k+n:=by rw [pm.length_eq,An,Array.length_toList,Array.length_toList,sx,sy]
  have org:∀ (q:Nat) x,r[q]? = some x->∃ p,sa+k≤p∧p<sa+na+n∧ar[p]? = some x:=λq x e=>by
   have:x∈xs.toList++ys.toList:=pm.mem_iff.mp (Ag (by rw [Ah];exact e))
   rcases AA.mp this with z|z
   ·obtain ⟨p,hp⟩:=AO.mp z
    rw [Ah,hx] at hp
    obtain ⟨p1,p2⟩:=DR (by ext) hp
    exact ⟨_,by ext,by ext,p2⟩
   ·obtain ⟨p,hp⟩:=AO.mp z
    rw [Ah,hy] at hp
    obtain ⟨p1,p2⟩:=DR (by ext) hp
    exact ⟨_,by ext,by ext,p2⟩
  have key:∀ r':Array Keyed,r'.toList=ar.toList.take (sa+k)++(r.toList++ar.toList.drop (sa+k+(na-k+n)))->r'.toList.Perm ar.toList∧(∀ k,k<sa∨sa+na+nb≤k->r'[k]? = ar[k]?)∧upS lt r' sa (sa+na+nb):=λr' e=>by
   have get:∀ q,r'[q]? = if q<sa+k then ar[q]? else if q<sa+k+(na-k+n) then r[q-(sa+k)]? else ar[q]?:=λq=>by
    rw [← Ah,e,Q2 lr (by rw [Array.length_toList];ext)]
    simp only [Ah]
   refine ⟨?_,λq hq=>?_,λi j x y h1 h2 h3 q1 q2=>?_⟩
   ·have d:ar.toList=ar.toList.take (sa+k)++((xs.toList++ys.toList)++ar.toList.drop (sa+k+(na-k+n))):=by
     have d1:xs.toList++ys.toList=(ar.toList.drop (sa+k)).take (na-k+n):=by
      rw [hx,hy,Hu,Hu,List.take_add,List.drop_drop,show sa+k+(na-k)=sa+na by ext,show sa+na-(sa+k)=na-k by ext,show sa+na+n-(sa+na)=n by ext]
     rw [d1,show ar.toList.drop (sa+k+(na-k+n))=(ar.toList.drop (sa+k)).drop (na-k+n) by rw [List.drop_drop],Bp,Bp]
    rw [e]
    refine List.Perm.trans ?_ (List.Perm.of_eq d.symm)
    exact (pm.append_right _).append_left _
   ·rw [get]
    by_cases z:q<sa+k
    ·rw [if_pos z]
    ·rw [if_neg z,if_neg (by ext)]
   ·rw [get] at q1 q2
    by_cases z1:i<sa+k
    ·rw [if_pos z1] at q1
     by_cases z2:j<sa+k
     ·rw [if_pos z2] at q2
      exact ua _ _ _ _ h1 h2 (by ext) q1 q2
     ·rw [if_neg z2] at q2
      by_cases z3:j<sa+k+(na-k+n)
      ·rw [if_pos z3] at q2
       obtain ⟨p,p1,p2,p3⟩:=org _ _ q2
       by_cases z4:p<sa+na
       ·exact ua _ _ _ _ h1 (by ext) z4 q1 p3
       ·exact low _ _ _ _ h1 z1 (by ext) (by ext) q1 p3
      ·rw [if_neg z3] at q2
       exact low _ _ _ _ h1 z1 (by ext) h3 q1 q2
    ·rw [if_neg z1] at q1
     rw [if_neg (by ext)] at q2
     by_cases z2:i<sa+k+(na-k+n)
     ·rw [if_pos z2] at q1
      by_cases z3:j<sa+k+(na-k+n)
      ·rw [if_pos z3] at q2
       by_cases z4:i=j
       ·subst z4
        cases q1.symm.trans q2
        exact T.irr _
       ·have:=List.pairwise_iff_getElem.mp sr (i-(sa+k)) (j-(sa+k)) (by rw [lr];ext) (by rw [lr];ext) (by ext)
        rw [← Ah] at q1 q2
        obtain ⟨_,rfl⟩:=Ad.mp q1
        obtain ⟨_,rfl⟩:=Ad.mp q2
        exact this
      ·rw [if_neg z3] at q2
       obtain ⟨p,p1,p2,p3⟩:=org _ _ q1
       by_cases z4:p<sa+na
       ·exact high _ _ _ _ (by ext) z4 (by ext) h3 p3 q2
       ·exact ub _ _ _ _ (by ext) (by ext) h3 p3 q2
     ·rw [if_neg z2] at q1
      rw [if_neg (by ext)] at q2
      exact ub _ _ _ _ (by ext) h2 h3 q1 q2
  refine Ao (BN (Ao (wpS_get (Au ?_))))
  have e:=LD (f:=λa x=>match x with|(p,j)=>a.setIfInBounds (sa+k+j) p) (off:=sa+k) (λa p j=>rfl) r.toList 0 ar (by rw [lr];ext)
  rw [lr] at e
  obtain ⟨g1,g2,g3⟩:=key _ e
  exact h _ g g1 g2 g3
 have nx:1≤xs.size:=by ext
 have ny:1≤ys.size:=by ext
 have ux:upR lt xs:=λi j x y q e1 e2=>by
  obtain ⟨p1,p2⟩:=DR (by ext) (hx▸e1)
  obtain ⟨q1,q2⟩:=DR (by ext) (hx▸e2)
  exact ua _ _ _ _ (by ext) (by ext) (by ext) p2 q2
 have uy:upR lt ys:=λi j x y q e1 e2=>by
  obtain ⟨p1,p2⟩:=DR (by ext) (hy▸e1)
  obtain ⟨q1,q2⟩:=DR (by ext) (hy▸e2)
  exact ub _ _ _ _ (by ext) (by ext) (by ext) p2 q2
 have mx:∀ (i:Nat) (x:Keyed),xs[i]? = some x->M x:=λi x e=>ma _ _ (DR (by ext) (hx▸e)).2
 have my:∀ (i:Nat) (x:Keyed),ys[i]? = some x->M x:=λi x e=>ma _ _ (DR (by ext) (hy▸e)).2
 have f0:∀ x y,xs[0]? = some x->ys[0]? = some y->lt x y=false:=λx y e1 e2=>by
  obtain ⟨p1,p2⟩:=DR (by ext) (hx▸e1)
  obtain ⟨q1,q2⟩:=DR (by ext) (hy▸e2)
  cases eb.symm.trans q2
  exact T.asym _ _ (k3 k x (Ak _) (by ext) p2)
 have fl:∀ (i:Nat) (x y:Keyed),xs[xs.size-1]? = some x->ys[i]? = some y->lt x y=false:=λi x y e1 e2=>by
  obtain ⟨p1,p2⟩:=DR (by ext) (hx▸e1)
  obtain ⟨q1,q2⟩:=DR (by ext) (hy▸e2)
  rw [sx,show sa+k+(na-k-1)=sa+na-1 by ext] at p2
  cases ez'.symm.trans p2
  exact T.asym _ _ (n2 i y (by ext) q2)
 refine Cz (λ_=>Ao (RJ T (hk' mg) ux uy mx my nx ny f0 fl λr g hr=>H r g hr)) λ_=>Ao (R7 T (hk' mg) ux uy mx my nx ny f0 fl λr g hr=>H r g hr)
end
structure Kp (a0:Array Keyed) (lo hi:Nat) (r:Array Keyed):Prop where
 pm:r.toList.Perm a0.toList
 out:∀ k,k<lo∨hi≤k->r[k]? = a0[k]?
section
variable {a0 r:Array Keyed} {lo hi:Nat}
theorem Kp.refl:Kp a0 lo hi a0:=⟨A7 _,λ_ _=>rfl⟩
theorem Kp.size (h:Kp a0 lo hi r):r.size=a0.size:=by have:=h.pm.length_eq;simpa using this
theorem Kp.mem (h:Kp a0 lo hi r){M:Keyed->Prop}(ma:∀ (i:Nat) (x:Keyed),a0[i]? = some x->M x)(i:Nat)(x:Keyed)(e:r[i]? = some x):M x:=by
 have:=h.pm.mem_iff.mp (Ag (by rw [Ah];exact e))
 obtain ⟨j,hj⟩:=AO.mp this
 exact ma j x (by rw [← Ah];exact hj)
theorem Kp.rev (h:Kp a0 lo hi r){i j:Nat}(hi':lo≤i)(hj:j≤hi)(hs:j≤r.size):Kp a0 lo hi (mirror r i j ((j-i) / 2)):=by
 refine ⟨(Array.perm_iff_toList_perm.mp (mirror_perm _ _ _ _)).trans h.pm,λk hk=>?_⟩
 rw [Bz hs,if_neg (by ext)]
 exact h.out k hk
theorem Kp.bub (h:Kp a0 lo hi r){i d:Nat}(hi':lo+d≤i)(hj:i<hi)(hs:i<r.size):Kp a0 lo hi (bubble r i d):=by
 refine ⟨(Array.perm_iff_toList_perm.mp (bubble_perm _ _ _)).trans h.pm,λk hk=>?_⟩
 rw [getElem?_bubble hs d (by ext),if_neg (by ext),if_neg (by ext)]
 exact h.out k hk
end
section
variable {prog:Program} {w:World} {A:Around} {E:Value->Shared->Prop} {s:Shared} {κ:SortKind} {M:Keyed->Prop} {lt:Keyed->Keyed->Bool} {st:SortSt}
theorem TOk.at (T:TOk prog w A s κ M lt)(hk:kindOf st=κ){i j:Nat}{x y:Keyed}(e1:(arrOf st)[i]? = some x)(e2:(arrOf st)[j]? = some y)(hx:M x)(hy:M y){Q:Option Bool->SortSt->Prop}(h:Q (some (lt x y)) st):wpS (model prog w) A E s (ltAt' i j) Q st:=by
 rw [ltAt'_eq]
 exact Ao (wpS_get (Ao (Cj e1 (Ao (Cj e2 (T.run hk hx hy h))))))
theorem KP {μ:Model}{σ β:Type}{a n:Nat}{st:σ}{f:Nat->β->StateT σ Sem (ForInStep β)}(I:Nat->β->σ->Prop){Q:β->σ->Prop}
  (hs:∀ i c st (R:ForInStep β->σ->Prop),(∀ c st,Q c st->R (.done c) st)->(∀ c st,I (i+1) c st->R (.yield c) st)->a≤i->i<n->I i c st->wpS μ A E s (f i c) R st)
  (he:∀ c st,I (max a n) c st->Q c st) {c:β} (h:I a c st):wpS μ A E s (forIn [a:n] c f) Q st:=
 wpS_forRange I (λi c st h1 hi hI=>hs i c st _ (λ_ _ z=>z) (λ_ _ z=>z) h1 hi hI) he h
theorem OW (T:TOk prog w A s κ M lt){a:Array Keyed}{lo n:Nat}(hn:1≤n)(u:upS lt a lo (lo+n)){x y:Keyed}(e1:a[lo+n-1]? = some x)(e2:a[lo+n]? = some y)(h:lt y x=false):upS lt a lo (lo+(n+1)):=λi j v z h1 h2 h3 q1 q2=>by
 by_cases c:j<lo+n
 ·exact u i j v z h1 h2 c q1 q2
 ·cases (show j=lo+n by ext)
  cases e2.symm.trans q2
  by_cases c2:i=lo+n
  ·cases c2
   cases e2.symm.trans q1
   exact T.irr _
  ·exact T.tr v x y (u _ _ _ _ h1 (by ext) (by ext) q1 e1) h
def dnS (lt:Keyed->Keyed->Bool)(a:Array Keyed)(lo hi:Nat):Prop:=∀ (i j:Nat) (x y:Keyed),lo≤i->i≤j->j<hi->a[i]? = some x->a[j]? = some y->lt x y=false
def eqS (lt:Keyed->Keyed->Bool)(a:Array Keyed)(lo hi:Nat):Prop:=∀ (i j:Nat) (x y:Keyed),lo≤i->i<hi->lo≤j->j<hi->a[i]? = some x->a[j]? = some y->lt x y=false
theorem Gd (T:TOk prog w A s κ M lt){a:Array Keyed}{lo n:Nat}(hn:1≤n)(u:dnS lt a lo (lo+n)){x y:Keyed}(e1:a[lo+n-1]? = some x)(e2:a[lo+n]? = some y)(h:lt x y=false):dnS lt a lo (lo+(n+1)):=λi j v z h1 h2 h3 q1 q2=>by
 by_cases c:j<lo+n
 ·exact u i j v z h1 h2 c q1 q2
 ·cases (show j=lo+n by ext)
  cases e2.symm.trans q2
  by_cases c2:i=lo+n
  ·cases c2
   cases e2.symm.trans q1
   exact T.irr _
  ·exact T.tr y x v h (u _ _ _ _ h1 (by ext) (by ext) q1 e1)
theorem KG {a:Array Keyed}{lo m e:Nat}(he:lo≤e)(hm:m≤a.size)(u:dnS lt a lo m)(q:eqS lt a e m):dnS lt (mirror a e m ((m-e) / 2)) lo m:=λi j x y h1 h2 h3 q1 q2=>by
 rw [Bz hm] at q1 q2
 by_cases c1:e≤i
 ·rw [if_pos (by ext)] at q1 q2
  exact q _ _ _ _ (by ext) (by ext) (by ext) (by ext) q1 q2
 ·rw [if_neg (by ext)] at q1
  by_cases c2:e≤j
  ·rw [if_pos (by ext)] at q2
   exact u _ _ _ _ h1 (by ext) (by ext) q1 q2
  ·rw [if_neg (by ext)] at q2
   exact u _ _ _ _ h1 h2 h3 q1 q2
theorem Sa {a:Array Keyed}{lo m:Nat}(hm:m≤a.size)(u:dnS lt a lo m):upS lt (mirror a lo m ((m-lo) / 2)) lo m:=λi j x y h1 h2 h3 q1 q2=>by
 rw [Bz hm,if_pos (by ext)] at q1 q2
 exact u _ _ _ _ (by ext) (by ext) (by ext) q2 q1
theorem Ta (T:TOk prog w A s κ M lt){lo n0:Nat}(hk:kindOf st=κ)(ma:∀ (i:Nat) (x:Keyed),(arrOf st)[i]? = some x->M x)(hn:1≤n0)(le:lo+n0≤(arrOf st).size){Q:Option Nat->SortSt->Prop}
  (h:∀ n r,1≤n->n≤n0->Kp (arrOf st) lo (lo+n0) r->upS lt r lo (lo+n)->Q (some n) (setArr st r)):wpS (model prog w) A E s (countRun' lo n0) Q st:=by
 obtain ⟨kd,ar,pn,mg,fl⟩:=st
 subst hk
 replace ma:∀ (i:Nat) (x:Keyed),ar[i]? = some x->M x:=ma
 replace le:lo+n0≤ar.size:=le
 replace h:∀ n r,1≤n->n≤n0->Kp ar lo (lo+n0) r->upS lt r lo (lo+n)->Q (some n) (SortSt.mk' kd r pn mg fl):=h
 have hk':∀ r,kindOf (SortSt.mk' kd r pn mg fl)=kd:=λ_=>rfl
 have step:∀ r,Kp ar lo (lo+n0) r->∀ i j x y,r[i]? = some x->r[j]? = some y->∀ (Q':Option Bool->SortSt->Prop),Q' (some (lt x y)) (SortSt.mk' kd r pn mg fl)->wpS (model prog w) A E s (ltAt' i j) Q' (SortSt.mk' kd r pn mg fl):=λr K i j x y e1 e2 Q' q=>T.at (hk' r) e1 e2 (K.mem ma _ _ e1) (K.mem ma _ _ e2) q
 have asc:∀ r (m:Nat) (f:Nat->Option (Option Nat)×Nat->StateT SortSt Sem (ForInStep (Option (Option Nat)×Nat))) (Q':Option (Option Nat)×Nat->SortSt->Prop),Kp ar lo (lo+n0) r->1≤m->m≤n0->upS lt r lo (lo+m) ->
   (∀ i n (R:ForInStep (Option (Option Nat)×Nat)->SortSt->Prop) x y,r[lo+n-1]? = some x->r[lo+n]? = some y->(lt y x=true->R (.done (none,n)) (SortSt.mk' kd r pn mg fl))->(lt y x=false->R (.yield (none,n+1)) (SortSt.mk' kd r pn mg fl))->wpS (model prog w) A E s (f i (none,n)) R (SortSt.mk' kd r pn mg fl)) ->
   (∀ n,m≤n->n≤n0->upS lt r lo (lo+n)->(∀ x y,n<n0->r[lo+n-1]? = some x->r[lo+n]? = some y->lt y x=true)->Q' (none,n) (SortSt.mk' kd r pn mg fl))->wpS (model prog w) A E s (forIn [m:n0] (none,m) f) Q' (SortSt.mk' kd r pn mg fl):=λr m f Q' K m1 m2 u hf hQ=>by
  have sz:=K.size
  refine KP (I:=λi c st'=>st'=SortSt.mk' kd r pn mg fl∧c=(none,i)∧upS lt r lo (lo+i)) ?_ ?_ ⟨rfl,rfl,u⟩
  ·rintro i c st' R rd ry h1 h2 ⟨rfl,rfl,u⟩
   obtain ⟨x,e1⟩:=Cw (a:=r) (i:=lo+i-1) (by ext)
   obtain ⟨y,e2⟩:=Cw (a:=r) (i:=lo+i) (by ext)
   refine hf i i R x y e1 e2 (λq=>rd _ _ (hQ i h1 (by ext) u λx' y' _ q1 q2=>?_)) λq=>ry _ _ ⟨rfl,rfl,OW T (by ext) u e1 e2 q⟩
   cases e1.symm.trans q1
   cases e2.symm.trans q2
   exact q
  ·rintro c st' ⟨rfl,rfl,u⟩
   exact hQ _ (by ext) (by ext) u λ_ _ z=>by ext
 refine Ao (asc ar 1 _ _ Kp.refl (Ak _) hn (λi j x y h1 h2 h3 q1 q2=>by
  cases (show i=j by ext)
  cases q1.symm.trans q2
  exact T.irr _) (λi n R x y e1 e2 r1 r2=>?_) λn m1 m2 u hlt=>?_)
 ·refine Ao (step ar Kp.refl _ _ _ _ e2 e1 _ ?_)
  cases q:lt y x with
  | true=>exact Au (r1 q)
  | false=>exact Au (r2 q)
 dsimp -zeta -zetaHave only
 refine CU (λc=>Au (h n ar m1 m2 Kp.refl u)) λc=>?_
 have c':n≠n0:=c
 extract_lets n2 nq jp
 have H:∀ r,Kp ar lo (lo+n0) r->dnS lt r lo (lo+(n+1))->wpS (model prog w) A E s (jp ()) Q (SortSt.mk' kd r pn mg fl):=λr K d=>by
  have sz:=K.size
  refine Ao (wpS_lift (Bc ⟨rfl,?_⟩))
  refine Ao (wpS_mono (KP (I:=λi c st'=>∃ r q,st'=SortSt.mk' kd r pn mg fl∧c=(none,i,q)∧Kp ar lo (lo+n0) r∧q+1≤i∧dnS lt r lo (lo+i)∧eqS lt r (lo+i-(q+1)) (lo+i))
   (Q:=λc st'=>∃ r q m,st'=SortSt.mk' kd r pn mg fl∧c=(none,m,q)∧1≤m∧m≤n0∧Kp ar lo (lo+n0) r∧q+1≤m∧dnS lt r lo (lo+m)∧eqS lt r (lo+m-(q+1)) (lo+m)) ?_ ?_ ⟨r,0,rfl,rfl,K,by ext,d,λi j x y h1 h2 h3 h4 q1 q2=>?_⟩) ?_)
  ·rintro i c st' R rd ry h1 h2 ⟨r,q,rfl,rfl,K,hq,d,e⟩
   have sz:=K.size
   dsimp -zeta -zetaHave only
   obtain ⟨x,ex⟩:=Cw (a:=r) (i:=lo+i-1) (by ext)
   obtain ⟨y,ey⟩:=Cw (a:=r) (i:=lo+i) (by ext)
   have one:∀ r:Array Keyed,eqS lt r (lo+(i+1)-(0+1)) (lo+(i+1)):=λr a b v v' h1 h2 h3 h4 q1 q2=>by
    cases (show a=b by ext)
    cases q1.symm.trans q2
    exact T.irr _
   refine Ao (step r K _ _ _ _ ey ex _ ?_)
   cases c:lt y x with
   | true =>
    have d1:=Gd T (by ext) d ex ey (T.asym _ _ c)
    refine Cz (λ_=>Cz (λz=>?_) λz=>Au (ry _ _ ⟨r,0,rfl,rfl,K,by ext,d1,one r⟩)) λz=>absurd rfl z
    have K2:=K.rev (i:=lo+i-(q+1)) (j:=lo+i) (by ext) (by ext) (by ext)
    have d2:=KG (by ext) (by ext) d e
    refine Ao (BN (Au (ry _ _ ⟨mirror r (lo+i-(q+1)) (lo+i) ((lo+i-(lo+i-(q+1))) / 2),0,rfl,rfl,K2,by ext,?_,one _⟩)))
    obtain ⟨v,ev⟩:=Cw (a:=r) (i:=lo+i-(q+1)) (by ext)
    refine Gd T (by ext) d2 (x:=v) (y:=y) ?_ ?_ ?_
    ·rw [Bz (by ext),if_pos (by ext),show lo+i-(q+1)+(lo+i)-1-(lo+i-1)=lo+i-(q+1) by ext];exact ev
    ·rw [Bz (by ext),if_neg (by ext)];exact ey
    ·exact d1 _ _ _ _ (by ext) (by ext) (by ext) ev ey
   | false =>
    refine Ao (step r K _ _ _ _ ex ey _ ?_)
    cases c2:lt x y with
    | true=>exact Au (rd _ _ ⟨r,q,i,rfl,rfl,by ext,by ext,K,hq,d,e⟩)
    | false =>
     refine Au (ry _ _ ⟨r,q+1,rfl,rfl,K,by ext,Gd T (by ext) d ex ey c2,λa b v v' h1 h2 h3 h4 q1 q2=>?_⟩)
     have key:∀ (a:Nat) v,lo+(i+1)-(q+1+1)≤a->a<lo+(i+1)->r[a]? = some v->lt v x=false∧lt x v=false:=λa v z1 z2 z3=>by
      by_cases z:a=lo+i
      ·cases z
       cases ey.symm.trans z3
       exact ⟨c,c2⟩
      ·exact ⟨e _ _ _ _ (by ext) (by ext) (by ext) (by ext) z3 ex,e _ _ _ _ (by ext) (by ext) (by ext) (by ext) ex z3⟩
     exact T.tr v' x v (key b v' h3 h4 q2).2 (key a v h1 h2 q1).1
  ·rintro c st' ⟨r,q,rfl,rfl,K,hq,d,e⟩
   rw [show max n2 n0=n0 from Nat.max_eq_right (show n+1≤n0 by ext)] at *
   exact ⟨r,q,n0,rfl,rfl,hn,Ak _,K,hq,d,e⟩
  ·cases (show i=j by ext)
   cases q1.symm.trans q2
   exact T.irr _
  ·rintro c st' ⟨r,q,m,rfl,rfl,m1,m2,K,hq,d,e⟩
   have sz:=K.size
   dsimp -zeta -zetaHave only
   extract_lets r1 s1 m3 q3 jp2
   dsimp -zeta -zetaHave only [r1]
   have H2:∀ r,Kp ar lo (lo+n0) r->dnS lt r lo (lo+m)->wpS (model prog w) A E s (jp2 ()) Q (SortSt.mk' kd r pn mg fl):=λr K d=>by
    have sz:=K.size
    have K2:=K.rev (i:=lo) (j:=lo+m) (Ak _) (by ext) (by ext)
    refine Ao (BN (Ao (asc (mirror r lo (lo+m) ((lo+m-lo) / 2)) m _ _ K2 m1 m2 (Sa (by ext) d) (λi n R x y e1 e2 r1 r2=>?_) λn m3 m4 u _=>Au (h n _ (by ext) m4 K2 u))))
    refine Ao (step _ K2 _ _ _ _ e2 e1 _ ?_)
    cases q:lt y x with
    | true=>exact Au (r1 q)
    | false=>exact Au (r2 q)
   exact Cz (λz=>Ao (BN (H2 (mirror r (lo+m-(q+1)) (lo+m) ((lo+m-(lo+m-(q+1))) / 2)) (K.rev (by ext) (by ext) (by ext)) (KG (by ext) (by ext) d e)))) λz=>H2 r K d
 obtain ⟨x,ex⟩:=Cw (a:=ar) (i:=lo+n-1) (by ext)
 obtain ⟨y,ey⟩:=Cw (a:=ar) (i:=lo+n) (by ext)
 obtain ⟨z,ez⟩:=Cw (a:=ar) (i:=lo) (by ext)
 have lxy:=hlt x y (by ext) ex ey
 refine Cz (λc2=>?_) λc2=>?_
 ·refine Ao (step ar Kp.refl _ _ _ _ ez ex _ ?_)
  cases q:lt z x with
  | true=>exact Au (h n ar m1 m2 Kp.refl u)
  | false =>
   have eqp:eqS lt ar lo (lo+n):=λi j v v' h1 h2 h3 h4 q1 q2=>T.tr v' z v (T.tr v' x z (u _ _ _ _ h3 (by ext) (by ext) q2 ex) q) (u _ _ _ _ (Ak _) h1 h2 ez q1)
   have K:=(Kp.refl:Kp ar lo (lo+n0) ar).rev (i:=lo) (j:=lo+n) (Ak _) (by ext) (by ext)
   refine Ao (BN (H (mirror ar lo (lo+n) ((lo+n-lo) / 2)) K ?_))
   have d:dnS lt ar lo (lo+n):=λi j v v' h1 h2 h3 q1 q2=>eqp i j v v' h1 (by ext) (by ext) h3 q1 q2
   have d2:=KG (Ak _) (by ext) d eqp
   refine Gd T m1 d2 (x:=z) (y:=y) ?_ ?_ ?_
   ·rw [Bz (by ext),if_pos (by ext),show lo+(lo+n)-1-(lo+n-1)=lo by ext];exact ez
   ·rw [Bz (by ext),if_neg (by ext)];exact ey
   ·exact T.asym _ _ (by
     cases q2:lt y z with
     | true=>rfl
     | false=>rw [T.tr x z y (eqp _ _ _ _ (Ak _) (by ext) (by ext) (by ext) ez ex) q2] at lxy;cases lxy)
 ·cases (show n=1 by ext)
  refine H ar Kp.refl (Gd T (Ak _) (λi j v v' h1 h2 h3 q1 q2=>?_) ex ey (T.asym _ _ lxy))
  cases (show i=j by ext)
  cases q1.symm.trans q2
  exact T.irr _
theorem P4 (T:TOk prog w A s κ M lt){r:Array Keyed}{lo k l:Nat}(hs:lo+k<r.size)(hl:l≤k)(u:upS lt r lo (lo+k)){y:Keyed}(ey:r[lo+k]? = some y)
  (g1:∀ (j:Nat) v,j<l->r[lo+j]? = some v->lt y v=false) (g2:∀ (j:Nat) v,l≤j->j<k->r[lo+j]? = some v->lt y v=true):upS lt (bubble r (lo+k) (lo+k-(lo+l))) lo (lo+(k+1)):=λi j v v' h1 h2 h3 q1 q2=>by
 rw [getElem?_bubble hs _ (by ext),show lo+k-(lo+k-(lo+l))=lo+l by ext] at q1 q2
 by_cases c1:i=lo+l
 ·rw [if_pos c1] at q1
  cases ey.symm.trans q1
  by_cases c2:j=lo+l
  ·rw [if_pos c2] at q2
   cases ey.symm.trans q2
   exact T.irr _
  ·rw [if_neg c2,if_pos (by ext)] at q2
   exact T.asym _ _ (g2 (j-1-lo) v' (by ext) (by ext) (by rw [show lo+(j-1-lo)=j-1 by ext];exact q2))
 ·rw [if_neg c1] at q1
  by_cases c2:j=lo+l
  ·rw [if_pos c2] at q2
   cases ey.symm.trans q2
   rw [if_neg (by ext)] at q1
   exact g1 (i-lo) v (by ext) (by rw [show lo+(i-lo)=i by ext];exact q1)
  ·rw [if_neg c2] at q2
   by_cases c3:lo+l<i∧i≤lo+k
   ·rw [if_pos c3] at q1
    rw [if_pos (by ext)] at q2
    exact u _ _ _ _ (by ext) (by ext) (by ext) q1 q2
   ·rw [if_neg c3] at q1
    by_cases c4:lo+l<j∧j≤lo+k
    ·rw [if_pos c4] at q2
     exact u _ _ _ _ h1 (by ext) (by ext) q1 q2
    ·rw [if_neg c4] at q2
     exact u _ _ _ _ h1 h2 (by ext) q1 q2
theorem O1 (T:TOk prog w A s κ M lt){lo n ok:Nat}(hk:kindOf st=κ)(ma:∀ (i:Nat) (x:Keyed),(arrOf st)[i]? = some x->M x)(ho:1≤ok)(hn:ok≤n)(le:lo+n≤(arrOf st).size)(u:upS lt (arrOf st) lo (lo+ok)){Q:Bool->SortSt->Prop}
  (h:∀ r,Kp (arrOf st) lo (lo+n) r->upS lt r lo (lo+n)->Q true (setArr st r)):wpS (model prog w) A E s (binarySort' lo n ok) Q st:=by
 obtain ⟨kd,ar,pn,mg,fl⟩:=st
 subst hk
 replace ma:∀ (i:Nat) (x:Keyed),ar[i]? = some x->M x:=ma
 replace le:lo+n≤ar.size:=le
 replace u:upS lt ar lo (lo+ok):=u
 replace h:∀ r,Kp ar lo (lo+n) r->upS lt r lo (lo+n)->Q true (SortSt.mk' kd r pn mg fl):=h
 have hk':∀ r,kindOf (SortSt.mk' kd r pn mg fl)=kd:=λ_=>rfl
 refine Ao (wpS_mono (KP (I:=λk c st'=>∃ r,st'=SortSt.mk' kd r pn mg fl∧c=(none,())∧Kp ar lo (lo+n) r∧upS lt r lo (lo+k)) (Q:=λc st'=>∃ r,st'=SortSt.mk' kd r pn mg fl∧c=(none,())∧Kp ar lo (lo+n) r∧upS lt r lo (lo+n)) ?_ ?_ ⟨ar,rfl,rfl,Kp.refl,by rw [show max ok 1=ok by ext];exact u⟩) ?_)
 ·rintro k c st' R rd ry h1 h2 ⟨r,rfl,rfl,K,u⟩
  have sz:=K.size
  obtain ⟨y,ey⟩:=Cw (a:=r) (i:=lo+k) (by ext)
  refine Ao (wpS_mono (Eu (I:=λx c st'=>st'=SortSt.mk' kd r pn mg fl∧∃ l q,c=(none,l,q)∧l≤q∧q≤k∧q-l≤k-x∧(∀ (j:Nat) v,j<l->r[lo+j]? = some v->lt y v=false)∧∀ (j:Nat) v,q≤j->j<k->r[lo+j]? = some v->lt y v=true)
   (Q:=λc st'=>st'=SortSt.mk' kd r pn mg fl∧∃ l q,c=(none,l,q)∧l≤k∧(∀ (j:Nat) v,j<l->r[lo+j]? = some v->lt y v=false)∧∀ (j:Nat) v,l≤j->j<k->r[lo+j]? = some v->lt y v=true) ?_ ?_ ⟨rfl,0,k,rfl,by ext,by ext,by ext,λ_ _ z=>by ext,λ_ _ z z2=>by ext⟩) ?_)
  ·rintro x c st' R rd ry hx ⟨rfl,l,q,rfl,g1,g2,g3,g4,g5⟩
   refine Cz (λz=>?_) λz=>?_
   ·have z':l ≥ q:=z
    exact Au (rd _ _ ⟨rfl,l,q,rfl,by ext,g4,λj v z1 z2=>g5 j v (by ext) z2⟩)
   have z':¬ l ≥ q:=z
   obtain ⟨v,ev⟩:=Cw (a:=r) (i:=lo+(l+q) / 2) (by ext)
   refine Ao (T.at (hk' r) ey ev (K.mem ma _ _ ey) (K.mem ma _ _ ev) ?_)
   cases c:lt y v with
   | true =>
    refine Au (ry _ _ ⟨rfl,l,(l+q) / 2,rfl,by ext,by ext,by ext,g4,λj v' z1 z2 e=>?_⟩)
    cases q2:lt y v' with
    | true=>rfl
    | false=>rw [T.tr v v' y (u _ _ _ _ (by ext) (by ext) (by ext) ev e) q2] at c;cases c
   | false=>exact Au (ry _ _ ⟨rfl,(l+q) / 2+1,q,rfl,by ext,by ext,by ext,λj v' z1 e=>T.tr v' v y (u _ _ _ _ (by ext) (by ext) (by ext) e ev) c,g5⟩)
  ·rintro c st' ⟨rfl,l,q,rfl,g1,g2,g3,g4,g5⟩
   exact ⟨rfl,_,_,rfl,by ext,g4,λj v z1 z2=>g5 j v (by ext) z2⟩
  ·rintro c st' ⟨rfl,l,q,rfl,g1,g4,g5⟩
   exact Ao (BN (Au (ry _ _ ⟨bubble r (lo+k) (lo+k-(lo+l)),rfl,rfl,K.bub (by ext) (by ext) (by ext),P4 T (by ext) g1 u ey g4 g5⟩)))
 ·rintro c st' ⟨r,rfl,rfl,K,u⟩
  exact ⟨r,rfl,rfl,K,by rw [show max (max ok 1) n=n by ext] at u;exact u⟩
 ·rintro c st' ⟨r,rfl,rfl,K,u⟩
  exact Au (h r K u)
end
def Ch (lt:Keyed->Keyed->Bool)(r:Array Keyed):List (Nat×Nat×Nat)->Nat->Nat->Prop
 | [],s,e=>s=e
 | x::t,s,e=>x.1=s∧1≤x.2.1∧upS lt r s (s+x.2.1)∧Ch lt r t (s+x.2.1) e
section
variable {lt:Keyed->Keyed->Bool} {r r':Array Keyed}
theorem Ch.len:∀ {l:List (Nat×Nat×Nat)} {s e:Nat},Ch lt r l s e->s+l.length≤e
 | [],s,e,h=>by cases h;exact Ak _
 | x::t,s,e,h=>by have:=Ch.len h.2.2.2;have:=h.2.1;rw [List.length_cons];ext
theorem Ch.app:∀ {l m:List (Nat×Nat×Nat)} {s e:Nat},Ch lt r (l++m) s e ↔ ∃ q,Ch lt r l s q∧Ch lt r m q e
 | [],m,s,e=>⟨λh=>⟨s,rfl,h⟩,λ⟨q,h1,h2⟩=>by cases h1;exact h2⟩
 | x::t,m,s,e=>⟨λh=>by
   obtain ⟨q,h1,h2⟩:=Ch.app.mp h.2.2.2
   exact ⟨q,⟨h.1,h.2.1,h.2.2.1,h1⟩,h2⟩,λ⟨q,h1,h2⟩=>⟨h1.1,h1.2.1,h1.2.2.1,Ch.app.mpr ⟨q,h1.2.2.2,h2⟩⟩⟩
theorem upS.congr {lo hi:Nat}(h:∀ k,lo≤k->k<hi->r'[k]? = r[k]?)(u:upS lt r lo hi):upS lt r' lo hi:=λi j x y h1 h2 h3 q1 q2=>by
 rw [h i h1 (by ext)] at q1
 rw [h j (by ext) h3] at q2
 exact u i j x y h1 h2 h3 q1 q2
theorem Ch.congr:∀ {l:List (Nat×Nat×Nat)} {s e:Nat},(∀ k,s≤k->k<e->r'[k]? = r[k]?)->Ch lt r l s e->Ch lt r' l s e
 | [],s,e,_,h=>h
 | x::t,s,e,g,h=>by
  have:=Ch.len h.2.2.2
  exact ⟨h.1,h.2.1,h.2.2.1.congr λk z1 z2=>g k z1 (by ext),Ch.congr (λk z1 z2=>g k (by ext) z2) h.2.2.2⟩
theorem Ch.mod {f:Nat×Nat×Nat->Nat×Nat×Nat}(hf:∀ x,(f x).1=x.1∧(f x).2.1=x.2.1):∀ {l:List (Nat×Nat×Nat)} {s e:Nat} (i:Nat),Ch lt r l s e->Ch lt r (l.modify i f) s e
 | [],s,e,i,h=>by cases i<;>exact h
 | x::t,s,e,0,h=>by
  show Ch lt r (f x::t) s e
  unfold Ch
  rw [(hf x).1,(hf x).2]
  exact h
 | x::t,s,e,i+1,h=>⟨h.1,h.2.1,h.2.2.1,Ch.mod hf i h.2.2.2⟩
end
section
variable {prog:Program} {w:World} {A:Around} {E:Value->Shared->Prop} {s:Shared} {κ:SortKind} {M:Keyed->Prop} {lt:Keyed->Keyed->Bool} {st:SortSt}
theorem M6 (T:TOk prog w A s κ M lt){ar:Array Keyed}{pn:Array (Nat×Nat×Nat)}{g i e:Nat}(ma:∀ (i:Nat) (x:Keyed),ar[i]? = some x->M x)(he:e≤ar.size)(hi:i+1<pn.size)(c:Ch lt ar pn.toList 0 e){Q:Bool->SortSt->Prop}
  (h:∀ r p g,r.toList.Perm ar.toList->(∀ k,e≤k->r[k]? = ar[k]?)->Ch lt r p.toList 0 e->p.size+1=pn.size->Q true (SortSt.mk' κ r p g none)):wpS (model prog w) A E s (mergeAt' i) Q (SortSt.mk' κ ar pn g none):=by
 have hi1:i<pn.toList.length:=by rw [Array.length_toList];ext
 have hi2:i+1<pn.toList.length:=by rw [Array.length_toList];exact hi
 have d:pn.toList=pn.toList.take i++(pn.toList[i]::pn.toList[i+1]::pn.toList.drop (i+2)):=by
  rw [← Bn hi2,← Bn hi1,Bp]
 generalize hx:pn.toList[i]=x at d
 generalize hy:pn.toList[i+1]=y at d
 have c0:=c
 rw [d] at c0
 obtain ⟨q,c1,c2⟩:=Ch.app.mp c0
 obtain ⟨sa,na,pw⟩:=x
 obtain ⟨sb,nb,pw'⟩:=y
 obtain ⟨rfl,pa,ua,rfl,pb,ub,c3⟩:=c2
 dsimp only at pa ua pb ub c3 c1
 have l3:=c3.len
 have l1:=c1.len
 have e1:pn[i]? = some (sa,na,pw):=by rw [← Ah,Am hi1,hx]
 have e2:pn[i+1]? = some (sa+na,nb,pw'):=by rw [← Ah,Am hi2,hy]
 refine RG T rfl rfl ma e1 e2 pa pb (show sa+na+nb≤ar.size by ext) ua ub λr g' pm out u=>h r _ g' pm (λk hk=>out k (.inr (by ext))) ?_ ?_
 ·have e3:((pn.setIfInBounds i (sa,na+nb,pw)).eraseIdxIfInBounds (i+1)).toList=pn.toList.take i++((sa,na+nb,pw)::pn.toList.drop (i+2)):=by
   rw [Array.toList_eraseIdxIfInBounds,Array.toList_setIfInBounds,List.eraseIdx_eq_take_drop_succ,List.drop_set_of_lt (by ext),List.take_succ_eq_append_getElem (by rw [Bb];exact hi1),List.take_set_of_le (Ak _),List.getElem_set_self,A4]
   rfl
  rw [e3]
  refine Ch.app.mpr ⟨sa,c1.congr λk _ z=>out k (.inl z),rfl,by show 1≤na+nb;ext,by rw [← Nat.add_assoc];exact u,?_⟩
  rw [← Nat.add_assoc]
  exact c3.congr λk z _=>out k (.inr z)
 ·rw [← Array.length_toList,Array.toList_eraseIdxIfInBounds,List.length_eraseIdx,Array.toList_setIfInBounds,Bb,Array.length_toList,if_pos (show i+1<pn.size from hi)]
  show pn.size-1+1=pn.size
  ext
theorem P7 (T:TOk prog w A s κ M lt){a0:Array Keyed}{g:Nat}(ma:∀ (i:Nat) (x:Keyed),a0[i]? = some x->M x)(h2:1≤a0.size){Q:Unit->SortSt->Prop}
  (h:∀ r p g,r.toList.Perm a0.toList->upS lt r 0 a0.size->Q () (SortSt.mk' κ r p g none)):wpS (model prog w) A E s sortRuns' Q (SortSt.mk' κ a0 #[] g none):=by
 have mem:∀ {r:Array Keyed},r.toList.Perm a0.toList->∀ (i:Nat) (x:Keyed),r[i]? = some x->M x:=λ{r} pm=>(Kp.mem (lo:=0) (hi:=r.size+a0.size) ⟨pm,λk hk=>by rw [Bd (by ext),Bd (by ext)]⟩ ma)
 have siz:∀ {r:Array Keyed},r.toList.Perm a0.toList->r.size=a0.size:=λpm=>by have:=pm.length_eq;simpa using this
 refine Ao (wpS_get ?_)
 refine Ao (wpS_mono (Eu (I:=λx c st'=>∃ r p g lo,st'=SortSt.mk' κ r p g none∧c=(none,lo)∧r.toList.Perm a0.toList∧Ch lt r p.toList 0 lo∧lo≤a0.size∧x≤lo) (Q:=λc st'=>∃ r p g,st'=SortSt.mk' κ r p g none∧c=(none,a0.size)∧r.toList.Perm a0.toList∧Ch lt r p.toList 0 a0.size) ?_ ?_ ⟨a0,#[],g,0,rfl,rfl,A7 _,rfl,AW _,Ak _⟩) ?_)
 ·rintro x c st' R rd ry hx ⟨r,p,g,lo,rfl,rfl,pm,ch,hlo,hxl⟩
  have sz:=siz pm
  refine Cz (λz=>?_) λz=>?_
  ·have z':lo ≥ a0.size:=z
   cases (show lo=a0.size by ext)
   exact Au (rd _ _ ⟨r,p,g,rfl,rfl,pm,ch⟩)
  have z':¬ lo ≥ a0.size:=z
  refine Ao (Ta T rfl (mem pm) (show 1≤a0.size-lo by ext) (show lo+(a0.size-lo)≤r.size by ext) λn r1 n1 n2 K u=>?_)
  have K':Kp r lo (lo+(a0.size-lo)) r1:=K
  have pm1:=K'.pm.trans pm
  have ch1:Ch lt r1 p.toList 0 lo:=ch.congr λk _ z=>K'.out k (.inl z)
  dsimp -zeta -zetaHave only
  extract_lets n3 jp fc n4
  have H:∀ n r1,1≤n->lo+n≤a0.size->r1.toList.Perm a0.toList->Ch lt r1 p.toList 0 lo->upS lt r1 lo (lo+n)->wpS (model prog w) A E s (jp () n) R (SortSt.mk' κ r1 p g none):=λn r1 n1 n2 pm1 ch1 u1=>by
   refine Ao (wpS_get ?_)
   dsimp -zeta -zetaHave only
   extract_lets lo2 jp2
   have H2:∀ r p g,r.toList.Perm a0.toList->Ch lt r p.toList 0 lo->upS lt r lo (lo+n)->wpS (model prog w) A E s (jp2 ()) R (SortSt.mk' κ r p g none):=λr p g pm ch u =>
    Ao (BN (Au (ry _ _ ⟨r,p.push (lo,n,0),g,lo+n,rfl,rfl,pm,by rw [BJ];exact Ch.app.mpr ⟨lo,ch,rfl,n1,u,rfl⟩,n2,by ext⟩)))
   split
   ·extract_lets pw
    refine Ao (wpS_mono (Eu (I:=λx c st'=>∃ r p g,st'=SortSt.mk' κ r p g none∧c=(none,())∧r.toList.Perm a0.toList∧Ch lt r p.toList 0 lo∧upS lt r lo (lo+n)) (Q:=λc st'=>∃ r p g,st'=SortSt.mk' κ r p g none∧c=(none,())∧r.toList.Perm a0.toList∧Ch lt r p.toList 0 lo∧upS lt r lo (lo+n)) ?_ (λ_ _ z=>z) ⟨r1,p,g,rfl,rfl,pm1,ch1,u1⟩) ?_)
    ·rintro y c st' R rd ry hy ⟨r,p,g,rfl,rfl,pm,ch,u⟩
     refine Ao (wpS_get ?_)
     dsimp only
     split
     ·rename_i heq
      have hp:p.size > 1:=by
       by_cases z:p.size > 1
       ·exact z
       ·rw [if_neg (show ¬ p.size > 1 from z)] at heq;cases heq
      refine Cz (λ_=>Au (rd _ _ ⟨r,p,g,rfl,rfl,pm,ch,u⟩)) λ_=>Ao (M6 T (mem pm) (by rw [siz pm];exact hlo) (show p.size-2+1<p.size by ext) ch λr' p' g' pm' out ch' hp'=>?_)
      exact Cz (λz=>nomatch z) λ_=>Au (ry _ _ ⟨r',p',g',rfl,rfl,pm'.trans pm,ch',u.congr λk z _=>out k z⟩)
     ·exact Au (rd _ _ ⟨r,p,g,rfl,rfl,pm,ch,u⟩)
    ·rintro c st' ⟨r,p,g,rfl,rfl,pm,ch,u⟩
     exact Ao (BN (H2 r (p.modify (p.size-1) λx=>(x.1,x.2.1,pw)) g pm (by rw [Array.toList_modify];exact Ch.mod (f:=λx=>(x.1,x.2.1,pw)) (λx=>⟨rfl,rfl⟩) _ ch) u))
   ·exact H2 r1 p g pm1 ch1 u1
  refine Cz (λz=>?_) λz=>H n r1 n1 (by ext) pm1 ch1 u
  have z':n<minRun' a0.size a0.size 0:=z
  have sz1:=siz pm1
  have f1:lo+min (a0.size-lo) (minRun' a0.size a0.size 0)≤r1.size:=by ext
  refine Ao (wpS_lift (Bc ⟨rfl,Ao (O1 T rfl (mem pm1) n1 (n:=min (a0.size-lo) (minRun' a0.size a0.size 0)) (by ext) f1 u λr2 K2 u2=>Cz (λz=>nomatch z) λ_=>?_)⟩))
  have K2':Kp r1 lo (lo+min (a0.size-lo) (minRun' a0.size a0.size 0)) r2:=K2
  exact H (min (a0.size-lo) (minRun' a0.size a0.size 0)) r2 (by ext) (by ext) (K2'.pm.trans pm1) (ch1.congr λk _ z=>K2'.out k (.inl z)) u2
 ·rintro c st' ⟨r,p,g,lo,rfl,rfl,pm,ch,hlo,hxl⟩
  have hxl':a0.size≤lo:=hxl
  cases (show lo=a0.size by ext)
  exact ⟨r,p,g,rfl,rfl,pm,ch⟩
 ·rintro c st' ⟨r,p,g,rfl,rfl,pm,ch⟩
  have l0:=ch.len
  refine Ao (wpS_mono (Eu (I:=λx c st'=>∃ r p g,st'=SortSt.mk' κ r p g none∧c=(none,())∧r.toList.Perm a0.toList∧Ch lt r p.toList 0 a0.size∧p.size+x≤a0.size+0) (Q:=λc st'=>∃ r p g,st'=SortSt.mk' κ r p g none∧c=(none,())∧r.toList.Perm a0.toList∧Ch lt r p.toList 0 a0.size∧p.size≤1) ?_ ?_ ⟨r,p,g,rfl,rfl,pm,ch,by rw [Array.length_toList] at l0;ext⟩) ?_)
  ·rintro x c st' R rd ry hx ⟨r,p,g,rfl,rfl,pm,ch,hp⟩
   refine Ao (wpS_get (Cz (λz=>Au (rd _ _ ⟨r,p,g,rfl,rfl,pm,ch,z⟩)) λz=>?_))
   have z':¬ p.size≤1:=z
   refine Ao (M6 T (mem pm) (by rw [siz pm];exact Ak _) ?_ ch λr' p' g' pm' _ ch' hp'=>Au (ry _ _ ⟨r',p',g',rfl,rfl,pm'.trans pm,ch',by ext⟩))
   have two:∀ (b:Bool),(if b=true then p.size-2-1 else p.size-2)+1<p.size:=λb=>by cases b<;>simp<;>ext
   exact two _
  ·rintro c st' ⟨r,p,g,rfl,rfl,pm,ch,hp⟩
   have hp':p.size+a0.size≤a0.size+0:=hp
   exact ⟨r,p,g,rfl,rfl,pm,ch,by ext⟩
  ·rintro c st' ⟨r,p,g,rfl,rfl,pm,ch,hp⟩
   refine Au (h r p g pm ?_)
   rw [← Array.length_toList] at hp
   match e:p.toList with
   | []=>rw [e] at ch;have:0=a0.size:=ch;ext
   | [y] =>
    rw [e] at ch
    have:=ch.2.2.1
    rw [show 0+y.2.1=a0.size from ch.2.2.2] at this
    exact this
   | _::_::_=>rw [e] at hp;simp at hp
end
end PV
namespace PV
open PySem L2 PySem.Spec PyProof.Rows
section
variable {prog:Program} {w:World} {A:Around} {E:Value->Shared->Prop} {s:Shared}
def Ga (prog:Program)(w:World)(A:Around)(zs:List Value)(Ok:List Value->Prop)(s:Shared):Prop:=∀ (h1:Heap) (a:Addr) (P:PySem.Fin->Shared->Prop) (E':Value->Shared->Prop),(∀ b o,s.heap.get? b=some o->h1.get? b=some o)->s.heap.get? a=none->h1.get? a=some (seqObj "list" zs.toArray 0) ->
 (∀ out,Ok out->P (.done (.ret .none)) { s with heap:=sortedHeap h1 a zs out.toArray })->wpAny (model prog w) A (Builtin.«list.sort» ⟨[.ref a],[]⟩) P E' { s with heap:=h1 }
theorem HW {x:Value}{Q:Value->Shared->Prop}(hcol:wpAny (model prog w) A.in1 (collect x) (λzs s1=>zs.length≤sizeLine∧∃ Ok,Ga prog w A.in1.in1 zs Ok s1∧∀ out h' e a,Ok out->(∀ b o,s1.heap.get? b=some o->h'.get? b=some o)->s1.heap.objs.size≤a->h'.get? a=some (seqObj "list" out.toArray e)->Q (.ref a) { s1 with heap:=h' }) E s) :
  wpAny (model prog w) A (call (.builtin "sorted") [x]) Q E s:=by
 (refine Calls.call_function_entry kind_sorted plain_sorted entry_sorted (args_sorted1 _) ?_)
 unfold Builtin.«sorted»
 refine Aa (m:=checkCount "sorted" 1 1 _) (Ac (Aa (BL hcol (λzs s1 hq=>?_) λ_ _ z=>z)))
 obtain ⟨hz,Ok,hs,q⟩:=hq
 refine Aa (wpAny_newList ?_ hz)
 have g1:(s1.heap.push (seqObj "list" zs.toArray 0)).get? s1.heap.objs.size=some (seqObj "list" zs.toArray 0):=Av _ rfl
 have fr:s1.heap.get? s1.heap.objs.size=none:=Heap.get?_none_of_le (Ak _)
 refine Aa (AS (AY slot_list_sort ⟨_,g1,rfl⟩ entry_list_sort (hs (s1.heap.push (seqObj "list" zs.toArray 0)) _ _ _ (λb o e=>Af _ e) fr g1 λout ho=>⟨_,rfl,Ac ⟨_,rfl,?_⟩⟩) (args_list_sort _)))
 obtain ⟨e,he⟩:=sortedHeap_at (out:=out.toArray) g1
 refine q out _ e _ ho (λb o z=>?_) (Ak _) he
 have lb:=Ax z
 rw [sortedHeap_old (AJ lb) (by rw [size_push'];exact By lb)]
 exact Af _ z
theorem Ju {a:Addr}{zs:List Value}{n:Nat}{P:PySem.Fin->Shared->Prop}{kd:SortKind}{Ok:List Value->Prop}(ho:s.heap.get? a=some (seqObj "list" zs.toArray n))(h2:2≤zs.length)(hz:zs.length≤sizeLine)
  (hk:∀ (Q:SortKind->Shared->Prop) (E':Value->Shared->Prop),Q kd { s with heap:=((s.heap.update a (Obj.mapSeq λ_=>#[])).push (seqObj "tuple" zs.toArray 0)).push (seqObj "list" #[] 0) }->wpAny (model prog w) A (keyKind' zs.toArray) Q E' { s with heap:=((s.heap.update a (Obj.mapSeq λ_=>#[])).push (seqObj "tuple" zs.toArray 0)).push (seqObj "list" #[] 0) })
  (hr:∀ Q:Unit->SortSt->Prop,(∀ r p g,r.size=zs.length->Ok (r.toList.map (·.2))->Q () (SortSt.mk' kd r p g none))->wpS (model prog w) A E { s with heap:=((s.heap.update a (Obj.mapSeq λ_=>#[])).push (seqObj "tuple" zs.toArray 0)).push (seqObj "list" #[] 0) } sortRuns' Q (SortSt.mk' kd (zs.toArray.zip zs.toArray) #[] 7 none))
  (h:∀ out,Ok out->P (.done (.ret .none)) { s with heap:=sortedHeap s.heap a zs out.toArray }):wpAny (model prog w) A (Builtin.«list.sort» ⟨[.ref a],[]⟩) P E s:=by
 have la:a<s.heap.objs.size:=Ax ho
 rw [list_sort_plain]
 refine Aa (listItems_at ho rfl (Aa (listUpdate_at ho rfl ?_ (by rw [Ap];exact hz) (AW _))))
 obtain ⟨n1,ho1⟩:∃ n1,(s.heap.update a (Obj.mapSeq λ_=>#[])).get? a=some (seqObj "list" #[] n1):=⟨_,get?_update_seq ho λ_=>#[]⟩
 refine Aa (seqEpoch_at ho1 rfl (Aa (wpAny_newTuple (Aa (wpAny_newList (AS ?_) (AW _))) hz)))
 have ho2:(((s.heap.update a (Obj.mapSeq λ_=>#[])).push (seqObj "tuple" zs.toArray 0)).push (seqObj "list" #[] 0)).get? a=some (seqObj "list" #[] n1):=Af _ (Af _ ho1)
 show wpAny (model prog w) A _ P E { s with heap:=((s.heap.update a (Obj.mapSeq λ_=>#[])).push (seqObj "tuple" zs.toArray 0)).push (seqObj "list" #[] 0) }
 dsimp only
 have n2:¬ zs.toArray.size<2:=by rw [Ap];ext
 rw [if_neg n2,if_neg n2]
 refine Aa (hk _ _ ?_)
 refine Aa (BL (hr (λ_ st'=>failedOf st'=none∧(arrOf st').size=zs.length∧Ok ((arrOf st').toList.map (·.2))) λr p g e1 e2=>⟨rfl,e1,e2⟩) ?_ λ_ _ e=>e)
 rintro ⟨⟨⟩,st'⟩ s' ⟨rfl,hf,hl,hok⟩
 dsimp only
 rw [show (arrOf st').map (·.2)=((arrOf st').toList.map (·.2)).toArray from Array.toList_inj.mp (Array.toList_map ..)]
 refine Aa (seqEpoch_at ho2 rfl (Aa (listUpdate_at ho2 rfl ?_ (AW _) (by
  show (List.toArray ((arrOf st').toList.map (·.2))).size≤sizeLine+1
  rw [Ap,Ae,Array.length_toList,hl]
  ext))))
 rw [hf]
 simp only [bne_self_eq_false,AZ,if_false]
 exact Ac (h _ hok)
end
noncomputable def Rg:D->Bool
 | .str _=>true
 | _=>false
def Ic (es:List D):Bool:=es.all λa=>es.all λb=>(ltB a b).isSome
def Ds (es:List D):Bool:=decide (es.length<4096)&&es.all Dv&&Ic es&&(es.all Rg||es.all tupS)
section
variable {X:Cx} {K:Zc} {th:List Addr} {mu:Sto} {H:Hp} {pins:List (Addr×Obj)} {st:L2.St} {s:Shared}
theorem P9 {es:List D}(ho:es.all Dv=true)(hc:Ic es=true):Pre es.length (Kn es) λi j=>ltT (es.getD i .non) (es.getD j .non):=by
 have gd:∀ i,i<es.length->es.getD i .non=es[i]?.getD .non∧∃ d,es[i]? = some d∧es.getD i .non=d∧d∈es:=λi hi=>by
  rw [AG]
  exact ⟨rfl,es[i],Am hi,by rw [Am hi];rfl,Bl hi⟩
 rw [Ay] at ho
 unfold Ic at hc
 rw [Ay] at hc
 refine ⟨λi j hi hj=>?_,λi j hi hj h=>Gk _ _ h,λi j k hi hj hk h1 h2=>KN _ _ _ h1 h2⟩
 obtain ⟨_,d,e1,e2,e3⟩:=gd i hi
 obtain ⟨_,d',f1,f2,f3⟩:=gd j hj
 unfold Kn
 rw [e1,f1,e2,f2]
 have:=hc d e3
 rw [Ay] at this
 obtain ⟨r,hr⟩:=Option.isSome_iff_exists.mp (this d' f3)
 dsimp only
 rw [hr,QV d d' r (ho d e3) (ho d' f3) hr]
 rfl
theorem P0 (I:L2.Inv X pins st H s){es:List D}{vs:List V}{us:List Value}(hd:es.all Rg=true)(r:RepL X.z th H es vs)(q:Vals vs us){A:Around} :
  ∀ i j b C,Kn es i j=some b->C b s->PySem.W.kas_ask X.prog X.w A oneType' us i j C s:=λi j b C e hC=>by
 rw [Ay] at hd
 unfold Kn at e
 cases e1:es[i]? with
 | none=>rw [e1] at e;cases e
 | some d =>
  cases e2:es[j]? with
  | none=>rw [e1,e2] at e;cases e
  | some d' =>
   rw [e1,e2] at e
   have s1:=hd d (Ag e1)
   have s2:=hd d' (Ag e2)
   cases d<;>first|(cases s1;done)|skip
   cases d'<;>first|(cases s2;done)|skip
   rename_i x y
   unfold ltB at e
   cases e
   obtain ⟨v,v1,v2⟩:=r.get e1
   obtain ⟨v',v1',v2'⟩:=r.get e2
   obtain ⟨u,u1,u2⟩:=q.get v1
   obtain ⟨u',u1',u2'⟩:=q.get v1'
   obtain ⟨rfl,_⟩:=(show _∧_ from v2)
   obtain ⟨rfl,_⟩:=(show _∧_ from v2')
   obtain ⟨t,rfl⟩:=u2
   obtain ⟨t',rfl⟩:=u2'
   unfold PySem.W.kas_ask
   rw [AG,AG,u1,u1']
   exact PySem.W.kas_lt_str hC
theorem OE {es:List D}{vs:List V}{us:List Value}(hd:es.all Rg=true)(r:RepL X.z th H es vs)(q:Vals vs us):∃ ss,StrsAre us ss:=by
 refine ⟨_,strsAre_map us λu hu=>?_⟩
 obtain ⟨i,ei⟩:=AO.mp hu
 have hi:i<es.length:=by
  have:=(Ad.mp ei).1
  rw [← q.length,r.len] at this
  exact this
 rw [Ay] at hd
 obtain ⟨v,v1,v2⟩:=r.get (Am hi)
 have hs:=hd _ (Bl hi)
 obtain ⟨u',u1,u2⟩:=q.get v1
 rw [ei] at u1
 cases u1
 cases e:es[i]<;>rw [e] at hs v2<;>first|(cases hs;done)|skip
 obtain ⟨rfl,_⟩:=(show _∧_ from v2)
 obtain ⟨t,rfl⟩:=u2
 exact ⟨_,t,rfl⟩
theorem RepL.perm {ds:List D}{vs us:List V}(p:us.Perm vs)(r:RepL K th H ds vs):∃ ds',ds'.Perm ds∧RepL K th H ds' us:=by
 induction p generalizing ds with
 | nil=>exact ⟨ds,A7 _,r⟩
 | cons x p ih =>
  cases ds with
  | nil=>cases r.inv0
  | cons d ds =>
   obtain ⟨v,r',e,a,b⟩:=r.inv
   cases e
   obtain ⟨ds',q1,q2⟩:=ih b
   exact ⟨d::ds',q1.cons d,.cons a q2⟩
 | swap x y l =>
  cases ds with
  | nil=>cases r.inv0
  | cons d ds =>
   obtain ⟨v,r',e,a,b⟩:=r.inv
   cases e
   cases ds with
   | nil=>cases b.inv0
   | cons d' ds =>
    obtain ⟨v',r2,e',a',b'⟩:=b.inv
    cases e'
    exact ⟨d'::d::ds,List.Perm.swap _ _ _,.cons a' (.cons a b')⟩
 | trans p q ih1 ih2 =>
  obtain ⟨ds1,a1,b1⟩:=ih2 r
  obtain ⟨ds2,a2,b2⟩:=ih1 b1
  exact ⟨ds2,a2.trans a1,b2⟩
theorem Vals.perm {vs:List V}{us us':List Value}(p:us'.Perm us)(r:Vals vs us):∃ vs',vs'.Perm vs∧Vals vs' us':=by
 induction p generalizing vs with
 | nil=>cases r;exact ⟨[],.nil,.nil⟩
 | cons x p ih =>
  cases r with
  | cons a b=>obtain ⟨vs',q1,q2⟩:=ih b;exact ⟨_,q1.cons _,.cons a q2⟩
 | swap x y l =>
  cases r with
  | cons a b =>
   cases b with
   | cons a' b'=>exact ⟨_,List.Perm.swap _ _ _,.cons a' (.cons a b')⟩
 | trans p q ih1 ih2 =>
  obtain ⟨v1,a1,b1⟩:=ih2 r
  obtain ⟨v2,a2,b2⟩:=ih1 b1
  exact ⟨v2,a2.trans a1,b2⟩
mutual
theorem LR (I:L2.Inv X pins st H s):∀ (d e:D) (v:V),Dv d=true->Dv e=true->Rep X.z th H d v->Rep X.z th H e v->d=e
 | .int i,e,v,h1,h2,r1,r2=>by
  cases (show v=_ from r1)
  cases e<;>first|(cases h2;done)|skip
  ·cases (show V.int _=_ from r2);rfl
  ·exact nomatch (show V.int _=_∧_ from r2).1
  ·unfold Rep at r2;obtain ⟨a,vs,e,_⟩:=r2;cases e
 | .str x,e,v,h1,h2,r1,r2=>by
  cases (show v=_∧_ from r1).1
  cases e<;>first|(cases h2;done)|skip
  ·exact nomatch (show V.str _=_ from r2)
  ·cases (show V.str _=_∧_ from r2).1;rfl
  ·unfold Rep at r2;obtain ⟨a,vs,e,_⟩:=r2;cases e
 | .tup ds,e,v,h1,h2,r1,r2=>by
  unfold Rep at r1
  obtain ⟨a,vs,rfl,g1,g2,_⟩:=r1
  cases e<;>first|(cases h2;done)|skip
  ·exact nomatch (show V.ref _=_ from r2)
  ·exact nomatch (show V.ref _=_∧_ from r2).1
  ·rename_i es
   unfold Rep at r2
   obtain ⟨a',vs',e,g1',g2',_⟩:=r2
   cases e
   cases I.tuple_inj g1 g1'
   unfold Dv at h1 h2
   rw [Ka I ds es vs h1 h2 g2 g2']
theorem Ka (I:L2.Inv X pins st H s):∀ (ds es:List D) (vs:List V),Ej ds=true->Ej es=true->RepL X.z th H ds vs->RepL X.z th H es vs->ds=es
 | [],es,vs,h1,h2,r1,r2=>by
  cases r1.inv0
  cases es with
  | nil=>rfl
  | cons e es=>obtain ⟨_,_,z,_⟩:=r2.inv;cases z
 | d::ds,es,vs,h1,h2,r1,r2=>by
  obtain ⟨v,r,rfl,a1,a2⟩:=r1.inv
  cases es with
  | nil=>cases r2.inv0
  | cons e es =>
   obtain ⟨v',r',z,b1,b2⟩:=r2.inv
   cases z
   unfold Ej at h1 h2
   rw [Ab] at h1 h2
   rw [LR I d e v h1.1 h2.1 a1 b1,Ka I ds es r h1.2 h2.2 a2 b2]
end
open Classical in
def dOf (X:Cx)(th:List Addr)(H:Hp)(u:Value):D:=if h:∃ d v,Dv d=true∧Rep X.z th H d v∧RelV v u then h.choose else .non
theorem Ob (I:L2.Inv X pins st H s){d:D}{v:V}{u:Value}(h1:Dv d=true)(h2:Rep X.z th H d v)(h3:RelV v u):dOf X th H u=d:=by
 have h:∃ d v,Dv d=true∧Rep X.z th H d v∧RelV v u:=⟨d,v,h1,h2,h3⟩
 unfold dOf
 rw [dif_pos h]
 obtain ⟨v',g1,g2,g3⟩:=h.choose_spec
 cases g3.inj h3
 exact LR I _ _ _ g1 h1 g2 h2
theorem sorts (hu:X.A.units+64<cLine)(I:L2.Inv X pins st H s){es:List D}{vs:List V}{zs:List Value}(h2:RepL X.z th H es vs)(rv:Vals vs zs)(ok:Ds es=true) :
  Ga X.prog X.w X.A.in1.in1 zs (λout=>∃ ws,RepL X.z th H (Dx es) ws∧Vals ws out) s:=by
 unfold Ds at ok
 rw [Ab,Ab,Ab,Al,Bool.or_eq_true] at ok
 obtain ⟨⟨⟨c64,ho⟩,hc⟩,hk⟩:=ok
 have ho':∀ d∈es,Dv d=true:=by rw [Ay] at ho;exact ho
 have lz:zs.length=es.length:=by rw [← rv.length,h2.len]
 by_cases c2:es.length<2
 ·have:Dx es=es:=by
   refine (Gm ho' (A7 _) ?_).symm
   match es,c2 with
   | [],_=>exact .nil
   | [_],_=>exact List.pairwise_singleton _ _
   | _::_::_,c2=>exact absurd c2 (by simp only [List.length_cons];ext)
  rw [this]
  exact λh1 a P E' hk fr hl hP=>N4 hl (by rw [lz];exact c2) (hP _ ⟨vs,h2,rv⟩)
 ·have at_:∀ (i:Nat) u,zs[i]? = some u->∃ d,es[i]? = some d∧Dv d=true∧dOf X th H u=d:=λi u e=>by
   have hi:i<es.length:=by rw [← lz];exact (Ad.mp e).1
   obtain ⟨v,ev,rv'⟩:=h2.get (Am hi)
   obtain ⟨u',eu,ru⟩:=rv.get ev
   cases e.symm.trans eu
   exact ⟨_,Am hi,ho' _ (Bl hi),Ob I (ho' _ (Bl hi)) rv' ru⟩
  have lessthan:zs.length≤sizeLine:=by rw [lz,AR];ext
  refine λh1 a P E' hk1 fr hl hP=>?_
  have I6:L2.Inv X pins st H { s with heap:=((h1.update a (Obj.mapSeq λ_=>#[])).push (seqObj "tuple" zs.toArray 0)).push (seqObj "list" #[] 0) }:=I.kept (t':=s.toks) λb o q=>by
   refine Af _ (Af _ ?_)
   rw [Heap.get?_update_ne _ _ _ _ (λz=>by rw [z,fr] at q;cases q)]
   exact hk1 b o q
  have pz:zs.toArray.zip zs.toArray=(zs.zip zs).toArray:=by simp
  have pi:∀ (i:Nat) (x:Keyed),(zs.toArray.zip zs.toArray)[i]? = some x->x.1=x.2∧zs[i]? = some x.1:=λi x e=>by
   rw [pz,List.getElem?_toArray,List.getElem?_zip_eq_some] at e
   exact ⟨AB (e.1.symm.trans e.2),e.1⟩
  have fin:∀ κ,TOk X.prog X.w X.A.in1.in1 { s with heap:=((h1.update a (Obj.mapSeq λ_=>#[])).push (seqObj "tuple" zs.toArray 0)).push (seqObj "list" #[] 0) } κ (λx=>x.1=x.2∧∃ i,zs[i]? = some x.1) (λx y=>ltT (dOf X th H x.1) (dOf X th H y.1)) ->
    ∀ Q:Unit->SortSt->Prop,(∀ r p g,r.size=zs.length->(∃ ws,RepL X.z th H (Dx es) ws∧Vals ws (r.toList.map (·.2)))->Q () (SortSt.mk' κ r p g none))->wpS (model X.prog X.w) X.A.in1.in1 E' { s with heap:=((h1.update a (Obj.mapSeq λ_=>#[])).push (seqObj "tuple" zs.toArray 0)).push (seqObj "list" #[] 0) } sortRuns' Q (SortSt.mk' κ (zs.toArray.zip zs.toArray) #[] 7 none):=fun κ T Q hQ=>by
   have sz:(zs.toArray.zip zs.toArray).size=zs.length:=by rw [pz];simp
   refine P7 T (λi x e=>⟨(pi i x e).1,i,(pi i x e).2⟩) (by rw [sz];ext) λr p g pm up=>hQ r p g (by have:=pm.length_eq;simpa [sz] using this) ?_
   have pm2:(r.toList.map (·.2)).Perm zs:=by
    have:=pm.map (·.2)
    rw [pz,List.map_snd_zip (Ak _)] at this
    exact this
   obtain ⟨vs',q1,q2⟩:=Vals.perm pm2 rv
   obtain ⟨ds',q3,q4⟩:=RepL.perm q1 h2
   refine ⟨vs',?_,q2⟩
   rw [← Gm ho' q3 ?_]
   ·exact q4
   (rw [List.pairwise_iff_getElem])
   intro i j hi hj hij
   have key:∀ (i:Nat) (hi:i<ds'.length),∃ x,r[i]? = some x∧dOf X th H x.1=ds'[i]:=λi hi=>by
    obtain ⟨v,ev,rv'⟩:=q4.get (Am hi)
    obtain ⟨u,eu,ru⟩:=q2.get ev
    rw [Ar,Ah] at eu
    obtain ⟨x,ex,rfl⟩:=Option.map_eq_some_iff.mp eu
    refine ⟨x,ex,?_⟩
    have xm:x∈(zs.toArray.zip zs.toArray).toList:=pm.mem_iff.mp (Ag (by rw [Ah];exact ex))
    obtain ⟨k,hk⟩:=AO.mp xm
    rw [Ah] at hk
    rw [(pi k x hk).1]
    exact Ob I (ho' _ (q3.mem_iff.mp (Bl hi))) rv' ru
   obtain ⟨x,ex,dx⟩:=key i hi
   obtain ⟨y,ey,dy⟩:=key j hj
   have:=up i j x y (AW _) (Nat.le_of_lt hij) (by rw [sz,lz,← q3.length_eq];exact hj) ex ey
   dsimp only at this
   unfold leT
   rw [← dx,← dy,this]
   rfl
  have O:=P9 ho hc
  have ord:∀ κ,(∀ i j b C,Kn es i j=some b->C b { s with heap:=((h1.update a (Obj.mapSeq λ_=>#[])).push (seqObj "tuple" zs.toArray 0)).push (seqObj "list" #[] 0) }->PySem.W.kas_ask X.prog X.w X.A.in1.in1 κ zs i j C { s with heap:=((h1.update a (Obj.mapSeq λ_=>#[])).push (seqObj "tuple" zs.toArray 0)).push (seqObj "list" #[] 0) }) ->
    TOk X.prog X.w X.A.in1.in1 { s with heap:=((h1.update a (Obj.mapSeq λ_=>#[])).push (seqObj "tuple" zs.toArray 0)).push (seqObj "list" #[] 0) } κ (λx=>x.1=x.2∧∃ i,zs[i]? = some x.1) (λx y=>ltT (dOf X th H x.1) (dOf X th H y.1)):=fun κ ask=>by
   refine ⟨λx y hx hy Q E2 hq=>?_,λx y h=>Gk _ _ h,λx y z h1 h2=>KN _ _ _ h1 h2⟩
   obtain ⟨_,i,ei⟩:=hx
   obtain ⟨_,j,ej⟩:=hy
   obtain ⟨d,d1,d2,d3⟩:=at_ i _ ei
   obtain ⟨d',d1',d2',d3'⟩:=at_ j _ ej
   have hi:i<es.length:=(Ad.mp d1).1
   have hj:j<es.length:=(Ad.mp d1').1
   have e:=O.tot i j hi hj
   rw [AG,AG,d1,d1'] at e
   rw [d3,d3'] at hq
   have:=ask i j _ Q e hq
   unfold PySem.W.kas_ask at this
   rw [AG,AG,ei,ej] at this
   exact BL this (λ_ _ z=>z) λ_ _ z=>z.elim
  rcases hk with hk|hk
  ·obtain ⟨ss,hS⟩:=OE hk h2 rv
   refine Ju (kd:=oneType') hl (by rw [lz];ext) lessthan (λQ' E2 hq=>?_) (fin _ (ord _ λi j b C ea hC=>P0 I6 hk h2 rv i j b C ea hC)) hP
   have kk:∀ zs:List Value,2≤zs.length->StrsAre zs ss->keyKind' zs.toArray=pure oneType':=λzs l hS=>by
    match zs,hS,l with
    | [],_,l=>simp at l
    | [_],_,l=>simp at l
    | v1::v2::r,hS,_=>exact keyKind_strs hS
   rw [kk zs (by rw [lz];ext) hS]
   exact Ac hq
  ·obtain ⟨fs,f1,f2,f3⟩:=Hk I6 hk h2 rv
   refine Ju (kd:=tuples' true) hl (by rw [lz];ext) lessthan (λQ' E2 hq=>PySem.W.kat_kind f1 (by rw [f2];ext) (T:=.type "str") (λv hv=>?_) rfl hq) (fin _ (ord _ λi j b C ea hC=>RQ I6 hk h2 rv (A:=X.A.in1.in1) (by show X.A.units+1+1+60<cLine;ext) i j b C ea hC)) hP
   obtain ⟨x,tk,rfl⟩:=f3 v hv
   exact λA Q E s _ hq=>wpAny_typeOf (typeIs_str s x tk) hq
end
def FW (r:List D)(v:D):List D:=if v∈r then r else r++[v]
def HV (es:List D):List D:=es.foldl FW []
section
variable {X:Cx} {K:Zc} {th:List Addr} {mu:Sto} {H:Hp} {pins:List (Addr×Obj)} {st:L2.St} {s:Shared}
def Pr:Fn:=λds mu=>match ds with
 | [.set es]=>some (.int es.length,mu)
 | [d]=>(DY mu d).map λp=>(.int p.1.length,mu)
 | _=>none
theorem OF {ds:List D}{r:D×Sto}(h:Pr ds mu=some r):(∃ es,ds=[.set es]∧r=(.int es.length,mu))∨∃ d p,ds=[d]∧DY mu d=some p∧r=(.int p.1.length,mu):=by
 unfold Pr at h
 split at h
 ·cases h;exact .inl ⟨_,rfl,rfl⟩
 ·rename_i d _
  cases e:DY mu d with
  | none=>rw [e] at h;cases h
  | some p=>rw [e] at h;cases h;exact .inr ⟨d,p,rfl,e,rfl⟩
 ·cases h
theorem MD:CallV X (.builtin "len") Pr:=by
 intro pins s st H xs us Q I r h
 obtain ⟨th,mu,ds,so,rd,t⟩:=h
 obtain ⟨a0,mu0,e0,_⟩:=id t
 rcases OF e0 with ⟨es,rfl,er⟩|⟨d,p,rfl,ed,er⟩
 ·rw [e0] at t
  cases er
  obtain ⟨x,rfl,rx⟩:=CJ rd
  unfold Rep at rx
  obtain ⟨a,us',vs,rfl,_,h1,h2,h3,_⟩:=rx
  obtain ⟨u,rfl,ru⟩:=vals1 r
  cases ru
  obtain ⟨⟨o,tes,ep,tb,ho,hex,hd,sb,hf,hv,_⟩,_⟩:=(show ObjOk X.prog X.w H s.heap a (Pz X.w a us') from I.hok a _ h1)
  have ln:tes.size=es.length:=by
   have e1:us'.length=tes.size:=by have:=hv.length;simpa using this
   rw [← e1,h2.length_eq,List.length_zip,Dk,Ae,h3.len,Nat.min_self]
  refine PySem.call_len_set ho hex hd hf (by unfold scanBound at sb;ext) ⟨.int es.length,H,I.tok _,⟨_,by rw [ln]⟩,t.ret so _ rfl⟩
 ·rw [e0] at t
  cases er
  obtain ⟨x,rfl,rx⟩:=CJ rd
  obtain ⟨a,rfl,dc⟩:=EL so ed rx
  obtain ⟨u,rfl,ru⟩:=vals1 r
  cases ru
  obtain ⟨xs',o,es,ep,h1,g⟩:=Fd I dc
  have ty:s.TypeIs (.ref a) "dict":=⟨o,g.at',g.ex.1⟩
  have ln:es.size=p.1.length:=by rw [DM g.en,Array.length_toList]
  have fit:((p.1.length:Nat):Int)<2 ^ 63:=by
   have:=(KR dc).2.len
   rw [AR] at this
   ext
  have hM:MeetsIn X.prog X.w (Builtin.«dict.__len__» ⟨[.ref a],[]⟩) (λ_ R s=>s.heap.get? a=some o∧R (.ok (.ret (.int p.1.length s.toks))) { s with toks:=s.toks+1 }):=.of_wp λA R s ⟨g0,h⟩=>by
   refine (?_:wpAny _ _ (dictSize a >>= _) _ _ s)
   unfold dictSize
   refine Aa (Aa (Bw g0 g.dt (Ac (?_:wpAny _ _ (Builtin.Dict.pendingCount a >>= _) _ _ s))))
   refine Aa (wpAny_pendingCount_other g.ns (wpAny_ret_mkInt ?_))
   rw [Nat.add_zero,ln]
   exact h
  (refine Calls.call_function_entry kind_len plain_len entry_len (args_len1 _) ?_)
  unfold Builtin.«len»
  refine Aa (m:=oneArg "len" _) (Ac (Aa (m:=callSpecial? (.ref a) (Str.ofString "__len__")) (A6 (name:=Str.ofString "__len__") ty F.slot_dict_len (call_meetsIn F.slot_dict_len ty F.entry_dict_len (F.args_dict_len_1 _) hM ⟨g.at',?_⟩))))
  refine (?_:wpAny _ _ _ _ _ { s with toks:=s.toks+1 })
  refine Aa (AS (Ac (Aa (wpAny_letGo (?_:wpAny _ _ (if ((p.1.length:Nat):Int)<0 then _ else _) _ _ _)))))
  rw [if_neg (by ext)]
  refine (?_:wpAny _ _ (if ((p.1.length:Nat):Int) ≥ 2 ^ 63 then _ else _) _ _ _)
  rw [if_neg (by ext)]
  exact Aa (wpAny_mkInt (Ac ⟨_,rfl,⟨.int p.1.length,H,I.tok _,⟨_,rfl⟩,t.ret so _ rfl⟩⟩))
def FR:Fn:=λds mu=>match Mz ds mu with|some r=>some r|none=>Pr ds mu
theorem D8:CallV X (.builtin "len") FR:=CallV.or MR MD
def Mt (mu:Sto):D->Option (List D)
 | .set es=>some es
 | d=>FU mu d
def HM:Fn:=λds mu=>match FA ds with
 | some d=>match Mt mu d with
  | some es=>if Ds es=true then some (.lst (Dx es),mu) else none
  | none=>none
 | none=>none
theorem Og {ds:List D}{r:D×Sto}(h:HM ds mu=some r):∃ d es,ds=[d]∧Mt mu d=some es∧Ds es=true∧r=(.lst (Dx es),mu):=by
 unfold HM at h
 split at h
 ·rename_i d e
  split at h
  ·rename_i es e2
   split at h
   ·rename_i c;cases h;exact ⟨d,es,EE e,e2,c,rfl⟩
   ·cases h
  ·cases h
 ·cases h
theorem K8 {es fs:List D}(p:fs.Perm es)(h:Ds es=true):Ds fs=true:=by
 unfold Ds Ic at *
 rw [Ab,Ab,Ab,Al,Bool.or_eq_true] at *
 simp only [Ay] at *
 obtain ⟨⟨⟨a,b⟩,c⟩,d⟩:=h
 exact ⟨⟨⟨by rw [p.length_eq];exact a,λx hx=>b x (p.mem_iff.mp hx)⟩,λx hx y hy=>c x (p.mem_iff.mp hx) y (p.mem_iff.mp hy)⟩,d.imp (λz x hx=>z x (p.mem_iff.mp hx)) λz x hx=>z x (p.mem_iff.mp hx)⟩
theorem MF {es:List D}(h:Ds es=true):∀ d∈es,Dv d=true:=by
 unfold Ds at h
 rw [Ab,Ab,Ab] at h
 exact Ay.mp h.1.1.2
theorem Mq (hu:X.A.units+64<cLine)(hc:X.calm=true):CallV X (.builtin "sorted") HM:=by
 intro pins s st H xs us Q I r h
 obtain ⟨th,mu,ds,so,rd,t⟩:=h
 obtain ⟨a0,mu0,e0,_⟩:=id t
 obtain ⟨d,es,rfl,eg,ok,er⟩:=Og e0
 rw [e0] at t
 cases er
 obtain ⟨x,rfl,rx⟩:=CJ rd
 obtain ⟨u,rfl,ru⟩:=vals1 r
 have fin:∀ (fs:List D) (vs:List V) (zs:List Value) (h1:Heap) (tk:Nat) d',fs.Perm es->RepL X.z th H fs vs->Vals vs zs->(∀ b o,s.heap.get? b=some o->h1.get? b=some o)->zs.length≤sizeLine∧∃ Ok,Ga X.prog X.w X.A.in1.in1 zs Ok { s with heap:=h1,toks:=tk,drawn:=d' } ∧
   ∀ out h' e a,Ok out->(∀ b o,h1.get? b=some o->h'.get? b=some o)->h1.objs.size≤a->h'.get? a=some (seqObj "list" out.toArray e)->EP X pins st Q (.ref a) { s with heap:=h',toks:=tk,drawn:=d' }:=λfs vs zs h1 tk d' p h2 rv hk=>by
  have I0:L2.Inv X pins st H { s with drawn:=d' }:=⟨I.ok,I.os,I.bare,I.base,I.loc,I.cell,I.free,I.freeC,I.pin,I.hok,I.len⟩
  have I1:L2.Inv X pins st H { s with heap:=h1,toks:=tk,drawn:=d' }:=I0.kept (t':=tk) hk
  have okf:=K8 p ok
  have l64:fs.length<4096:=by
   unfold Ds at okf
   rw [Ab,Ab,Ab,Al] at okf
   exact okf.1.1.1
  have lz:zs.length=fs.length:=by rw [← rv.length,h2.len]
  have w3:=sorts hu I1 h2 rv okf
  rw [HR (MF ok) p] at w3
  have z64:4096≤sizeLine:=by rw [AR];decide
  have wl:(Dx es).length≤sizeLine:=by rw [(CF es).length_eq,← p.length_eq];ext
  refine ⟨by ext,_,w3,λout h' e a ⟨ws,w1,w2⟩ hk' ha he=>?_⟩
  have hp:H a=none:=I1.hok.fresh ha
  refine ⟨.ref a,_,I1.laid (t':=tk) (o:=.lst ws) hk' ha ⟨by rw [w1.len];exact wl,out,e,w2,he⟩,rfl,?_⟩
  exact t.retX (.new hp _) (so.new hp _) _ (Rep.newLst so hp w1 wl)
 refine HW ?_
 have seqc:∀ (T:String) (a:Addr) (ob:Obj) (vs:List V) (zs:List Value) (n:Nat),(T="list"∨T="tuple")->s.heap.get? a=some ob->ob.cls=.type T->ob.data=.seq zs.toArray n->Vals vs zs->RepL X.z th H es vs->es.length≤sizeLine->wpAny (model X.prog X.w) X.A.in1 (collect (.ref a)) (λzs s1=>zs.length≤sizeLine∧∃ Ok,Ga X.prog X.w X.A.in1.in1 zs Ok s1∧∀ out h' e a,Ok out->(∀ b o,s1.heap.get? b=some o->h'.get? b=some o)->s1.heap.objs.size≤a->h'.get? a=some (seqObj "list" out.toArray e)->EP X pins st Q (.ref a) { s1 with heap:=h' }) X.xe s:=λT a ob vs zs n hT g1 g2 g3 rv h2 hz=>by
  refine Lc hT g1 g2 g3 ?_ (by rw [← rv.length,h2.len];exact hz)
  refine fin es vs zs _ s.toks s.drawn (A7 _) h2 rv λb o e=>?_
  have lt:=Ax e
  rw [Heap.get?_update_ne _ _ _ _ (AJ lt),Heap.get?_push_ne _ _ _ (AJ lt)]
  exact e
 have sq:FU mu d=some es->wpAny (model X.prog X.w) X.A.in1 (collect u) (λzs s1=>zs.length≤sizeLine∧∃ Ok,Ga X.prog X.w X.A.in1.in1 zs Ok s1∧∀ out h' e a,Ok out->(∀ b o,s1.heap.get? b=some o->h'.get? b=some o)->s1.heap.objs.size≤a->h'.get? a=some (seqObj "list" out.toArray e)->EP X pins st Q (.ref a) { s1 with heap:=h' }) X.xe s:=λe2=>by
  obtain ⟨a,vs,rfl,h1,h2,h3⟩:=FI so e2 rx
  cases ru
  rcases h1 with h1|⟨h1,_⟩
  ·obtain ⟨its,rv,⟨o,n,g1,g2,_,g3⟩,_⟩:=I.list h1
   exact seqc "list" a o vs its n (.inl rfl) g1 g2 g3 rv h2 h3
  ·obtain ⟨its,rv,⟨o,g1,g2,n,g3⟩,_⟩:=I.tuple h1
   exact seqc "tuple" a o vs its n (.inr rfl) g1 g2 g3 rv h2 h3
 unfold Mt at eg
 split at eg
 ·cases eg
  unfold Rep at rx
  obtain ⟨a,us',vs,rfl,_,h1,h2,h3,_⟩:=rx
  cases ru
  obtain ⟨⟨o,tes,ep,tb,ho,hex,hd,sb,hf,hv,hw,_⟩,_⟩:=(show ObjOk X.prog X.w H s.heap a (Pz X.w a us') from I.hok a _ h1)
  refine K6 (I.ok.hd hc) (fits_of_scanBound sb) ho hex.1 hd hf hw λzs h' tk d' pm hk=>?_
  obtain ⟨ws,p1,r1⟩:=Vals.perm pm hv
  obtain ⟨fs,p2,r2⟩:=RepL.perm (p1.trans (by have:=h2.map (·.2);rw [List.map_snd_zip (by rw [Dk,Ae,h3.len];exact Ak _)] at this;exact this)) h3
  exact fin fs ws zs h' tk d' p2 r2 r1 hk
 ·exact sq eg
end
mutual
noncomputable def D6 (n:Nat):D->Bool
 | .ref k=>decide (k<n)
 | .tup ds=>DB n ds
 | .lst ds=>DB n ds
 | .dct ks ds=>DB n ks&&DB n ds
 | .set ds=>DB n ds
 | _=>true
noncomputable def DB (n:Nat):List D->Bool
 | []=>true
 | d::ds=>D6 n d&&DB n ds
end
def Hj (n:Nat):MO->Bool
 | .lst ds=>DB n ds
 | .dct ks ds=>DB n ks&&DB n ds
noncomputable def Hv (g:D->Option D):List D->Option (List D)
 | []=>some []
 | d::ds=>match g d,Hv g ds with
  | some d',some ds'=>some (d'::ds')
  | _,_=>none
noncomputable def frz (n:Nat)(mu:Sto):Nat->D->Option D
 | 0,d=>if D6 n d=true then some d else none
 | f+1,d=>if D6 n d=true then some d else match d with
  | .ref k=>match mu[k]? with
   | some (.lst ds)=>(Hv (frz n mu f) ds).map .lst
   | some (.dct ks ds)=>if DB n ks=true then (Hv (frz n mu f) ds).map (.dct ks) else none
   | none=>none
  | .tup ds=>(Hv (frz n mu f) ds).map .tup
  | .lst ds=>(Hv (frz n mu f) ds).map .lst
  | _=>none
def IW (mu m1:Sto)(d:D):Rs D:=match frz mu.length m1 3 d with
 | some d'=>if (m1.take mu.length).all (Hj mu.length)=true then some (d',m1.take mu.length) else none
 | none=>none
def fnG (n:Nat)(m:Sx):Fn:=λds mu=>bM (m (ds.map some++List.replicate (n-ds.length) none) mu) λp m1=>match p.1 with
 | .rt d=>IW mu m1 d
 | .nx=>IW mu m1 .non
 | _=>none
section
variable {K:Zc} {th th1 more:List Addr} {H:Hp} {mu:Sto}
mutual
theorem Jb (pre:th1=th++more):∀ {d:D} {v:V},D6 th.length d=true->Rep K th1 H d v->Rep K th H d v
 | .non,_,_,h=>h
 | .bl _,_,_,h=>h
 | .int _,_,_,h=>h
 | .str _,_,_,h=>h
 | .tup ds,_,l,h=>by
  unfold D6 at l
  unfold Rep at h ⊢
  obtain ⟨a,vs,q,h1,h2,z⟩:=h
  exact ⟨a,vs,q,h1,Dh pre l h2,z⟩
 | .lst ds,_,l,h=>by
  unfold D6 at l
  unfold Rep at h ⊢
  obtain ⟨a,vs,q,h1,h2,z⟩:=h
  exact ⟨a,vs,q,h1.imp (λw=>⟨λz=>w.1 (by rw [pre];exact AK _ z),w.2⟩) id,Dh pre l h2,z⟩
 | .dct ks ds,_,l,h=>by
  unfold D6 at l
  rw [Ab] at l
  unfold Rep at h ⊢
  obtain ⟨a,xs,q,n,h1,h2,h3,h4,h5⟩:=h
  exact ⟨a,xs,q,λz=>n (by rw [pre];exact AK _ z),h1,h2,Dh pre l.1 h3,Dh pre l.2 h4,h5⟩
 | .set ds,_,l,h=>by
  unfold D6 at l
  unfold Rep at h ⊢
  obtain ⟨a,us,vs,q,n,h1,h2,h3,h4⟩:=h
  exact ⟨a,us,vs,q,λz=>n (by rw [pre];exact AK _ z),h1,h2,Dh pre l h3,h4⟩
 | .ref k,_,l,h=>by
  unfold D6 at l
  rw [Al] at l
  unfold Rep at h ⊢
  obtain ⟨a,q,h1⟩:=h
  rw [pre,Ai l] at h1
  exact ⟨a,q,h1⟩
theorem Dh (pre:th1=th++more):∀ {ds:List D} {vs:List V},DB th.length ds=true->RepL K th1 H ds vs->RepL K th H ds vs
 | [],_,_,h=>by rw [h.inv0];exact .nil
 | d::ds,_,l,h=>by
  unfold DB at l
  rw [Ab] at l
  obtain ⟨v,r,rfl,h1,h2⟩:=h.inv
  exact .cons (Jb pre l.1 h1) (Dh pre l.2 h2)
end
theorem Fx {g:D->Option D}(hg:∀ d d' v,g d=some d'->Rep K th1 H d v->Rep K th H d' v):∀ {ds ds':List D} {vs:List V},Hv g ds=some ds'->RepL K th1 H ds vs->RepL K th H ds' vs∧ds'.length=ds.length
 | [],ds',vs,e,h=>by cases e;rw [h.inv0];exact ⟨.nil,rfl⟩
 | d::ds,ds',vs,e,h=>by
  obtain ⟨v,r,rfl,h1,h2⟩:=h.inv
  unfold Hv at e
  split at e
  ·rename_i d2 ds2 e1 e2
   cases e
   obtain ⟨a,b⟩:=Fx hg e2 h2
   exact ⟨.cons (hg _ _ _ e1 h1) a,by simp [b]⟩
  ·cases e
theorem LH (so:StoOk K th1 mu H)(pre:th1=th++more):∀ (f:Nat) (d d':D) (v:V),frz th.length mu f d=some d'->Rep K th1 H d v->Rep K th H d' v
 | 0,d,d',v,e,h=>by
  unfold frz at e
  split at e
  ·rename_i c;cases e;exact Jb pre c h
  ·cases e
 | f+1,d,d',v,e,h=>by
  have ih:=LH so pre f
  unfold frz at e
  split at e
  ·rename_i c;cases e;exact Jb pre c h
  ·rename_i c
   have kp:∀ {k:Nat} {a:Addr},¬ k<th.length->th1[k]? = some a->a∉th:=λ{k a} hk ha z=>by
    obtain ⟨i,hi,ei⟩:=List.mem_iff_getElem.mp z
    have:th1[i]? = some a:=by rw [pre,Ai hi,Am hi,ei]
    have:=QN so.nd this ha
    ext
   split at e
   ·rename_i k
    have hk:¬ k<th.length:=by unfold D6 at c;simpa using c
    unfold Rep at h
    obtain ⟨a,rfl,ha⟩:=h
    split at e
    ·rename_i ds em
     cases q:Hv (frz th.length mu f) ds with
     | none=>rw [q] at e;cases e
     | some ds' =>
      rw [q] at e
      cases e
      obtain ⟨vs,h1,h2,h3⟩:=so.at' k a _ ha em
      obtain ⟨r1,r2⟩:=Fx ih q h2
      unfold Rep
      exact ⟨a,vs,rfl,.inl ⟨kp hk ha,.inl h1⟩,r1,by rw [r2];exact h3⟩
    ·rename_i ks ds em
     split at e
     ·rename_i lk
      cases q:Hv (frz th.length mu f) ds with
      | none=>rw [q] at e;cases e
      | some ds' =>
       rw [q] at e
       cases e
       obtain ⟨xs,h1,h2,h3,h4,h5⟩:=so.at' k a _ ha em
       obtain ⟨r1,r2⟩:=Fx ih q h4
       unfold Rep
       exact ⟨a,xs,rfl,kp hk ha,h1,h2,Dh pre lk h3,r1,h5⟩
     ·cases e
    ·cases e
   ·rename_i ds
    cases q:Hv (frz th.length mu f) ds with
    | none=>rw [q] at e;cases e
    | some ds' =>
     rw [q] at e
     cases e
     unfold Rep at h ⊢
     obtain ⟨a,vs,rfl,h1,h2,h3⟩:=h
     obtain ⟨r1,r2⟩:=Fx ih q h2
     exact ⟨a,vs,rfl,h1,r1,by rw [r2];exact h3⟩
   ·rename_i ds
    cases q:Hv (frz th.length mu f) ds with
    | none=>rw [q] at e;cases e
    | some ds' =>
     rw [q] at e
     cases e
     unfold Rep at h ⊢
     obtain ⟨a,vs,rfl,h1,h2,h3⟩:=h
     obtain ⟨r1,r2⟩:=Fx ih q h2
     exact ⟨a,vs,rfl,h1.imp (λw=>⟨λz=>w.1 (by rw [pre];exact AK _ z),w.2⟩) id,r1,by rw [r2];exact h3⟩
   ·cases e
theorem Pc (so:StoOk K th1 mu H)(pre:th1=th++more)(hl:(mu.take th.length).all (Hj th.length)=true):StoOk K th (mu.take th.length) H:=by
 have len:th.length≤mu.length:=by rw [← so.len,pre,An];ext
 refine ⟨by rw [AE];ext,?_,λk a o e1 e2=>?_⟩
 ·have:=so.nd
  rw [pre] at this
  exact (List.nodup_append.mp this).1
 ·have hk:=(Ad.mp e1).1
  rw [Bh hk] at e2
  have q:=so.at' k a o (by rw [pre,Ai hk];exact e1) e2
  have lo:=Ay.mp hl o (Ag (by rw [Bh hk];exact e2))
  cases o with
  | lst ds=>obtain ⟨vs,q1,q2,z⟩:=q;exact ⟨vs,q1,Dh pre lo q2,z⟩
  | dct ks ds =>
   unfold Hj at lo
   rw [Ab] at lo
   obtain ⟨xs,q1,q2,q3,q4,z⟩:=q
   exact ⟨xs,q1,q2,Dh pre lo.1 q3,Dh pre lo.2 q4,z⟩
end
theorem ND {P:Program}{w:World}{K:PySem.W.Frag}{mg:Str->Option Value}{base:Heap}{x qual:Str}{st:Stmt}{f:Addr}{fd:FuncData}{N ps:List Str}{k:Nat}{m:Sx}(n j:Nat)(F:Fun K x qual st f fd)(S:Cp N ps (BY st))(hn:N.length=n)(hj:ps.length=j)
  (hbody:∀ (cdv:Value) (A:Around) (outer:List Env) (s:Shared) (H:Hp) (E:XK),Room k (A.deeper (envOfC qual (BY st) s.heap.objs.size f cdv)) ->
   SVB (HL CX0 P w K mg base N qual (BY st) f cdv A outer s H E).nox (Dj st) m):DJ P w K mg base CX0 (k+1) f fd ps (spF ⟨K,P,w⟩ (fnG n m) j):=by
 subst hn hj
 refine F.ok S (λvs H Q E h=>?_) (λcdv A outer s H vs Q E hr h=>?_)
 ·obtain ⟨th,mu,ds,_,r,hl,_⟩:=h
  rw [r.len]
  exact hl
 ·obtain ⟨th,mu,ds,so,r,hl,t⟩:=h
  refine ⟨_,(hbody cdv A outer s H E hr).r,?_⟩
  obtain ⟨d0,mu0,e0,q0⟩:=id t
  obtain ⟨p,m1,e1,e2⟩:=DI e0
  refine ⟨th,mu,_,so,GQ r,p,m1,e1,λth1 H1 x1 s1 st' en'=>?_⟩
  obtain ⟨fl,ro'⟩:=p
  obtain ⟨more,pre⟩:=x1.pre
  have done:∀ (d:D) (v:V),IW mu m1 d=some (d0,mu0)->Rep ⟨K,P,w⟩ th1 H1 d v->Q v H1:=λd v ec rv=>by
   unfold IW at ec
   split at ec
   ·rename_i d' ef
    split at ec
    ·rename_i hl
     cases ec
     rw [← so.len] at ef hl q0
     exact q0 th H1 ⟨⟨[],by simp⟩,λ_ _ n _=>n,x1.keep⟩ (Pc s1 pre hl) v (LH s1 pre 3 d d0 v ef rv)
    ·cases ec
   ·cases ec
  cases fl with
  | rt d=>exact λv rv=>done d v e2 rv
  | nx=>exact done .non .non e2 (by unfold Rep;rfl)
  | bk=>cases e2
  | ct=>cases e2
def DAt (h:Heap)(d:Addr)(es:Array DictEntry)(ep:Nat):Prop:=∃ o,h.get? d=some o∧o.data=.dict es ep
def DIt (T:String)(d I:Addr)(es:Array DictEntry)(ep i:Nat)(h:Heap):Prop:=DAt h d es ep∧∃ o,h.get? I=some o∧o.cls=.type T∧o.data=.fields #[.ref d,.int i 0,.int es.size 0,.int ep 0]
section
variable {prog:Program} {w:World} {A:Around} {E:Value->Shared->Prop} {s:Shared}
theorem DIt.ty {T:String}{d I:Addr}{es:Array DictEntry}{ep i:Nat}(g:DIt T d I es ep i s.heap):s.TypeIs (.ref I) T:=let ⟨_,o,a,b,_⟩:=g;⟨o,a,b⟩
theorem DIt.step {T:String}{d I:Addr}{es:Array DictEntry}{ep i:Nat}{h:Heap}(ne:d≠I)(g:DIt T d I es ep i h):DIt T d I es ep (i+1) (h.update I (Obj.mapFields (·.setIfInBounds 1 (rawInt ((i:Int)+1))))):=by
 obtain ⟨⟨od,d1,d2⟩,o,a,b,c⟩:=g
 exact ⟨⟨od,((AL ..).2 d ne).trans d1,d2⟩,_,A5 _ a (Obj.isFreed_of_fields (Obj.data_mapFields c _)),(Obj.cls_mapFields ..).trans b,by rw [Obj.data_mapFields c];simp [rawInt]⟩
theorem N6 {d I:Addr}{es:Array DictEntry}{ep i:Nat}{Q:Option Value->Shared->Prop}(ne:d≠I)(g:DIt "dict_keyiterator" d I es ep i s.heap)(hi:i<es.size)
  (q:∀ h',DIt "dict_keyiterator" d I es ep (i+1) h'->Heap.SameBut I s.heap h'->Q (some es[i].key) { s with heap:=h' }):wpAny (model prog w) A (pyNext (.ref I)) Q E s:=by
 obtain ⟨⟨od,d1,d2⟩,o,a,b,c⟩:=id g
 unfold pyNext
 refine Aa (wpAny_attempt (A6 (name:=Str.ofString "__next__") g.ty Bg (AY Bg g.ty F.entry_dict_keyiterator_next ?_ (F.args_dict_keyiterator_next_1 _))))
 refine Aa (Ac (Aa (Aa ?_)))
 refine Aa (BE g.ty (Ac (Aa (wpAny_fieldsOf a c ?_))))
 simp only [show Builtin.Dict_items.ownsTuple "dict_keyiterator"=false by decide,AZ,if_false]
 refine (?_:wpAny _ _ (if (Value.ref d==Value.none)=true then _ else _) _ _ s)
 rw [if_neg (show ¬ ((Value.ref d==Value.none)=true) from AQ)]
 refine Aa (Ac (Aa (Bw d1 d2 ?_)))
 rw [if_neg (by simp)]
 refine Aa (Ac (Aa (BB d1 d2 ?_)))
 rw [if_neg (by simp)]
 refine Ac ?_
 simp only [show ¬ ((i:Int)<0) by ext,if_false,Int.toNat_natCast,AF hi]
 refine Aa (Aa (BE g.ty (Ac ?_)))
 refine Aa (wpAny_isOneOf_keyiter g.ty ?_)
 refine (?_:wpAny _ _ (setField (.ref I) 1 (rawInt ((i:Int)+1)) >>= _) _ _ s)
 have g':=g.step ne
 refine Aa (Bs a c (by simp) (Aa (AS ?_)))
 generalize hu:s.heap.update I (Obj.mapFields (·.setIfInBounds 1 (rawInt ((i:Int)+1))))=h2 at g' ⊢
 have sb:Heap.SameBut I s.heap h2:=by rw [← hu];exact AL ..
 have t2:=DIt.ty (s:={ s with heap:=h2 }) g'
 refine Aa (wpAny_isOneOf_keyiter (s:={ s with heap:=h2 }) t2 ?_)
 refine (?_:wpAny _ _ (pure es[i].key) _ _ _)
 exact Ac (Ac ⟨_,rfl,Ac (q _ g' sb)⟩)
theorem NV {d I:Addr}{es:Array DictEntry}{ep:Nat}{Q:Option Value->Shared->Prop}(hh:A.handled=none)(g:DIt "dict_keyiterator" d I es ep es.size s.heap)
  (q:∀ h',(∀ c o,c≠I->s.heap.get? c=some o->h'.get? c=some o)->Q none { s with heap:=h' }):wpAny (model prog w) A (pyNext (.ref I)) Q E s:=by
 obtain ⟨⟨od,d1,d2⟩,o,a,b,c⟩:=id g
 unfold pyNext
 refine Aa (wpAny_attempt (A6 (name:=Str.ofString "__next__") g.ty Bg (AY Bg g.ty F.entry_dict_keyiterator_next ?_ (F.args_dict_keyiterator_next_1 _))))
 refine Aa (Ac (Aa (Aa ?_)))
 refine Aa (BE g.ty (Ac (Aa (wpAny_fieldsOf a c ?_))))
 simp only [show Builtin.Dict_items.ownsTuple "dict_keyiterator"=false by decide,AZ,if_false]
 refine (?_:wpAny _ _ (if (Value.ref d==Value.none)=true then _ else _) _ _ s)
 rw [if_neg (show ¬ ((Value.ref d==Value.none)=true) from AQ)]
 refine Aa (Ac (Aa (Bw d1 d2 ?_)))
 rw [if_neg (by simp)]
 refine Aa (Ac (Aa (BB d1 d2 ?_)))
 rw [if_neg (by simp)]
 refine Ac ?_
 simp only [show ¬ ((es.size:Int)<0) by ext,if_false,Int.toNat_natCast,Bd (Ak es.size)]
 refine Aa (Aa (BE g.ty (Ac ?_)))
 refine (?_:wpAny _ _ (setField (.ref I) 0 .none >>= _) _ _ s)
 refine Aa (Bs a c (by simp) ?_)
 refine E6 (I:=I) hh λh' e z1 z2=>?_
 obtain ⟨oe,he,hc⟩:=z2
 exact Aa (wpAny_isInstance (T:="StopIteration") (b:=true) ⟨oe,he,hc⟩ isSubtype_stop (Ac (q h' λc o hc z=>z1 c o (((AL ..).2 c hc).trans z))))
theorem Ii (hh:A.handled=none){d I:Addr}{es:Array DictEntry}{ep:Nat}(ne:d≠I):Walks prog w A I [I,d] [I] es.size (λi v=>∃ e,es[i]? = some e∧e.key=v) (λi h=>DIt "dict_keyiterator" d I es ep i h) where
 sub:=λb hb=>by rw [Aq.mp hb];simp
 frame:=λ_ h1 h2 st hk=>let ⟨⟨od,d1,d2⟩,o,a,b⟩:=st;⟨⟨od,hk d (by simp) _ d1,d2⟩,o,hk I (by simp) _ a,b⟩
 item:=λk s R E hi st hQ=>N6 ne st hi λh' g' sb=>hQ _ h' s.toks ⟨_,AF hi,rfl⟩ g' λb o hb z=>(sb.2 b (by simpa using hb)).trans z
 done:=λs R E st hQ=>NV hh st λh' k=>hQ h' s.toks λb o hb z=>k b o (by simpa using hb) z
 self:=λ_ s R E st hQ=>by
  refine wpAny_pyIter_slot st.ty F.slot_dict_keyiterator_iter (AY F.slot_dict_keyiterator_iter st.ty F.entry_dict_keyiterator_iter ?_ (F.args_dict_keyiterator_iter_1 _))
  refine (?_:wpAny _ _ (ret (.ref I)) _ _ s)
  exact Ac ⟨_,rfl,"dict_keyiterator",_,st.ty,Bg.lookup,hQ⟩
theorem Km {d:Addr}{o:Obj}{es:Array DictEntry}{ep:Nat}{Q:Value->Shared->Prop}(ns:(d==sysModules)=false)(d1:s.heap.get? d=some o)(dc:o.cls=.type "dict")(d2:o.data=.dict es ep)
  (q:∀ h',h'.objs.size=s.heap.objs.size+1->(∀ b o,s.heap.get? b=some o->h'.get? b=some o)->DIt "dict_keyiterator" d s.heap.objs.size es ep 0 h'->Q (.ref s.heap.objs.size) { s with heap:=h' }):wpAny (model prog w) A (pyIter (.ref d)) Q E s:=by
 have hT:s.TypeIs (.ref d) "dict":=⟨o,d1,dc⟩
 refine wpAny_pyIter_slot hT F.slot_dict_iter (AY F.slot_dict_iter hT F.entry_dict_iter ?_ (F.args_dict_iter_1 _))
 unfold Builtin.«dict.__iter__» Builtin.Dict.dictSlotNone
 refine Aa (Aa (wpAny_notOrdered_dict hT ?_))
 refine (?_:wpAny _ _ (pure (Value.ref d)) _ _ s)
 refine Ac (?_:wpAny _ _ (Builtin.Dict.showsAll d >>= _) _ _ s)
 unfold Builtin.Dict.showsAll
 rw [if_neg (by rw [ns];exact AQ)]
 refine Aa (Ac (Aa (Bw d1 d2 (Aa (BB d1 d2 ?_)))))
 refine Aa (A3 (Ac ⟨_,rfl,"dict_keyiterator",_,⟨_,Av _ rfl,rfl⟩,Bg.lookup,?_⟩))
 exact q _ (Heap.size_push ..) (λb o e=>Af _ e) ⟨⟨o,Af _ d1,d2⟩,_,Av _ rfl,rfl,rfl⟩
theorem KC {S:Addr}{ob:Obj}{es:Array DictEntry}{ep:Nat}{Q:List Value->Shared->Prop}(hh:A.handled=none)(hz:es.size≤sizeLine)(g1:s.heap.get? S=some ob)(gc:ob.cls=.type "dict")(ns:(S==sysModules)=false)(g2:DAt s.heap S es ep)
  (q:∀ h' tk,(∀ b o,s.heap.get? b=some o->h'.get? b=some o)->Q (es.toList.map (·.key)) { s with heap:=h',toks:=tk }):wpAny (model prog w) A (collect (.ref S)) Q E s:=by
 obtain ⟨od,d1,d2⟩:=g2
 have lS:S<s.heap.objs.size:=Ax g1
 have ld:S<s.heap.objs.size:=Ax d1
 have nS:s.heap.objs.size≠S:=Nat.ne_of_gt lS
 have nd:s.heap.objs.size≠S:=Nat.ne_of_gt ld
 unfold collect
 refine Aa (wpAny_runValue (codeAny_builtin F.entry_proto_collect ?_))
 (rw [Around.under_plainId F.plain_proto_collect _])
 refine (?_:wpAny _ A.in1 (newList [] >>= λl=>again (.builtin "list.__iadd__" ⟨[l,.ref S],[]⟩)) _ _ s)
 refine Aa (A3 (Ac ⟨plainId_quiet F.plain_list_iadd _,codeAny_builtin F.entry_list_iadd ?_⟩))
 (rw [Around.under_plainId F.plain_list_iadd _])
 refine (?_:wpAny _ A.in1 (Builtin.List.listExtendWith (.ref s.heap.objs.size) (.ref S) (.ref s.heap.objs.size)) _ _ _)
 (unfold Builtin.List.listExtendWith)
 have gS:(s.heap.push { cls:=.type "list",data:=.seq ([]:List Value).toArray }).get? S=some ob:=Af _ g1
 have gd:(s.heap.push { cls:=.type "list",data:=.seq ([]:List Value).toArray }).get? S=some od:=Af _ d1
 have gL:(s.heap.push { cls:=.type "list",data:=.seq ([]:List Value).toArray }).get? s.heap.objs.size=some { cls:=.type "list",data:=.seq ([]:List Value).toArray }:=Av _ rfl
 generalize hP:s.heap.push { cls:=.type "list",data:=.seq ([]:List Value).toArray }=h1 at gS gL gd ⊢
 have k1:∀ b o,s.heap.get? b=some o->h1.get? b=some o:=λb o e=>by rw [← hP];exact Af _ e
 have sz1:h1.objs.size=s.heap.objs.size+1:=by rw [← hP];exact Heap.size_push ..
 have ty:Shared.TypeIs { s with heap:=h1 } (.ref S) "dict":=⟨ob,gS,gc⟩
 refine Aa (wpAny_typeOf ty ?_)
 have e1:Builtin.List.listSameRef (.ref s.heap.objs.size) (.ref S)=false:=by simp [Builtin.List.listSameRef,nS]
 simp only [e1,show (Value.type "dict"==Value.type "list")=false by decide,show (Value.type "dict"==Value.type "tuple")=false by decide,Bool.or_false,AZ,if_false]
 have lt1:S<h1.objs.size:=by rw [sz1];exact By ld
 refine Aa (Km (s:={ s with heap:=h1 }) ns gd (by rw [g1] at d1;cases d1;exact gc) d2 λh2 e2 k2 st=>?_)
 have ty2:Shared.TypeIs { s with heap:=h2 } (.ref S) "dict":=⟨ob,k2 _ _ gS,gc⟩
 have nLI:s.heap.objs.size≠h1.objs.size:=by rw [sz1];exact AJ (Bm _)
 have ndI:S≠h1.objs.size:=AJ lt1
 refine Aa (AS ?_)
 (unfold Builtin.List.listLengthHint)
 refine Aa (wpAny_specialOf ty2 F.slot_dict_len.lookup ?_)
 refine (?_:wpAny _ A.in1 (isInstance (Value.ref S) (.type "dict") >>= _) _ _ _)
 refine Aa (wpAny_isInstance (b:=true) ty2 (by rw [isSubtype_type];kernel_rfl) ?_)
 refine (?_:wpAny _ A.in1 (typeOf (Value.ref S) >>= _) _ _ _)
 refine Aa (wpAny_typeOf ty2 (Ac ?_))
 have gL2:=k2 _ _ gL
 refine (?_:wpAny _ A.in1 (rule "list.extend.makes-room" >>= λ_=>Builtin.List.listTouch (.ref s.heap.objs.size) >>= λ_=>again (.builtin "list.extend.loop" ⟨[.ref s.heap.objs.size,.ref h1.objs.size,.ref s.heap.objs.size],[]⟩)) _ _ _)
 refine Aa (Bc (Aa ?_))
 refine (?_:wpAny _ A.in1 (updateSeq s.heap.objs.size (·.push .none) >>= λ_=>updateSeq s.heap.objs.size (·.pop)) _ _ _)
 refine Aa (wpAny_updateSeq gL2 rfl ?_)
 have gL3:=A5 (Obj.mapSeq (·.push Value.none)) gL2 rfl
 refine wpAny_updateSeq gL3 rfl ?_
 have gL4:=A5 (Obj.mapSeq (·.pop)) gL3 rfl
 have nL:s.heap.objs.size∉[h1.objs.size,S]:=by
  simp only [AH,Bj,or_false,not_or]
  exact ⟨nLI,nd⟩
 have oth:∀ b o,b≠s.heap.objs.size->h2.get? b=some o->((h2.update s.heap.objs.size (Obj.mapSeq (·.push Value.none))).update s.heap.objs.size (Obj.mapSeq (·.pop))).get? b=some o:=
  λb o hb e=>(Bv _ _ hb.symm).trans ((Bv _ _ hb.symm).trans e)
 have W:=(Ii (prog:=prog) (A:=A.in1) (w:=w) (es:=es) (ep:=ep) hh ndI).toS
 refine Ac ⟨plainId_quiet F.plain_extend_loop _,codeAny_extend_loopS (A:=A) W hz _ nL _ es.size 0 _ _ _ rfl (AW _) ?_ gL4 (ItemsOf.nil _) λs' acc' c' hm hS' hacc=>?_⟩
 ·exact (Ii (prog:=prog) (A:=A.in1) (w:=w) (es:=es) (ep:=ep) hh ndI).frame 0 _ _ st λb hb o e=>oth b o (λz=>nL (z▸hb)) e
 refine (?_:wpAny _ A (load s.heap.objs.size >>= _) _ _ s')
 refine Aa (wpAny_load hS' ?_)
 obtain ⟨zh,zg,zd,zt,zo⟩:=s'
 have e4:zg=s.gens:=hm.gens
 have e5:zd=s.drawn:=hm.drawn
 have e6:zo=s.os:=hm.os
 subst e4 e5 e6
 have ac:acc'.toList=es.toList.map (·.key):=by
  refine BK λi=>?_
  rw [Ar,Ah,Ah]
  by_cases hi:i<es.size
  ·have hi':i<acc'.size:=by rw [hacc.1];exact hi
   obtain ⟨e,x1,x2⟩:=hacc.2 i _ (AF hi')
   rw [AF hi',x1,← x2]
   rfl
  ·rw [Bd (by rw [hacc.1];ext),Bd (by ext)]
   rfl
 refine Ac ?_
 refine (?_:Q acc'.toList _)
 rw [ac]
 refine q zh zt λb o e=>?_
 have bl:=Ax e
 refine hm.heap b o ?_ (oth b o (AJ bl) (k2 _ _ (k1 _ _ e)))
 simp only [AH,Bj,or_false,not_or]
 exact ⟨AJ bl,AJ (show b<h1.objs.size by rw [sz1];exact By bl)⟩
end
section
variable {X:Cx} {K:Zc} {th:List Addr} {mu:Sto} {H:Hp} {pins:List (Addr×Obj)} {st:L2.St} {s:Shared}
theorem K7 (hu:X.A.units+64<cLine)(I:L2.Inv X pins st H s)(so:StoOk X.z th mu H){es:List D}(ok:Ds es=true){u:Value}{Q:VK}(t:Tr X.z th H (some (D.lst (Dx es),mu)) (KV' X.z Q))
  (col:∀ Q':List Value->Shared->Prop,(∀ vs zs h' tk,RepL X.z th H es vs->Vals vs zs->(∀ b o,s.heap.get? b=some o->h'.get? b=some o)->Q' zs { s with heap:=h',toks:=tk })->wpAny (model X.prog X.w) X.A.in1 (collect u) Q' X.xe s) :
  wpAny (model X.prog X.w) X.A (call (.builtin "sorted") [u]) (EP X pins st Q) X.xe s:=by
 refine HW (col _ λvs zs h1 tk h2 rv hk=>?_)
 have I1:L2.Inv X pins st H { s with heap:=h1,toks:=tk }:=I.kept (t':=tk) hk
 have l64:es.length<4096:=by
  have:=ok
  unfold Ds at this
  rw [Ab,Ab,Ab,Al] at this
  exact this.1.1.1
 have lz:zs.length=es.length:=by rw [← rv.length,h2.len]
 have w3:=sorts hu I1 h2 rv ok
 have z64:4096≤sizeLine:=by rw [AR];decide
 have wl:(Dx es).length≤sizeLine:=by rw [(CF es).length_eq];ext
 refine ⟨by ext,_,w3,λout h' e a ⟨ws,w1,w2⟩ hk' ha he=>?_⟩
 have hp:H a=none:=I1.hok.fresh ha
 refine ⟨.ref a,_,I1.laid (t':=tk) (o:=.lst ws) hk' ha ⟨by rw [w1.len];exact wl,out,e,w2,he⟩,rfl,?_⟩
 exact t.retX (.new hp _) (so.new hp _) _ (Rep.newLst so hp w1 wl)
theorem OV (I:L2.Inv X pins st H s){a:Addr}{ks ds:List D}(h:F6 X.z th H a ks ds):∃ o es ep,(a==sysModules)=false∧s.heap.get? a=some o∧o.ExactDict∧o.data=.dict es ep∧es.size≤sizeLine∧(∃ vs,RepL X.z th H ks vs∧Vals vs (es.toList.map (·.key)))∧∃ vs,RepL X.z th H ds vs∧Vals vs (es.toList.map (·.val)):=by
 obtain ⟨xs0,h1',h2,h3,h4,h5⟩:=id h
 obtain ⟨xs,o,es,ep,h1,g⟩:=Fd I h
 obtain ⟨⟨z',o',es',ep',g1,g2,g3,g4,ge⟩,_⟩:=(show ObjOk X.prog X.w H s.heap a (En a xs0) from I.hok a _ h1')
 have e1:=g.at'
 rw [g1] at e1
 cases e1
 have e2:=g.dt
 rw [g3] at e2
 cases e2
 have kv:∀ {ys:List (Int×V×V)} {zs:List DictEntry},Paired (λ(x:Int×V×V) (e:DictEntry)=>e.hash=x.1∧RelV x.2.1 e.key∧RelV x.2.2 e.val) ys zs->Vals (ys.map (·.2.1)) (zs.map (·.key))∧Vals (ys.map (·.2.2)) (zs.map (·.val)):=λ{ys zs} p=>by
  induction p with
  | nil=>exact ⟨.nil,.nil⟩
  | cons a b ih=>exact ⟨.cons a.2.1 ih.1,.cons a.2.2 ih.2⟩
 have sz:es.size≤sizeLine:=by
  have e:=DM g.en
  have e':es.size=ks.length:=by
   rw [← Array.length_toList]
   exact e.symm
  rw [e']
  exact h5.len
 exact ⟨o,es,ep,z',g1,g2,g3,sz,⟨_,h3,(kv g4).1⟩,⟨_,h4,(kv g4).2⟩⟩
def Qe:Fn:=λds mu=>match FA ds with
 | some d=>match DY mu d with
  | some p=>if Ds p.1=true then some (.lst (Dx p.1),mu) else none
  | none=>none
 | none=>none
theorem NT {ds:List D}{r:D×Sto}(h:Qe ds mu=some r):∃ d p,ds=[d]∧DY mu d=some p∧Ds p.1=true∧r=(.lst (Dx p.1),mu):=by
 unfold Qe at h
 split at h
 ·rename_i d e
  split at h
  ·rename_i p e2
   split at h
   ·rename_i c;cases h;exact ⟨d,p,EE e,e2,c,rfl⟩
   ·cases h
  ·cases h
 ·cases h
theorem Mk (hu:X.A.units+64<cLine)(hc:X.calm=true):CallV X (.builtin "sorted") Qe:=by
 intro pins s st H xs us Q I r h
 obtain ⟨th,mu,ds,so,rd,t⟩:=h
 obtain ⟨a0,mu0,e0,_⟩:=id t
 obtain ⟨d,p,rfl,eg,ok,er⟩:=NT e0
 rw [e0] at t
 cases er
 obtain ⟨x,rfl,rx⟩:=CJ rd
 obtain ⟨u,rfl,ru⟩:=vals1 r
 obtain ⟨a,rfl,dc⟩:=EL so eg rx
 cases ru
 obtain ⟨o,es,ep,ns,g1,g2,g3,sz,⟨vs,k1,k2⟩,_⟩:=OV I dc
 exact K7 hu I so ok t λQ' q=>KC (I.ok.hd hc) sz g1 g2.1 ns ⟨o,g1,g3⟩ λh' tk hk=>q _ _ h' tk k1 k2 hk
def G7:Fn:=λds mu=>match HM ds mu with|some r=>some r|none=>Qe ds mu
theorem Gs (hu:X.A.units+64<cLine)(hc:X.calm=true):CallV X (.builtin "sorted") G7:=CallV.or (Mq hu hc) (Mk hu hc)
noncomputable def L0 (d:PyData):Bool:=d.showable&&(!d.hasDict&&(decide (d.depth≤60)&&(decide (d.shown.length≤sizeLine)&&PyData.strOk d.shown)))
def DN:Fn:=λds mu=>match FA ds with
 | some d=>if (Ca (seen mu d)&&L0 (toPy (seen mu d)))=true then some (.str (toPy (seen mu d)).shown,mu) else none
 | none=>none
theorem Mu {ds:List D}{r:D×Sto}(h:DN ds mu=some r):∃ d,ds=[d]∧Ca (seen mu d)=true∧L0 (toPy (seen mu d))=true∧r=(.str (toPy (seen mu d)).shown,mu):=by
 unfold DN at h
 split at h
 ·rename_i d e
  split at h
  ·rename_i c
   rw [Ab] at c
   cases h
   exact ⟨d,EE e,c.1,c.2,rfl⟩
  ·cases h
 ·cases h
theorem E9 (hu:X.A.units+64<cLine)(hg:X.A.guards=some []):CallV X (.builtin "repr") DN:=by
 intro pins s st H xs us Q I r h
 obtain ⟨th,mu,ds,so,rd,t⟩:=h
 obtain ⟨a0,mu0,e0,_⟩:=id t
 obtain ⟨d,rfl,pu,ok,er⟩:=Mu e0
 rw [e0] at t
 cases er
 obtain ⟨x,rfl,rx⟩:=CJ rd
 obtain ⟨u,rfl,ru⟩:=vals1 r
 have ok':=ok
 unfold L0 at ok'
 rw [Ab,Ab,Ab,Ab,Al,Al] at ok'
 obtain ⟨o1,o2,o3,o4,o5⟩:=ok'
 have nd:(toPy (seen mu d)).hasDict=true->False:=λz=>by rw [z] at o2;cases o2
 obtain ⟨as,r1,_⟩:=DC I so pu rx ru
 have fin:∀ h' v tk,(∀ b o,s.heap.get? b=some o->h'.get? b=some o)->EP X pins st Q (.str (toPy (seen mu d)).shown v) { s with heap:=h',toks:=tk }:=λh' v tk hk =>
  ⟨.str (toPy (seen mu d)).shown,H,I.kept (t':=tk) hk,⟨v,rfl⟩,t.ret so _ ⟨rfl,o4,o5⟩⟩
 generalize toPy (seen mu d)=pd at *
 cases r1 with
 | none=>exact P.repr_of_none (fin s.heap _ _ λ_ _ e=>e)
 | bool b=>exact P.repr_of_bool (fin s.heap _ _ λ_ _ e=>e)
 | int i tt=>exact P.repr_of_int (by simpa [PyData.showable] using o1) (fin s.heap _ _ λ_ _ e=>e)
 | str x tt=>exact P.repr_of_str (fin s.heap _ _ λ_ _ e=>e) o4
 | list g1 g2 g3 g4=>exact repr_of_reads' (.list g1 g2 g3 g4) o1 (λz=>(nd z).elim) hg (by ext) (λ_ _ e=>e) (λh' v tk hk=>fin h' v tk hk) o4
 | tuple g1 g2 g3 g4=>exact repr_of_reads' (.tuple g1 g2 g3 g4) o1 (λz=>(nd z).elim) hg (by ext) (λ_ _ e=>e) (λh' v tk hk=>fin h' v tk hk) o4
 | dict=>exact (nd rfl).elim
end
theorem Pa (T:String)(hT:T="list"∨T="tuple")(l:Addr)(items:Array Value)(n:Nat)(b:Addr)(dd:Option Addr)(sl:Array (Option Value))(items2:Array Value)(n2:Nat)(hc0:¬(!items.isEmpty&&Builtin.List.listTooLong (items.size+items2.size))=true)(hc1:items.size≤sizeLine)(hs2:items.size+items2.size≤sizeLine+1) :
  Meets (Builtin.«list.extend» ⟨[.ref l,.ref b],[]⟩) (λ_ R s=>s.heap.get? l=some { cls:=.type "list",data:=.seq items n }∧s.heap.get? b=some { cls:=.type T,dict:=dd,data:=.seq items2 n2,slots:=sl }∧R (.ok (.ret Value.none)) { s with heap:=s.heap.update l (Obj.mapSeq λx=>x++items2) }):=
 .of_wp λprog w A R s h=>by
  obtain ⟨hp,g,d,tk,os⟩:=s
  obtain ⟨hl,hb,h⟩:=h
  have f2:=sub_tuple_tuple
  have f3:=sub_list_list
  have f4:=sub_tuple_list
  have f5:=sub_list_tuple
  have hz':(items++items2).size≤sizeLine+1:=by rw [BH];exact hs2
  rcases hT with rfl|rfl
  ·wp_walk using (wpAny_updateSeq hl rfl (hz:=hc1) (_hz':=hz')),BM hl,BM hb
   exact ⟨_,rfl,h⟩
  ·wp_walk using (wpAny_updateSeq hl rfl (hz:=hc1) (_hz':=hz')),BM hl,BM hb
   exact ⟨_,rfl,h⟩
section
variable {X:Cx} {K:Zc} {th:List Addr} {mu:Sto} {H:Hp} {pins:List (Addr×Obj)} {st:L2.St} {s:Shared}
theorem SF:MtR X "list.extend" (λx vs H Q=>∃ l b xs zs,x=.ref l∧vs=[.ref b]∧H l=some (.lst xs)∧(SqL X.K H b zs∨SqT X.K H b zs)∧xs.length+zs.length≤sizeLine∧Q .non (upd H l (.lst (xs++zs)))):=by
 intro pins s σ H x vs v us Q I rx rv h
 obtain ⟨l,b,xs,zs,rfl,rfl,hH,hB,hz,q⟩:=h
 cases rx
 obtain ⟨u,rfl,ru⟩:=rv.one
 cases ru
 obtain ⟨z,its,n,r,hl,e⟩:=I.lstM hH
 have fin:∀ (T:String) (ob:Obj) (its2:List Value) (n2:Nat),(T="list"∨T="tuple")->Vals zs its2->s.heap.get? b=some ob->ob.cls=.type T->ob.data=.seq its2.toArray n2->wpAny (model X.prog X.w) X.A (call (.builtin "list.extend") [.ref l,.ref b]) (EP X pins σ Q) X.xe s:=λT ob its2 n2 hT r2 g1 g2 g3=>by
  have l1:=r.length
  have l2:=r2.length
  have hsz:its.toArray.size+its2.toArray.size≤sizeLine:=by rw [Ap,Ap];ext
  have hlong:¬ (!its.toArray.isEmpty&&Builtin.List.listTooLong (its.toArray.size+its2.toArray.size))=true:=by
   rw [Nq hsz,Bool.and_false]
   exact AQ
  obtain ⟨cls,dd,data,sl⟩:=ob
  simp only at g2 g3
  subst g2 g3
  refine call_meets F.slot_list_extend ⟨_,e,rfl⟩ F.entry_list_extend (F.args_list_extend_2 _ _) (Pa T hT l its.toArray n b dd sl its2.toArray n2 hlong (by rw [Ap];ext) (by ext)) ⟨e,g1,?_⟩
  refine ⟨.non,_,I.lset (its':=its++its2) hH e (by simp) (r.append r2) ?_,rfl,q⟩
  rw [An]
  ext
 rcases hB with hB|hB
 ·obtain ⟨its2,r2,⟨ob,n2,g1,g2,_,g3⟩,_⟩:=I.list hB
  exact fin "list" ob its2 n2 (.inl rfl) r2 g1 g2 g3
 ·obtain ⟨its2,r2,⟨ob,g1,g2,n2,g3⟩,_⟩:=I.tuple hB
  exact fin "tuple" ob its2 n2 (.inr rfl) r2 g1 g2 g3
def Jg (o:Ex)(a:Exs):Ex:=λro mu=>bM (o ro mu) λd m1=>match d with
 | .ref k=>if CM m1 (.ref k)=true then bM (a ro m1) λxs m2=>match sq1 xs m2,m2[k]? with
  | some ys,some (.lst ds)=>if ds.length+ys.length≤sizeLine then some (.non,m2.set k (.lst (ds++ys))) else none
  | _,_=>none
  else none
 | _=>none
theorem HY {o e:Expr}{m:Ex}{n:Exs}{apos cpos:Pos}(ho:SV X o m)(ha:SVA X [e] n)(hbase:attributeBase o "extend" X.env (eval o X.env)=eval o X.env:=by rfl)
  (hfew:((backTo cpos (starEach [e] X.env)).all (λx=>!x.1)&&(backToKw cpos (keywordEach [] X.env)).all (λx=>x.1.isSome)
   && decide ([e].length+([]:List Keyword).length+(if ([]:List Keyword).isEmpty then 0 else 1)<30))=true:=by rfl)
  (hline:(apos.endLine==cpos.line)=true:=by rfl) (hs:starEach [e] X.env=(false,eval e X.env)::starEach [] X.env:=by rfl) (hplain:(backTo cpos (starEach [] X.env)).any (·.1)=false:=by rfl) :
  SV X (.Call (.Attribute o "extend" apos) [e] [] cpos) (Jg m n):=
 ⟨PE.weak (QR PySem.F.plainAttrs_list PySem.F.slot_list_extend PySem.F.type_list_extend SF ho.r ha.1 hbase hfew hline hs hplain) λst H Q h=>by
  obtain ⟨th,mu,ro,so,en,t⟩:=h
  refine ⟨th,mu,ro,so,en,t.bind.mono λd th1 mu1 H1 e1 s1 t1 v rv=>?_⟩
  cases d with
  | ref k =>
   unfold Rep at rv
   obtain ⟨a,rfl,ha'⟩:=rv
   by_cases cr:CM mu1 (.ref k)=true
   case neg=>dsimp only at t1;rw [if_neg cr] at t1;exact t1.no.elim
   dsimp only at t1
   rw [if_pos cr] at t1
   obtain ⟨ds0,em⟩:=Gv cr
   obtain ⟨vs,h2,_⟩:=s1.at' k a _ ha' em
   refine ⟨.inl ⟨rfl,vs,SqL.of h2⟩,th1,mu1,ro,s1,en.ext e1 so.out,?_⟩
   refine Tr.mono (Tr.bind t1) λxs th2 mu2 H2 e2 s2 t2 ws rws=>?_
   cases q1:sq1 xs mu2 with
   | none=>rw [q1] at t2;exact t2.no.elim
   | some ys =>
    cases q2:mu2[k]? with
    | none=>rw [q1,q2] at t2;exact t2.no.elim
    | some o =>
     cases o with
     | dct _ _=>rw [q1,q2] at t2;exact t2.no.elim
     | lst ds =>
      rw [q1,q2] at t2
      dsimp only at t2
      by_cases c:ds.length+ys.length≤sizeLine
      ·rw [if_pos c] at t2
       have hk:=e2.at ha'
       obtain ⟨us,g1,g2,g3⟩:=s2.at' k a _ hk q2
       unfold sq1 at q1
       cases q3:FA xs with
       | none=>rw [q3] at q1;cases q1
       | some y =>
        rw [q3] at q1
        rw [EE q3] at rws
        obtain ⟨y',rfl,ry⟩:=CJ rws
        obtain ⟨b,zs,rfl,z1,z2,_⟩:=FI s2 q1 ry
        exact ⟨a,b,us,zs,rfl,rfl,g1,z1.imp id (·.1),by rw [g2.len,z2.len];exact c,t2.retX (.mut (Ag hk) _) (s2.put hk (g2.app z2) (by rw [An];exact c)) _ rfl⟩
      ·rw [if_neg c] at t2;exact t2.no.elim
  | _=>exact t1.no.elim⟩
def tBD (r:V->List V->Hp->VK->Prop)(to:TE)(t:TA):TE:=fun σ H Q=>to σ H λx H1=>(∃ a xs,x=.ref a∧H1 a=some (En a xs))∧t σ H1 λvs H2=>r x vs H2 Q
theorem TN {o e:Expr}{es:List Expr}{to:TE}{t:TA}{name:Str}{apos cpos:Pos}{id:String}{r:V->List V->Hp->VK->Prop}(slot:Slot "dict" name id)(hty:typeOf (.builtin id)=pure (.type "method_descriptor"))(hm:MtR X id r)(ho:PE X o to)(ha:PA X (e::es) t)
  (hbase:attributeBase o name X.env (eval o X.env)=eval o X.env)
  (hfew:((backTo cpos (starEach (e::es) X.env)).all (λx=>!x.1)&&(backToKw cpos (keywordEach [] X.env)).all (λx=>x.1.isSome)
   && decide ((e::es).length+([]:List Keyword).length+(if ([]:List Keyword).isEmpty then 0 else 1)<30))=true)
  (hline:(apos.endLine==cpos.line)=true) (hs:starEach (e::es) X.env=(false,eval e X.env)::starEach es X.env) (hplain:(backTo cpos (starEach es X.env)).any (·.1)=false) :
  PE X (.Call (.Attribute o name apos) (e::es) [] cpos) (tBD r to t):=by
 intro pins s st H Q I h
 refine wpAny_Call_method_late hbase hfew hline rfl (thn (ho pins s st H _ I h) λv s1 ⟨x,H1,I1,r1,⟨a,xs,ex,hd⟩,q1⟩=>?_)
 subst ex
 cases r1
 obtain ⟨⟨z,ob,es',ep,g1,g2,g3,g4,ge⟩,_⟩:=(show ObjOk X.prog X.w H1 s1.heap a (En a xs) from I1.hok a _ hd)
 refine ⟨"dict",id,PySem.F.plainAttrs_dict,slot,hty,⟨ob,g1,g2.1⟩,λb e=>by cases e;exact ⟨ob,g1,g2.2.1⟩,?_⟩
 have hA:=ha cpos pins s1 st H1 _ I1 q1
 rw [hs] at hA ⊢
 refine Calls.callWith_builtin (by show (false||(backTo cpos (starEach es X.env)).any (·.1))=false;rw [hplain]<;>rfl) (Calls.evalArgs_plain ?_)
 exact thn hA λus s2 ⟨vs,H2,I2,r2,q2⟩=>hm pins s2 st H2 (.ref a) vs (.ref a) us Q I2 rfl r2 q2
end
section
variable {X:Cx} {K:Zc} {th:List Addr} {mu:Sto} {H:Hp} {pins:List (Addr×Obj)} {st:L2.St} {s:Shared} {A:Around} {E:Value->Shared->Prop}
theorem RI (I:L2.Inv X pins st H s){a:Addr}{ks ds:List D}(h:F6 X.z th H a ks ds)(ext:∀ xs,Ext th H th (upd H a (En a xs)))(so:StoOk X.z th mu H){k v:D}{kv vv:V}{u r:Value}(hk:Fj k=true)(rk:Rep X.z th H k kv)(ru:RelV kv u)(rv:Rep X.z th H v vv)(rr:RelV vv r)(lt:ks.length<sizeLine)(hu:A.units+8<cLine)
  {Q:Value->Shared->Prop} (q1:∀ d,DL k ks ds=some d->∀ v' r',Rep X.z th H d v'->RelV v' r'->∀ tk,Q r' { s with toks:=tk })
  (q2:DL k ks ds=none->∀ s' xs',L2.Inv X pins st (upd H a (En a xs')) s'->F6 X.z th (upd H a (En a xs')) a (ks++[k]) (ds++[v])->Q r s'):wpAny (model X.prog X.w) A (dictSetDefault a u r) Q E s:=by
 have hd:=JN I hk rk ru
 obtain ⟨xs',h1',h2,h3,h4,h5⟩:=id h
 obtain ⟨⟨z',o,es,ep,g1,g2,g3,g4,ge⟩,_⟩:=(show ObjOk X.prog X.w H s.heap a (En a xs') from I.hok a _ h1')
 obtain ⟨xs,o',es',ep',h1,g⟩:=Fd I h
 have g1':=g.at'
 rw [g1] at g1'
 cases g1'
 have g3':=g.dt
 rw [g3] at g3'
 cases g3'
 have mu1:Mut (H a):=by rw [h1'];exact True.intro
 unfold dictSetDefault
 refine AS (Aa (hd.hash hu λtk=>?_))
 refine Aa (IC (s:={ s with toks:=tk }) hu hd g1 g3 g.en h5.nd (λz=>?_) λj ej=>?_)
 ·have hz0:es.size≤sizeLine:=by rw [← Array.length_toList,← DM g.en];ext
  refine Aa (Bc (Aa (wpAny_updateDictKeys (s:={ s with toks:=tk }) g1 g3 (hz:=hz0) (Ac ?_))))
  have so1:=A5 (Obj.mapDictKeys (·.push ⟨CT X.w k,u,r⟩)) g1 (Obj.isFreed_of_dict (Obj.data_mapDictKeys g3 _))
  refine q2 (Ea z) _ (xs'++[(CT X.w k,kv,vv)]) (I.write (x:=a) (e:=a) (t':=tk) mu1 (.inl rfl) (λb ob hb e=>((AL ..).2 b hb).trans e) ⟨_,so1⟩ (IJ ⟨z',_,_,ep+1,so1,g2.mapDictKeys _,Obj.data_mapDictKeys g3 _,?_,by rw [Bf,ge]⟩)) ?_
  ·rw [BJ]
   exact G8 g4 (.cons ⟨rfl,ru,rr⟩ .nil)
  ·have ex:=ext (xs'++[(CT X.w k,kv,vv)])
   refine ⟨_,CV,?_,?_,?_,?_⟩
   ·rw [Az,h2,Dk,Dk,Az];rfl
   ·rw [Az];exact (h3.ext ex so.out).app (.cons (rk.ext ex so.out) .nil)
   ·rw [Az];exact (h4.ext ex so.out).app (.cons (rv.ext ex so.out) .nil)
   ·refine ⟨by rw [An];exact lt,?_,λk' hk'=>?_⟩
    ·refine List.nodup_append.mpr ⟨h5.nd,by simp,λx hx y hy=>?_⟩
     rw [Aq.mp hy]
     exact λe=>z (e▸hx)
    ·rcases AA.mp hk' with w'|w'
     ·exact h5.ok k' w'
     ·rw [Aq.mp w'];exact hk
 ·have dl:=(KR h).1
  have jl:j<ds.length:=by rw [dl];exact (Ad.mp ej).1
  have eg:DL k ks ds=some ds[j]:=by rw [E3 h5.nd ej,Am jl]
  obtain ⟨v',v1,v2⟩:=h4.get (Am jl)
  obtain ⟨en,e1,e2⟩:=(Du g.en j).1 k ej
  obtain ⟨x,x1,x2,x3,x4⟩:=(Du g4 j).2 en e1
  rw [Ar,x1] at v1
  have v1':x.2.2=v':=by simpa using v1
  rw [Ah] at e1
  refine Aa (Bw (s:={ s with toks:=tk }) g1 g3 ?_)
  rw [e1]
  exact Aa (Bc (Ac (q1 _ eg v' en.val v2 (v1'▸x4) tk)))
def PQ (d:D)(xs:List D)(mu:Sto):Rs D:=match d,xs with
 | .ref kk,[k,y]=>match mu[kk]? with
  | some (.dct ks ds)=>if Fj k=true∧ks.length<sizeLine then (match DL k ks ds with
    | some v=>some (v,mu)
    | none=>some (y,mu.set kk (.dct (ks++[k]) (ds++[y])))) else none
  | _=>none
 | _,_=>none
theorem RB (hu:X.A.units+64<cLine):MtR X "dict.setdefault" (λx vs H Q=>∃ th mu d ds,StoOk X.z th mu H∧Rep X.z th H d x∧RepL X.z th H ds vs∧Tr X.z th H (PQ d ds mu) (KV' X.z Q)):=by
 intro pins s st H x xs v us Q I rx rxs h
 obtain ⟨th,mu,d,ds0,so,r1,r2,t⟩:=h
 unfold PQ at t
 split at t
 ·rename_i kk k y
  split at t
  ·rename_i ks ds em
   by_cases c:Fj k=true∧ks.length<sizeLine
   ·rw [if_pos c] at t
    unfold Rep at r1
    obtain ⟨a,rfl,ha⟩:=r1
    have dc:F6 X.z th H a ks ds:=so.at' kk a _ ha em
    obtain ⟨ty,ns,_⟩:=Lp I dc
    cases rx
    obtain ⟨kv,yv,rfl,rk,ry⟩:=G1 r2
    obtain ⟨u,w',rfl,ru,rw'⟩:=vals2 rxs
    refine AY PySem.F.slot_dict_setdefault ty PySem.F.entry_dict_setdefault ?_ (PySem.F.args_dict_setdefault_3 _ _ _)
    unfold Builtin.«dict.setdefault» Builtin.Dict.keyAndDefault
    refine Aa (Aa (wpAny_notOrdered_dict ty (?_:wpAny _ _ (pure (a,u,some w')) _ _ s)))
    refine Ac (?_:wpAny _ _ (if (a==sysModules)=true then _ else (dictSetDefault a u w' >>= _)) _ _ s)
    rw [if_neg (by rw [ns];exact AQ)]
    refine Aa (RI (A:=X.A.in1) I dc (λxs=>.mut (Ag ha) _) so c.1 rk ru ry rw' c.2 (by rw [Around.in1_units];ext) (λd' e' v' r' z1 z2 tk=>Ac ⟨r',rfl,?_⟩) λe' s' xs' I' dc'=>Ac ⟨w',rfl,?_⟩)
    ·rw [e'] at t
     exact ⟨v',H,I.tok _,z2,t.ret so _ z1⟩
    ·rw [e'] at t
     exact ⟨yv,_,I',rw',t.retX (.mut (Ag ha) _) (so.putG ha _ _ dc') _ (ry.ext (.mut (Ag ha) _) so.out)⟩
   ·rw [if_neg c] at t;exact t.no.elim
  ·exact t.no.elim
 ·exact t.no.elim
def Mw (o:Ex)(a:Exs):Ex:=λro mu=>bM (o ro mu) λd m1=>if (DY m1 d).isSome=true then bM (a ro m1) λxs m2=>PQ d xs m2 else none
theorem SM (hu:X.A.units+64<cLine){o e:Expr}{es:List Expr}{m:Ex}{n:Exs}{apos cpos:Pos}(ho:SV X o m)(ha:SVA X (e::es) n)(hbase:attributeBase o "setdefault" X.env (eval o X.env)=eval o X.env:=by rfl)
  (hfew:((backTo cpos (starEach (e::es) X.env)).all (λx=>!x.1)&&(backToKw cpos (keywordEach [] X.env)).all (λx=>x.1.isSome)
   && decide ((e::es).length+([]:List Keyword).length+(if ([]:List Keyword).isEmpty then 0 else 1)<30))=true:=by rfl)
  (hline:(apos.endLine==cpos.line)=true:=by rfl) (hs:starEach (e::es) X.env=(false,eval e X.env)::starEach es X.env:=by rfl) (hplain:(backTo cpos (starEach es X.env)).any (·.1)=false:=by rfl) :
  SV X (.Call (.Attribute o "setdefault" apos) (e::es) [] cpos) (Mw m n):=
 ⟨PE.weak (TN PySem.F.slot_dict_setdefault PySem.F.type_dict_setdefault (RB hu) ho.r ha.1 hbase hfew hline hs hplain) λst H Q h=>by
  obtain ⟨th,mu,ro,so,en,t⟩:=h
  refine ⟨th,mu,ro,so,en,t.bind.mono λd th1 mu1 H1 e1 s1 t1 v rv=>?_⟩
  cases q:DY mu1 d with
  | none=>rw [q] at t1;exact t1.no.elim
  | some pr =>
   rw [q] at t1
   rw [if_pos (show (some pr).isSome=true from rfl)] at t1
   obtain ⟨a,rfl,dc⟩:=EL s1 q rv
   obtain ⟨xs,hx,_⟩:=id dc
   refine ⟨⟨a,xs,rfl,hx⟩,th1,mu1,ro,s1,en.ext e1 so.out,?_⟩
   exact Tr.mono (Tr.bind t1) λys th2 mu2 H2 e2 s2 t2 ws rws=>⟨th2,mu2,d,ys,s2,rv.ext e2 s1.out,rws,t2⟩⟩
end
end PV
namespace L2
open PySem PySem.Spec PyProof.Rows
inductive IsC:Expr->List Comprehension->Prop
 | l {elt gens sc pos}:IsC (.ListComp elt gens sc pos) gens
 | d {k v gens sc pos}:IsC (.DictComp k v gens sc pos) gens
noncomputable def Ez (g:Comprehension)(it:Value)(env:Env)(step:Sem Unit)(c:Code):Sem Fin:=do
 standAt g.iter.pos
 match←pyNext it with
 | none=>pure (.done .next)
 | some v =>
  letOwnedTupleGo g.target it v
  assign g.target env v
  let mut ok:=true
  for c in g.ifs do
   if ok then ok←isTrue c env (eval c env)
  if ok then step
  again c
noncomputable def Ib (elt:Expr)(acc:Value)(env:Env):Sem Unit:=do let _←call (.builtin "list.append") [acc,← eval elt env]
noncomputable def deeper (e iter:Expr)(acc:Value)(env:Env):Sem Unit:=do
 let x←eval iter env
 standAt iter.pos
 let x←foldedSetIterable iter env x
 let _←runOwn (.compStart e 1 (← holding [x] (pyIter x)) acc env) env
theorem Qr {elt t i ifs sc pos it acc env}:compTurn (.ListComp elt [⟨t,i,ifs,0⟩] sc pos) 0 it acc env=Ez ⟨t,i,ifs,0⟩ it env (Ib elt acc env) (.compLoop (.ListComp elt [⟨t,i,ifs,0⟩] sc pos) 0 it acc env):=rfl
theorem OT {elt t i ifs t2 i2 ifs2 sc pos it acc env}:compTurn (.ListComp elt [⟨t,i,ifs,0⟩,⟨t2,i2,ifs2,0⟩] sc pos) 0 it acc env=Ez ⟨t,i,ifs,0⟩ it env (deeper (.ListComp elt [⟨t,i,ifs,0⟩,⟨t2,i2,ifs2,0⟩] sc pos) i2 acc env) (.compLoop (.ListComp elt [⟨t,i,ifs,0⟩,⟨t2,i2,ifs2,0⟩] sc pos) 0 it acc env):=by
 unfold Ez deeper
 simp only [bind_assoc,pure_bind]
 rfl
theorem Qs {elt t i ifs t2 i2 ifs2 sc pos it acc env}:compTurn (.ListComp elt [⟨t,i,ifs,0⟩,⟨t2,i2,ifs2,0⟩] sc pos) 1 it acc env=Ez ⟨t2,i2,ifs2,0⟩ it env (Ib elt acc env) (.compLoop (.ListComp elt [⟨t,i,ifs,0⟩,⟨t2,i2,ifs2,0⟩] sc pos) 1 it acc env):=rfl
section
variable {prog:Program} {w:World} {A:Around} {R:Result->Shared->Prop} {s:Shared} {e:Expr} {gens:List Comprehension} {g:Comprehension} {depth:Nat} {it acc:Value} {env:Env} {step:Sem Unit}
theorem Vd (hc:IsC e gens)(heq:compTurn e depth it acc env=Ez g it env step (.compLoop e depth it acc env))(J:Nat->Shared->Prop)
  (turn:∀ (n:Nat) (z:Shared),J n z->Go prog w A (pyNext it) (λr z1=>match r with
   | .none=>R (.ok .next) z1
   | .some v=>Go prog w A (letOwnedTupleGo g.target it v) (λ_ s1=>Go prog w A (assign g.target env v) (λ_ s2=>Go prog w A (tests env g.ifs) (λok s3 =>
     if ok=true then Go prog w A step (λ_ z2=>∃ m,m<n∧J m z2) s3 else ∃ m,m<n∧J m s3) s2) s1) z1) z) (n:Nat) (h:J n s) :
  codeAny (model prog w) A (Code.compLoop e depth it acc env) R s:=by
 have st:∀ (n:Nat) (z:Shared),J n z->Go prog w A (compTurn e depth it acc env)
   (λfin z'=>match fin with
    | .done f=>R (.ok f) z'
    | .again c'=>c'=Code.compLoop e depth it acc env∧∃ m,m<n∧J m z') z:=by
  intro n z hz
  rw [heq]
  unfold Ez
  refine Aa (wpAny_standAt (Aa (thn (turn n z hz) λr z1 h1=>?_)))
  cases r with
  | none=>exact Ac h1
  | some v =>
   refine Aa (thn h1 λ_ z2 h2=>Aa (thn h2 λ_ z3 h3=>Aa (thn h3 λok z4 h4=>?_)))
   cases ok with
   | false=>exact Ac (And.intro rfl h4)
   | true=>exact Aa (thn h4 λx z5 h5=>Ac (And.intro rfl h5))
 cases hc with
 | l=>exact codeAny_loop rfl J (λn z hz=>wpAny_noted (BL (st n z hz) (λ_ _ q=>q) λ_ _ q=>q.elim)) n h
 | d=>exact codeAny_loop rfl J (λn z hz=>wpAny_noted (BL (st n z hz) (λ_ _ q=>q) λ_ _ q=>q.elim)) n h
theorem NB (hc:IsC e gens)(hg:gens[depth]? = some g)(ha:g.is_async=0)
  (h0:codeAny (model prog w) A (.compLoop e depth it acc env) R s)
  (h:wpAny (model prog w) A (pyIter it) (λit' s'=>codeAny (model prog w) A (.compLoop e depth it' acc env) R s') (notedBy (model prog w) A env λx s'=>R (.error x) s') s) :
  codeAny (model prog w) A (.compStart e depth it acc env) R s:=by
 have st:wpAny (model prog w) A (compStart e depth it acc env) (λfin s'=>match fin with
    | .done f=>R (.ok f) s'
    | .again c'=>c'.quiet=true∧codeAny (model prog w) A c' R s') (notedBy (model prog w) A env λx s'=>R (.error x) s') s:=by
  have cl:clausesOf e=gens:=by cases hc<;>rfl
  have qt:(Code.compLoop e depth it acc env).quiet=true:=by cases hc<;>rfl
  have qt':∀ it',(Code.compLoop e depth it' acc env).quiet=true:=λit'=>by cases hc<;>rfl
  unfold compStart
  rw [cl,hg]
  simp only [Option.elim,ha,bne_self_eq_false,AZ,if_false,pure_bind]
  refine Aa (wpAny_askSetting (wpAny_ite ?_))
  split
  ·first
    | exact Aa (Ac (Ac (And.intro qt h0)))
    | exact Ac (And.intro qt h0)
  ·exact Aa (Bc (Aa (wpAny_standAt (Aa (BL h (λit' s' h'=>Ac (And.intro (qt' _) h')) λ_ _ x=>x)))))
 cases hc with
 | l =>
  refine codeAny_of_tree ?_
  exact wpAny_notedAt (BL st (λfin _ q=>q) λ_ _ q=>q)
 | d =>
  refine codeAny_of_tree ?_
  exact wpAny_notedAt (BL st (λfin _ q=>q) λ_ _ q=>q)
end
abbrev TM (α:Type):=α->St->Hp->(α->St->Hp->Prop)->Prop
structure Acc (α:Type) where
 ao:α->Obj->Prop
 nc:∀ a o,ao a o->∀ v,o.data≠.cell v
structure DOk (X:Cx) (D:Addr):Prop where
 up:X.s₀.heap.objs.size≤D
 nl:D≠X.env.locals
 nf:D∉X.fs
 cl:∀ x c,X.env.cells.lookup x=some c->c≠D
 pn:∀ p∈X.pn,p.1≠D
def PM (X:Cx){α:Type}(K:Acc α)(D:Addr)(m:Sem Unit)(t:TM α):Prop:=
 ∀ (pins:List (Addr×Obj)) (s:Shared) (σ:St) (H:Hp) (Q:α->St->Hp->Prop) (a:α) (o:Obj),K.ao a o->(∀ p∈pins,p.1≠D)->Inv X (pins++[(D,o)]) σ H s->t a σ H Q ->
  wpAny (model X.prog X.w) X.A m (λ_ s'=>∃ a' o' σ' H',K.ao a' o'∧Inv X (pins++[(D,o')]) σ' H' s'∧Q a' σ' H') X.xe s
def CGo {α:Type}(J:It)(g:TG)(tt:TT)(tm:TM α)(a:α)(σ:St)(H:Hp)(Q:α->St->Hp->Prop):Prop:=
 ∃ W:Nat->Nat->α->St->Hp->Prop,(∃ m,W 0 m a σ H)∧∀ i m a σ' H',W i m a σ' H' ->
  ((J.stop i H'∧Q a σ' H') ∨
   (J.go i H'∧∀ x H2,J.yld i H' x H2->g x σ' H2 fun σ3 H3=>tt σ3 H3 λb H4 =>
    if b=true then tm a σ3 H4 λa' σ5 H5=>∃ m',m'<m∧W (i+1) m' a' σ5 H5 else ∃ m',m'<m∧W (i+1) m' a σ3 H4))
section
variable {X:Cx} {α:Type} {K:Acc α} {D:Addr} {R:Result->Shared->Prop} {e:Expr} {gens:List Comprehension} {g:Comprehension} {depth:Nat} {step:Sem Unit} {tg:TG} {tt:TT} {tm:TM α}
theorem Inv.pins_sub {pins pins':List (Addr×Obj)}{σ:St}{H:Hp}{s:Shared}(I:Inv X pins σ H s)(h:∀ p∈pins',p∈pins):Inv X pins' σ H s:=I.pins_of λp hp=>I.pin p (As _ (h p hp))
theorem cgo (hc:IsC e gens)(hcalm:X.calm=true)(hx:X.xe=λ_ _=>False){it:Addr}(heq:compTurn e depth (.ref it) (.ref D) X.env=Ez g (.ref it) X.env step (.compLoop e depth (.ref it) (.ref D) X.env))
  (hg:PG X g.target tg) (ht:PF X g.ifs tt) (hm:PM X K D step tm) {J:It} {fp:List Addr} {tn:Nat->Heap->Prop} (T:Turn X.prog X.w X.K g.target J fp it tn)
  {pins:List (Addr×Obj)} {s:Shared} {σ:St} {H:Hp} {a:α} {o:Obj} {Q:α->St->Hp->Prop} (ao:K.ao a o) (I:Inv X (pins++[(D,o)]) σ H s) (st:tn 0 s.heap) (f:∀ b∈fp,GC X pins H b) (fD:∀ b∈fp,D≠b) (pD:∀ p∈pins,p.1≠D)
  (w:CGo J tg tt tm a σ H Q) (fin:∀ s' a' o' σ' H',K.ao a' o'->Inv X (pins++[(D,o')]) σ' H' s'->Q a' σ' H'->R (.ok .next) s') :
  codeAny (model X.prog X.w) X.A (.compLoop e depth (.ref it) (.ref D) X.env) R s:=by
 obtain ⟨W,⟨m0,w0⟩,turn⟩:=w
 have stat:∀ {H':Hp} (o':Obj),(∀ b∈fp,H' b=none)->∀ b∈fp,GC X (pins++[(D,o')]) H' b:=λ{H'} o' hn b hb=>by
  obtain ⟨_,f1,f2,f3,f4,f5⟩:=f b hb
  refine ⟨hn b hb,f1,f2,f3,f4,λp hp=>?_⟩
  rcases AA.mp hp with z|z
  ·exact f5 p (AK _ z)
  ·rcases AA.mp z with z|z
   ·exact f5 p (As _ z)
   ·rw [Aq.mp z];exact fD b hb
 refine Vd hc heq (λn s'=>∃ i a o σ' H',K.ao a o∧Inv X (pins++[(D,o)]) σ' H' s'∧tn i s'.heap∧(∀ b∈fp,H' b=none)∧W i n a σ' H') ?_ m0 ⟨0,a,o,σ,H,ao,I,st,λb hb=>(f b hb).1,w0⟩
 rintro n s3 ⟨i,a3,o3,σ3,H3,ao3,I3,st3,fr3,w3⟩
 rcases turn i n a3 σ3 H3 w3 with ⟨stop,qn⟩|⟨go,stp⟩
 ·refine thn (T.done X rfl rfl rfl hcalm i _ s3 σ3 H3 (λ_ _=>False) I3 (stat o3 fr3) st3 stop) λr s4 ⟨hr,I4⟩=>?_
  subst hr
  exact fin s4 a3 o3 σ3 H3 ao3 I4 qn
 ·refine thn (T.item X rfl rfl rfl hcalm i _ s3 σ3 H3 (λ_ _=>False) I3 (stat o3 fr3) st3 go) λr s4 ⟨u,hr,h4⟩=>?_
  subst hr
  refine thn h4 λ_ s5 ⟨x,H5,I5,r5,y5,st5,fr5⟩=>?_
  have I5':=I5.pinned (stat o3 fr5) (T.obj _ _ st5)
  have a1:=hg _ s5 σ3 H5 x u _ I5' r5 (stp x H5 y5)
  rw [hx] at a1
  refine thn a1 λ_ s6 ⟨σ6,H6,I6,q6⟩=>?_
  have b1:=ht _ s6 σ6 H6 _ I6 q6
  rw [hx] at b1
  refine thn b1 λok s7 ⟨H7,I7,q7⟩=>?_
  have keep:∀ {s':Shared} {pl:List (Addr×Obj)} {σ':St} {H':Hp},Inv X pl σ' H' s'->(∀ p∈F0 fp s5.heap,p∈pl)->tn (i+1) s'.heap∧∀ b∈fp,H' b=none:=λ{s' pl σ' H'} J' hs=>by
   refine ⟨T.keep _ _ _ st5 λb hb o e=>(J'.pin (b,o) (As _ (hs _ (E5 hb e)))).1,λb hb=>?_⟩
   obtain ⟨o,e,_⟩:=T.obj _ _ st5 b hb
   exact (J'.pin (b,o) (As _ (hs _ (E5 hb e)))).2.1
  cases ok with
  | false =>
   rw [if_neg AQ] at q7 ⊢
   obtain ⟨m',hm',w7⟩:=q7
   obtain ⟨k1,k2⟩:=keep I7 λp hp=>As _ hp
   exact ⟨m',hm',i+1,a3,o3,σ6,H7,ao3,I7.unpinned,k1,k2,w7⟩
  | true =>
   rw [if_pos rfl] at q7 ⊢
   have I8:Inv X ((pins++F0 fp s5.heap)++[(D,o3)]) σ6 H7 s7:=I7.pins_sub λp hp=>by
    simp only [AA] at hp ⊢
    rcases hp with (z|z)|z
    ·exact .inl (.inl z)
    ·exact .inr z
    ·exact .inl (.inr z)
   have c1:=hm (pins++F0 fp s5.heap) s7 σ6 H7 _ a3 o3 ao3 (λp hp=>by
    rcases AA.mp hp with z|z
    ·exact pD p z
    ·exact Ne.symm (fD p.1 (Ie z).1)) I8 q7
   rw [hx] at c1
   refine thn c1 λ_ s9 ⟨a9,o9,σ9,H9,ao9,I9,m',hm',w9⟩=>?_
   obtain ⟨k1,k2⟩:=keep I9 λp hp=>AK _ (As _ hp)
   exact ⟨m',hm',i+1,a9,o9,σ9,H9,ao9,I9.pins_sub λp hp=>by
    simp only [AA] at hp ⊢
    rcases hp with z|z
    ·exact .inl (.inl z)
    ·exact .inr z,k1,k2,w9⟩
theorem MN (hc:IsC e gens)(hcalm:X.calm=true)(hx:X.xe=λ_ _=>False){g2:Comprehension}{wi:TI}(hgn:gens[1]? = some g2)(ha:g2.is_async=0)(hi:PI X g2.target g2.iter wi)(hs:∀ x,foldedSetIterable g2.iter X.env x=pure x)
  (heq:∀ it,compTurn e 1 (.ref it) (.ref D) X.env=Ez g2 (.ref it) X.env step (.compLoop e 1 (.ref it) (.ref D) X.env))
  (hg:PG X g2.target tg) (ht:PF X g2.ifs tt) (hm:PM X K D step tm):PM X K D (deeper e g2.iter (.ref D) X.env) (λa σ H Q=>wi σ H λJ H1=>CGo J tg tt tm a σ H1 Q):=by
 intro pins s σ H Q a o ao pD I h
 unfold deeper
 refine Aa (thn (hi _ s σ H _ I h) λv s1 h1=>Aa (wpAny_standAt (Aa (wpAny_of_eq (hs v) (Aa (AS (thn h1 λitv s2 h2=>?_)))))))
 obtain ⟨it,fp,tn,J,H2,e2,I2,T,st2,f2,w⟩:=h2
 subst e2
 have f':∀ b∈fp,GC X pins H2 b:=λb hb=>by
  obtain ⟨f0,f1,f2,f3,f4,f5⟩:=f2 b hb
  exact ⟨f0,f1,f2,f3,f4,λp hp=>f5 p (by rcases AA.mp hp with z|z;exact AK _ z;exact As _ (AK _ z))⟩
 have fD:∀ b∈fp,D≠b:=λb hb=>(f2 b hb).2.2.2.2.2 (D,o) (As _ (As _ (Aq.mpr rfl)))
 refine Aa (wpAny_runOwn ?_)
 have loop:codeAny (model X.prog X.w) X.A (.compLoop e 1 (.ref it) (.ref D) X.env) (λr s'=>match r with|.ok f=>wpAny (model X.prog X.w) X.A (pure PUnit.unit) (λ_ s'=>∃ a' o' σ' H',K.ao a' o'∧Inv X (pins++[(D,o')]) σ' H' s'∧Q a' σ' H') X.xe s'|.error e=>cameBackBy (model X.prog X.w) X.A X.env X.xe e s') s2:=
  cgo hc hcalm hx (heq it) hg ht hm T ao I2 st2 f' fD pD w λs' a' o' σ' H' ao' I' q'=>Ac ⟨a',o',σ',H',ao',I',q'⟩
 exact NB hc hgn ha loop (T.self _ 0 _ _ _ st2 loop)
end
section
variable {X:Cx} {α:Type} {scope:Scope} {fv:List (Nat×Str)}
theorem JH {pins:List (Addr×Obj)}{σ:St}{H:Hp}{s:Shared}{fp:List Addr}{cl:List (Str×Addr)}{h₁:Heap}{own:List Str}{o0:Obj}(I:Inv X pins σ H s)(L:JP X scope fv)(hf:∀ b∈fp,GC X pins H b)(hfo:∀ b∈fp,∃ o,s.heap.get? b=some o)
  (hsub:∀ x c,cl.lookup x=some c->X.env.cells.lookup x=some c) (hhas:∀ y∈scope.names,y.2=.free->∃ c,cl.lookup y.1=some c)
  (hns:h₁.Ns (s.heap.objs.size+1) (λx=>([]:List (Str×Value)).reverse.lookup x)) (hold:∀ b o,s.heap.get? b=some o->h₁.get? b=some o) (hD:h₁.get? s.heap.objs.size=some o0) (nc0:∀ v,o0.data≠.cell v) {tk:Nat} :
  Inv (Cf X scope (own++fv.map (·.2)) cl (s.heap.objs.size+1) s H fp) [(s.heap.objs.size,o0)] (st0 own.length fv σ) H { s with heap:=h₁,toks:=tk }:=by
 have nst:∀ b,s.heap.objs.size≤b->b∉frs X.stack:=λb hb hm=>by
  rcases AH.mp (I.stkSub b hm) with e|e
  ·exact absurd I.lt (by rw [← e];exact Nat.not_lt.mpr hb)
  ·exact I.nofs hb e
 have fpst:∀ b∈fp,b∉frs X.stack:=λb hb hm=>by
  obtain ⟨_,f1,f2,_⟩:=hf b hb
  rcases AH.mp (I.stkSub b hm) with e|e
  ·exact f1 e
  ·exact f2 e
 have celllt:∀ x c,cl.lookup x=some c->c<s.heap.objs.size:=λx c e=>by
  obtain ⟨v,z⟩:=I.cell x c (hsub x c e)
  exact z.lt
 refine ⟨⟨I.ok.mod,L.kind,I.ok.glob,I.ok.blt,Nat.le_succ _,λx y c h1 h2=>I.ok.inj x y c (hsub _ _ h1) (hsub _ _ h2),λx hx=>hhas (x,.free) (GS L.cell hx) rfl,λ_ _ z=>Bool.noConfusion z,I.ok.hd,I.ok.frames,.inl rfl,
   λb hb=>⟨?_,λx c e z=>?_⟩,I.bs,AM I.ok.bsz I.sz,λb o e hb=>?_,fpst,I.stack,I.stkFree⟩,
  rfl,I.bare,Un.kept hold,⟨_,hns,λi x v e1 e2 e3=>?_⟩,λx c e=>?_,I.hok.fresh (Nat.le_succ _),λx c e=>I.freeC x c (hsub x c e),λp hp=>?_,I.hok.kept hold,?_⟩
 ·obtain ⟨o,e⟩:=hfo b hb
  exact AJ (By (Ax e))
 ·exact (hf b hb).2.2.2.2.1 x c (hsub x c e) z
 ·obtain ⟨_,_,_,f3,_⟩:=hf b hb
  rcases f3 with f3|f3
  ·exact I.ok.noex b o e f3
  ·exact absurd (AD (Ax e) (AM I.ok.bsz f3)) (Bq _)
 ·have e1':(own++fv.map (·.2))[i]? = some x:=e1
  unfold st0 at e2
  by_cases hi:i<own.length
  ·rw [Ai (by simpa using hi),BG] at e2
   split at e2<;>cases e2
  ·rw [AX (by simpa using hi),List.length_replicate,Ar] at e2
   rw [AX (by simpa using hi),Ar] at e1'
   cases hp:fv[i-own.length]? with
   | none=>rw [hp] at e1';cases e1'
   | some p =>
    rw [hp] at e1' e2
    have ex:p.2=x:=AB e1'
    have ev:σ.getD p.1 none=some v:=AB e2
    obtain ⟨q1,q2,q3⟩:=L.fv.get hp
    rw [ex] at q1 q2 q3
    have hσ:σ[p.1]? = some (some v):=by
     rw [AG] at ev
     cases q:σ[p.1]? with
     | none=>rw [q] at ev;cases ev
     | some w=>rw [q] at ev;exact congrArg some ev
    obtain ⟨m,_,hl⟩:=I.loc
    obtain ⟨u,r,l⟩:=hl p.1 x v q1 hσ (by rcases q2 with z|z;exact .inr (.inl z);exact .inr (.inr z))
    refine ⟨u,r,.inr ⟨q3,?_⟩⟩
    rcases l with ⟨k,_⟩|⟨_,c,ec,z⟩
    ·exfalso
     have k':X.env.scope.names.lookup x=some .local:=k
     rcases q2 with z|z<;>rw [k'] at z<;>cases z
    ·obtain ⟨c',ec'⟩:=hhas (x,.free) (GS L.cell q3) rfl
     have:c'=c:=AB ((hsub x c' ec').symm.trans ec)
     subst this
     obtain ⟨o,ho,hd⟩:=z
     exact ⟨c',ec',o,hold _ _ ho,hd⟩
 ·obtain ⟨v,o,ho,hd⟩:=I.cell x c (hsub x c e)
  exact ⟨v,o,hold _ _ ho,hd⟩
 ·have e:p=(s.heap.objs.size,o0):=by simpa [Cf] using hp
  subst e
  exact ⟨hD,I.hok.fresh (Ak _),AJ (Bm _),nst _ (Ak _),nc0⟩
 ·show (st0 own.length fv σ).length=(own++fv.map (·.2)).length
  unfold st0
  simp
structure JV (α:Type) extends Acc α where
 cls:String
 d0:Data
 a0:α
 ao0:ao a0 { cls:=.type cls,dict:=none,data:=d0 }
 fin:α->Prop
 ho:Addr->α->HO
 sz:sizeOk d0
 fr:({ cls:=.type cls,dict:=none,data:=d0 }:Obj).isFreed=false
 lay:∀ (P:Program) (w:World) (H:Hp) (h:Heap) (D:Addr) (a:α) (o:Obj),ao a o->fin a->h.get? D=some o->sysModules<D->ObjOk P w (upd H D (ho D a)) h D (ho D a)
def tCo (wi:TI)(nc:Nat)(fv:List (Nat×Str))(B:JV α)(g:TG)(tt:TT)(tm:TM α):TE:=fun σ H Q=>wi σ H λJ H1=>CGo J g tt tm B.a0 (st0 nc fv σ) H1 λa _ H'=>B.fin a∧∀ p,H' p=none->Q (.ref p) (upd H' p (B.ho p a))
theorem G3 {e:Expr}{gens:List Comprehension}{g:Comprehension}{rest:List Comprehension}{own:List Str}{wi:TI}{B:JV α}{tg:TG}{tt:TT}{tm:TM α}{step:Addr->Addr->List (Str×Addr)->Sem Unit}{pos2:Pos}{newAcc:Sem Value}
  {pins:List (Addr×Obj)} {s:Shared} {σ:St} {H:Hp} {Q:VK} {use:Option (Value->Sem Unit)} {Qc:Value->Shared->Prop} (hc:IsC e gens) (hgens:gens=g::rest) (ha:g.is_async=0) (hnew:newAcc=newObj (.type B.cls) B.d0) (L:JP X scope fv) (hi:PI X g.target g.iter wi)
  (heq:∀ it cl C D,compTurn e 0 (.ref it) (.ref D) (compEnvC scope cl C X.env)=Ez g (.ref it) (compEnvC scope cl C X.env) (step D C cl) (.compLoop e 0 (.ref it) (.ref D) (compEnvC scope cl C X.env)))
  (hg:∀ cl C s₁ H₁ fp,PG (Cf X scope (own++fv.map (·.2)) cl C s₁ H₁ fp) g.target tg)
  (ht:∀ cl C s₁ H₁ fp,PF (Cf X scope (own++fv.map (·.2)) cl C s₁ H₁ fp) g.ifs tt)
  (hm:∀ cl C s₁ H₁ fp D,DOk (Cf X scope (own++fv.map (·.2)) cl C s₁ H₁ fp) D->PM (Cf X scope (own++fv.map (·.2)) cl C s₁ H₁ fp) B.toAcc D (step D C cl) tm)
  (hs:∀ x,foldedSetIterable g.iter X.env x=pure x) (hb:∀ {s2:Shared} {H2:Hp},Inv X pins σ H2 s2->sysModules<s2.heap.objs.size) (I:Inv X pins σ H s) (h:tCo wi own.length fv B tg tt tm σ H Q)
  (fin:∀ (s6:Shared) (H':Hp) (D C:Addr) (m:Str->Option Value),Inv X pins σ H' s6->GC X pins H' C->s6.heap.Ns C m->Q (.ref D) H'->compPost (model X.prog X.w) X.A X.xe use Qc (.ref D) C (.ok .next) s6) :
  wpAny (model X.prog X.w) X.A (comprehension e scope X.env pos2 newAcc false (eval g.iter X.env) use) Qc X.xe s:=by
 obtain ⟨cl,hclos,hsub,hhas⟩:=K9 (scope:=scope) (env:=X.env) λy hy hf=>I.ok.has y.1 (L.free y hy hf)
 have hcl:clausesOf e=g::rest:=by subst hgens;cases hc<;>rfl
 refine wpAny_comprehension_free (use:=use) hcl hs hclos L.kind L.names (thn (hi pins s σ H _ I h) λv s1 h1=>thn h1 λitv s2 h2=>?_)
 obtain ⟨it,fp,tn,J,H2,e2,I2,T,st2,f2,w⟩:=h2
 subst e2
 have hfo:∀ b∈fp,∃ o,s2.heap.get? b=some o:=λb hb=>let ⟨o,e,_⟩:=T.obj _ _ st2 b hb;⟨o,e⟩
 rw [hnew]
 refine A3 (hd:=B.sz) (wpAny_newFunctionEnv L.cell (by intro y hy;simp at hy) (λh₁ hns₁ hsb₁=>?_) L.kind)
 dsimp only at hns₁ hsb₁ ⊢
 have hCe:(s2.heap.push { cls:=.type B.cls,dict:=none,data:=B.d0 }).objs.size=s2.heap.objs.size+1:=Heap.size_push _ _
 rw [hCe] at hns₁ hsb₁ ⊢
 have old:∀ b o,s2.heap.get? b=some o->h₁.get? b=some o:=λb o e=>hsb₁.extBut b o (AJ (By (Ax e))) (Af _ (Af _ e))
 have hD₁:h₁.get? s2.heap.objs.size=some { cls:=.type B.cls,dict:=none,data:=B.d0 }:=hsb₁.extBut _ _ (AJ (Bm _)) (Af _ (Av _ B.fr))
 have I4:=JH (own:=own) (tk:=s2.toks+([]:List (Str×Value)).length) I2 L f2 hfo hsub hhas hns₁ old hD₁ (B.nc _ _ B.ao0)
 have st4:tn 0 h₁:=T.keep _ _ _ st2 λb _ o e=>old b o e
 have celllt:∀ x c,cl.lookup x=some c->c<s2.heap.objs.size:=λx c e=>by
  obtain ⟨v,z⟩:=I2.cell x c (hsub x c e)
  exact z.lt
 have nst:s2.heap.objs.size∉frs X.stack:=λhm=>by
  rcases AH.mp (I2.stkSub _ hm) with e|e
  ·exact absurd I2.lt (by rw [← e];exact Bq _)
  ·exact I2.nofs (Ak _) e
 have dk:DOk (Cf X scope (own++fv.map (·.2)) cl (s2.heap.objs.size+1) s2 H2 fp) s2.heap.objs.size:=⟨Ak _,AJ (Bm _),nst,λx c e=>AJ (celllt x c e),λp hp=>nomatch hp⟩
 have fpok:∀ b∈fp,GC (Cf X scope (own++fv.map (·.2)) cl (s2.heap.objs.size+1) s2 H2 fp) [] H2 b:=λb hb=>by
  obtain ⟨o,eo⟩:=hfo b hb
  have blt:=Ax eo
  refine ⟨(f2 b hb).1,AJ (By blt),λhm=>?_,.inl hb,λx c e=>(f2 b hb).2.2.2.2.1 x c (hsub x c e),λp hp=>?_⟩
  ·obtain ⟨_,f1,f3,_⟩:=f2 b hb
   rcases AH.mp (I2.stkSub b hm) with e|e
   ·exact f1 e
   ·exact f3 e
  ·have hp':p∈([]:List (Addr×Obj)):=by simpa [Cf] using hp
   cases hp'
 have fD:∀ b∈fp,s2.heap.objs.size≠b:=λb hb=>by
  obtain ⟨o,eo⟩:=hfo b hb
  exact Nat.ne_of_gt (Ax eo)
 have big:sysModules<s2.heap.objs.size:=hb I2
 have loop:=cgo (X:=Cf X scope (own++fv.map (·.2)) cl (s2.heap.objs.size+1) s2 H2 fp) (R:=compPost (model X.prog X.w) X.A X.xe use Qc (.ref s2.heap.objs.size) (s2.heap.objs.size+1)) (pins:=[]) hc L.calm rfl (heq it cl (s2.heap.objs.size+1) s2.heap.objs.size) (hg cl (s2.heap.objs.size+1) s2 H2 fp) (ht cl (s2.heap.objs.size+1) s2 H2 fp) (hm cl (s2.heap.objs.size+1) s2 H2 fp _ dk) T B.ao0 I4 st4 fpok fD (λp hp=>nomatch hp) w
  λs6 a6 o6 σ6 H6 ao6 I6 q6=>by
   obtain ⟨qf,qn⟩:=q6
   obtain ⟨m,hn,_⟩:=I6.loc
   obtain ⟨eD,nD,_⟩:=I6.pin (s2.heap.objs.size,o6) (As _ (Aq.mpr rfl))
   have nC:H6 (s2.heap.objs.size+1)=none:=I6.free
   have U:Un (frs X.stack) fp H2 H6 s2.heap s6.heap:=I6.base
   have ok6:HOk X.prog X.w H6 s6.heap:=I6.hok
   have J6:Inv X pins σ (upd H6 s2.heap.objs.size (B.ho s2.heap.objs.size a6)) s6:=I2.call' (s':=s6) I6.os (U.lay (Ak _) nD) (ok6.lay nD (B.lay _ _ _ _ _ _ _ ao6 qf eD big)) I6.bare λb hb=>by
    obtain ⟨_,f1,_,f3,f4,f5⟩:=f2 b hb
    exact ⟨f3,f1,f4,f5⟩
   exact fin s6 _ _ _ m J6 (I2.fpOk (Nat.le_succ _) (by rw [Cn (Nat.ne_of_gt (Bm _))];exact nC)) hn (qn _ nD)
 exact NB hc (by rw [hgens];rfl) ha loop (T.self _ 0 _ _ _ st4 loop)
end
noncomputable def M0:JV (List V) where
 ao:=λys o=>∃ its k,o={ cls:=.type "list",data:=.seq its k }∧Vals ys its.toList
 nc:=λa o h v z=>by obtain ⟨its,k,rfl,_⟩:=h;cases z
 cls:="list"
 d0:=.seq ([]:List Value).toArray
 a0:=[]
 ao0:=⟨#[],0,rfl,.nil⟩
 fin:=λys=>ys.length≤sizeLine
 ho:=λ_ ys=>.lst ys
 sz:=by size_fits
 fr:=rfl
 lay:=λP w H h D a o ao hf hD _=>by
  obtain ⟨its,k,rfl,r⟩:=ao
  exact ⟨hf,its.toList,k,r,by simpa using hD⟩
section
variable {X:Cx} {D:Addr}
theorem Lz {elt:Expr}{te:TE}(dk:DOk X D)(he:PE X elt te):PM X M0.toAcc D (Ib elt (.ref D) X.env) (λa σ H Q=>te σ H λv H'=>a.length≤sizeLine∧Q (a++[v]) σ H'):=by
 intro pins s σ H Q a o ao pD I h
 unfold Ib
 refine Aa (thn (he _ s σ H _ I h) λu s1 ⟨y,H1,I1,r1,hl,q1⟩=>?_)
 obtain ⟨its,k,rfl,r⟩:=ao
 obtain ⟨e1,n1,l1,f1,_⟩:=I1.pin (D,_) (As _ (As _ (Aq.mpr rfl)))
 have hz:its.size≤sizeLine:=by
  have e:=r.length
  simp only [Array.length_toList] at e
  ext
 refine Aa (wpAny_list_append_plain (hsz:=hz) ⟨k,e1⟩ λh' hl' sb=>Ac ?_)
 obtain ⟨k',hk'⟩:=hl'
 have I2:Inv X pins σ H1 { s1 with heap:=h' }:=(I1.pins_sub λp hp=>AK _ hp).turned (t':=s1.toks) (it:=D) (λb o hb e=>(sb.2 b hb).trans e) n1 dk.nl (.inr dk.up) dk.cl λp hp=>by
  rcases AA.mp hp with z|z
  ·exact dk.pn p z
  ·exact pD p z
 refine ⟨a++[y],_,σ,H1,⟨its.push u,k',rfl,?_⟩,I2.pins_of λp hp=>?_,q1⟩
 ·rw [BJ]
  exact r.append (.cons r1 .nil)
 ·rcases AA.mp hp with z|z
  ·exact I2.pin p (As _ z)
  ·rw [Aq.mp z]
   exact ⟨hk',n1,l1,f1,λv z=>by cases z⟩
end
end L2
namespace PV
open PySem L2 PySem.Spec PyProof.Rows
abbrev Mx (β:Type):=β->Ro->Sto->Rs β
noncomputable def cGo {β:Type}(g:Option Nat)(m0:Sto)(tg:Gx)(tt:Tx)(st:Mx β)(ro:Ro):List D->β->Sto->Rs β
 | [],b,mu=>some (b,mu)
 | d::ds,b,mu=>bM (tg d ro mu) λro1 m1=>bM (tt ro1 m1) λc m2 =>
  if c=true then bM (st b ro1 m2) λb' m3=>Dd g m0 m3 (cGo g m0 tg tt st ro ds b' m3) else Dd g m0 m2 (cGo g m0 tg tt st ro ds b m2)
def stL (el:Ex):Mx (List D):=λb ro mu=>bM (el ro mu) λy m=>if b.length<sizeLine then some (b++[y],m) else none
def stI {β:Type}(i:Ix)(tg:Gx)(tt:Tx)(st:Mx β):Mx β:=λb ro mu=>bM (i ro mu) λp m=>cGo p.2 m tg tt st ro p.1 b m
def eCo {β:Type}(i:Ix)(nc:Nat)(fvs:List Nat)(tg:Gx)(tt:Tx)(st:Mx β)(b0:β)(fin:β->Sto->D×Sto):Ex:=λro mu=>bM (i ro mu) λp m1=>bM (cGo p.2 m1 tg tt st (r0 nc fvs ro) p.1 b0 m1) λb m2=>some (fin b m2)
noncomputable def finL (b:List D)(mu:Sto):D×Sto:=(.lst b,mu)
def GOw (lo hi:Nat)(tg:Gx):Prop:=∀ d ro mu ro' mu',tg d ro mu=some (ro',mu')->ro'.length=ro.length∧∀ i,i<lo∨hi≤i->ro'[i]? = ro[i]?
theorem JX {lo hi i:Nat}(h1:lo≤i:=by decide)(h:i<hi:=by decide):GOw lo hi (gNm i):=λd ro mu ro' mu' e=>by
 cases e
 exact ⟨by simp,λj hj=>Aw (by ext)⟩
def rdM (K:Zc){α β:Type}(rp:List Addr->Hp->β->α->Prop)(ok:Ro->Prop)(st:Mx β):TM α:=λa σ H Q=>∃ th mu ro b,StoOk K th mu H∧EnvOk K th H ro σ∧ok ro∧rp th H b a ∧
 Tr K th H (st b ro mu) λb' th' _ H'=>∀ a' σ',EnvOk K th' H' ro σ'->rp th' H' b' a'->Q a' σ' H'
def RpX {α β:Type}(rp:List Addr->Hp->β->α->Prop):Prop:=∀ {th:List Addr} {H:Hp} {th':List Addr} {H':Hp} {b:β} {a:α},Ext th H th' H'->F2 th H->rp th H b a->rp th' H' b a
def rpL (K:Zc)(th:List Addr)(H:Hp)(zs:List D)(ys:List V):Prop:=RepL K th H zs ys∧zs.length≤sizeLine
section
variable {X:Cx} {K:Zc} {th:List Addr} {mu:Sto} {H:Hp} {α β:Type} {rp:List Addr->Hp->β->α->Prop} {ok:Ro->Prop} {st:Mx β} {tg:Gx} {tt:Tx}
theorem Ld:RpX (rpL K):=λe t ⟨h1,h2⟩=>⟨h1.ext e t,h2⟩
theorem K5 {lo hi:Nat}(ow:GOw lo hi tg)(rx:RpX rp){ro:Ro}(hro:∀ i d,ro[i]? = some (some d)->i<lo∨hi≤i)(hok:∀ d mu ro' mu',tg d ro mu=some (ro',mu')->ok ro'){J:It}{ds:List D}{gd:Option Nat}{a:α}{b:β}{σ:L2.St}{Q:α->L2.St->Hp->Prop}
  (io:MX K J th mu H ds gd) (so:StoOk K th mu H) (en:EnvOk K th H ro σ) (r:rp th H b a) (t:Tr K th H (cGo gd mu tg tt st ro ds b mu) λb' th' _ H'=>∀ a' σ',EnvOk K th' H' ro σ'->rp th' H' b' a'->Q a' σ' H') :
  CGo J (rdG K tg) (rdT K tt) (rdM K rp ok st) a σ H Q:=by
 refine ⟨λk n a' σ' H'=>n=ds.length-k∧k≤ds.length∧∃ th' mu' b',StoOk K th' mu' H'∧EnvOk K th' H' ro σ'∧Ext th H th' H'∧gOk gd mu mu'∧rp th' H' b' a' ∧
  Tr K th' H' (cGo gd mu tg tt st ro (ds.drop k) b' mu') λb' th' _ H'=>∀ a' σ',EnvOk K th' H' ro σ'->rp th' H' b' a'->Q a' σ' H',⟨_,rfl,AW _,th,mu,b,so,en,.refl _ _,?_,r,t⟩,?_⟩
 ·cases gd with
  | none=>exact True.intro
  | some k=>exact rfl
 rintro k n a2 st2 H2 ⟨rfl,hk,th2,mu2,b2,s2,en2,e2,g2,r2,t2⟩
 by_cases lt:k<ds.length
 ·refine .inr ?_
  have ek:ds[k]? = some ds[k]:=by simp
  obtain ⟨a1,a3⟩:=io.go th2 mu2 H2 e2 s2 g2 k ds[k] ek
  refine ⟨a1,λx H3 y=>?_⟩
  obtain ⟨e3,s3,r3⟩:=a3 x H3 y
  rw [Bn lt] at t2
  unfold cGo at t2
  refine ⟨th2,mu2,ro,ds[k],s3,en2.ext e3 s2.out,r3,?_⟩
  refine (t2.ahead e3).bindE.mono λro1 th4 mu4 H4 e4 s4 t4 st4 en4=>?_
  obtain ⟨eq4,t4⟩:=t4
  obtain ⟨ol,ow'⟩:=ow _ _ _ _ _ eq4
  have back:∀ {th' H' σ'},EnvOk K th' H' ro1 σ'->EnvOk K th' H' ro σ':=λ{th' H' σ'} en'=>by
   refine ⟨by rw [← ol];exact en'.1,λi d e=>?_⟩
   exact en'.2 i d (by rw [ow' i (hro i d e)];exact e)
  refine ⟨th4,mu4,ro1,s4,en4,t4.bind.mono λc th5 mu5 H5 e5 s5 t5=>?_⟩
  have e14:Ext th H th5 H5:=((e2.trans e3).trans e4).trans e5
  have r5:rp th5 H5 b2 a2:=rx ((e3.trans e4).trans e5) s2.out r2
  cases c with
  | false =>
   obtain ⟨a,mu',q1,q2⟩:=t5
   obtain ⟨go5,q1⟩:=D9 q1
   exact ⟨ds.length-(k+1),by ext,rfl,lt,th5,mu5,b2,s5,back (en4.ext e5 s4.out),e14,go5,r5,a,mu',q1,q2⟩
  | true =>
   refine ⟨th5,mu5,ro1,b2,s5,en4.ext e5 s4.out,hok _ _ _ _ eq4,r5,Tr.mono (Tr.bind t5) λb6 th6 mu6 H6 e6 s6 t6 a6 σ6 en6 r6=>?_⟩
   obtain ⟨a,mu',q1,q2⟩:=t6
   obtain ⟨go6,q1⟩:=D9 q1
   exact ⟨ds.length-(k+1),by ext,rfl,lt,th6,mu6,b6,s6,back en6,e14.trans e6,go6,r6,a,mu',q1,q2⟩
 ·have e:k=ds.length:=by ext
  subst e
  rw [List.drop_length] at t2
  unfold cGo at t2
  exact .inl ⟨io.stop th2 mu2 H2 e2 s2 g2,t2.ret s2 a2 st2 en2 r2⟩
theorem Nx {el:Ex}{a:List V}{σ:L2.St}{Q:List V->L2.St->Hp->Prop}(h:rdM K (rpL K) ok (stL el) a σ H Q):rdE K el σ H λv H'=>a.length≤sizeLine∧Q (a++[v]) σ H':=by
 obtain ⟨th,mu,ro,b,so,en,_,⟨r,hz⟩,t⟩:=h
 refine ⟨th,mu,ro,so,en,t.bind.mono λy th1 mu1 H1 e1 s1 t1 v rv=>?_⟩
 by_cases c:b.length<sizeLine
 ·rw [if_pos c] at t1
  exact ⟨by rw [r.len];exact hz,t1.ret s1 _ _ (en.ext e1 so.out) ⟨(r.ext e1 so.out).app (.cons rv .nil),by rw [An];exact c⟩⟩
 ·rw [if_neg c] at t1
  exact t1.no.elim
theorem SK {i:Ix}{lo hi:Nat}(ow:GOw lo hi tg)(rx:RpX rp)(hl:∀ ro,ok ro->∀ i d,ro[i]? = some (some d)->i<lo∨hi≤i){a:α}{σ:L2.St}{Q:α->L2.St->Hp->Prop}(h:rdM K rp ok (stI i tg tt st) a σ H Q):rdI K i σ H λJ H1=>CGo J (rdG K tg) (rdT K tt) (rdM K rp (λ_=>True) st) a σ H1 Q:=by
 obtain ⟨th,mu,ro,b,so,en,o,r,t⟩:=h
 refine ⟨th,mu,ro,so,en,t.bind.mono λp th1 mu1 H1 e1 s1 t1 J io=>?_⟩
 exact K5 (rp:=rp) ow rx (hl ro o) (λ_ _ _ _ _=>True.intro) io s1 (en.ext e1 so.out) (rx e1 so.out r) t1
def L1 (K:Zc)(B:JV α)(rp:List Addr->Hp->β->α->Prop)(fin:β->Sto->D×Sto):Prop:=∀ {th:List Addr} {mu:Sto} {H:Hp} {b:β} {a:α},StoOk K th mu H->rp th H b a->B.fin a∧∀ p,H p=none ->
 ∃ th',Ext th H th' (upd H p (B.ho p a))∧StoOk K th' (fin b mu).2 (upd H p (B.ho p a))∧Rep K th' (upd H p (B.ho p a)) (fin b mu).1 (.ref p)
theorem LN:L1 K M0 (rpL K) finL:=λ{th mu H b a} so ⟨r,hz⟩=>⟨by show a.length≤sizeLine;rw [r.len];exact hz,λp hp=>⟨th,.new hp _,so.new hp _,Rep.newLst so hp r hz⟩⟩
theorem Ts {i:Ix}{nc hi:Nat}{fv:List (Nat×Str)}{B:JV α}{b0:β}{fin:β->Sto->D×Sto}{σ:L2.St}{Q:VK}(hn:hi≤nc)(ow:GOw 0 hi tg)(rx:RpX rp)(f:L1 K B rp fin)(r00:∀ th H,rp th H b0 B.a0)
  (hok:∀ ro d mu ro' mu',(∀ i,i<nc->∀ d,ro[i]?≠some (some d))->tg d ro mu=some (ro',mu')->ok ro')
  (h:rdE K (eCo i nc (fv.map (·.1)) tg tt st b0 fin) σ H Q):tCo (rdI K i) nc fv B (rdG K tg) (rdT K tt) (rdM K rp ok st) σ H Q:=by
 obtain ⟨th,mu,ro,so,en,t⟩:=h
 refine ⟨th,mu,ro,so,en,t.bind.mono λp th1 mu1 H1 e1 s1 t1 J io=>?_⟩
 have hno:∀ i,i<nc->∀ d,(r0 nc (fv.map (·.1)) ro)[i]?≠some (some d):=λi hi d e=>absurd (Hq e) (Nat.not_le.mpr hi)
 refine K5 (rp:=rp) ow rx (λi d e=>.inr (AM hn (Hq e))) (λd mu ro' mu' e=>hok _ d mu ro' mu' hno e) io s1 (JJ (en.ext e1 so.out)) (r00 _ _) (t1.bind.mono λb th2 mu2 H2 e2 s2 t2 a2 σ2 en2 r2=>?_)
 obtain ⟨f1,f2⟩:=f s2 r2
 refine ⟨f1,λq hq=>?_⟩
 obtain ⟨th3,x3,s3,r3⟩:=f2 q hq
 exact t2.retX x3 s3 _ r3
end
section
variable {X:Cx} {α β:Type} {scope:Scope} {e:Expr} {gens rest:List Comprehension} {g:Comprehension} {newAcc:Sem Value} {pos2:Pos} {B:JV α} {rp:List Addr->Hp->β->α->Prop} {ok:Ro->Prop} {st:Mx β} {tg:Gx} {tt:Tx} {b0:β} {fin:β->Sto->D×Sto} {i:Ix} {step:Addr->Addr->List (Str×Addr)->Sem Unit}
theorem PM.weak {K:Acc α}{D:Addr}{m:Sem Unit}{t t':TM α}(h:PM X K D m t)(f:∀ a σ H Q,t' a σ H Q->t a σ H Q):PM X K D m t':=λpins s σ H Q a o ao pD I q=>h pins s σ H Q a o ao pD I (f a σ H Q q)
structure NK (X:Cx) (scope:Scope) (own:List Str) (fv:List (Nat×Str)) (e:Expr) (gens:List Comprehension) (g:Comprehension) (rest:List Comprehension) (newAcc:Sem Value) (B:JV α) (rp:List Addr->Hp->β->α->Prop) (ok:Ro->Prop) (st:Mx β) (tg:Gx) (tt:Tx) (b0:β) (fin:β->Sto->D×Sto) (i:Ix)
  (step:Addr->Addr->List (Str×Addr)->Sem Unit):Prop where
 hc:IsC e gens
 hgens:gens=g::rest
 ha:g.is_async=0
 hnew:newAcc=newObj (.type B.cls) B.d0
 L:JP X scope fv
 hi:SVI X g.target g.iter i
 ow:GOw 0 own.length tg
 rx:RpX rp
 f:L1 X.z B rp fin
 r00:∀ th H,rp th H b0 B.a0
 hok:∀ ro d mu ro' mu',(∀ i,i<own.length->∀ d,ro[i]?≠some (some d))->tg d ro mu=some (ro',mu')->ok ro'
 heq:∀ it cl C D,compTurn e 0 (.ref it) (.ref D) (compEnvC scope cl C X.env)=Ez g (.ref it) (compEnvC scope cl C X.env) (step D C cl) (.compLoop e 0 (.ref it) (.ref D) (compEnvC scope cl C X.env))
 hg:∀ cl C s₁ H₁ fp,SVG (Cf X scope (own++fv.map (·.2)) cl C s₁ H₁ fp) g.target tg
 ht:∀ cl C s₁ H₁ fp,SVF (Cf X scope (own++fv.map (·.2)) cl C s₁ H₁ fp) g.ifs tt
 hm:∀ cl C s₁ H₁ fp D,DOk (Cf X scope (own++fv.map (·.2)) cl C s₁ H₁ fp) D->PM (Cf X scope (own++fv.map (·.2)) cl C s₁ H₁ fp) B.toAcc D (step D C cl) (rdM X.z rp ok st)
 hs:∀ x,foldedSetIterable g.iter X.env x=pure x
theorem Vk (own:List Str)(fv:List (Nat×Str))(j:Nat)(c:NK X scope own fv e gens g rest newAcc B rp ok st tg tt b0 fin i step){x:Str}{px spos:Pos}
  (hN:X.N.Nodup) (hix:X.N[j]? = some x) (hx:Loc X.env.scope x) (hf:X.fn x=true∨X.env.scope.names.lookup x=some .local)
  (hsw:swapsWith e (some (.Name x px)) spos.line X.env=pure true)
  (hev:evalThenUse e X.env (assign (.Name x px) X.env)=(do let _←comprehension e scope X.env pos2 newAcc false (eval g.iter X.env) (some (assign (.Name x px) X.env)))) :
  SVS X (.Assign [.Name x px] e spos) (Cu (eCo i own.length (fv.map (·.1)) tg tt st b0 fin) (gNm j)):=⟨λpins s σ H E I h=>by
 (rw [exec_Assign_Name_used _ _ _ _ hsw])
 refine Aa (wpAny_standAt (Aa ?_))
 rw [hev]
 have h':rdE X.z (eCo i own.length (fv.map (·.1)) tg tt st b0 fin) σ H λv H'=>E.nx (σ.set j (some v)) H':=by
  obtain ⟨th,mu,ro,so,en,t⟩:=h
  refine ⟨th,mu,ro,so,en,t.bind.mono λd th1 mu1 H1 e1 s1 t1 v rv=>?_⟩
  exact t1.ret s1 _ ((en.ext e1 so.out).set j rv)
 refine Aa (BL (G3 (use:=some (assign (.Name x px) X.env)) (Qc:=λ_ s'=>SP X pins E .next s') (own:=own) (fv:=fv) (B:=B) (tg:=rdG X.z tg) (tt:=rdT X.z tt) (tm:=rdM X.z rp ok st) (step:=step) (wi:=rdI X.z i) c.hc c.hgens c.ha c.hnew c.L c.hi.r c.heq (λcl C s₁ H₁ fp=>(c.hg cl C s₁ H₁ fp).r) (λcl C s₁ H₁ fp=>(c.ht cl C s₁ H₁ fp).r) c.hm c.hs (λI=>IK I) I
  (Ts (rp:=rp) (Ak _) c.ow c.rx c.f c.r00 c.hok h') λs6 H' D C m J6 fC nsC q=>?_) (λ_ s' hq=>Ac (Ac hq)) λ_ _ e=>e)
 obtain ⟨oC,es,ep,hoC,hdC,rC⟩:=id nsC
 have J7:L2.Inv X (pins++[(C,oC)]) σ H' s6:=J6.pins_of λp hp=>(AA.mp hp).elim (λz=>J6.pin p (As _ z)) λz=>by
  have e:p=(C,oC):=by simpa using z
  subst e
  obtain ⟨f0,f1,f2,_⟩:=fC
  exact ⟨hoC,f0,f1,f2,λv z=>by rw [hdC] at z;cases z⟩
 show wpAny _ X.A (assign (.Name x px) X.env (.ref D)) _ _ _
 refine wpAny_assign_Name (Ee J7 hN hix hx (show RelV (.ref D) (.ref D) from rfl) (λs8 I8=>?_) hf)
 have eC:=(I8.pin (C,oC) (As _ (As _ (Aq.mpr rfl)))).1
 refine ⟨m,⟨oC,es,ep,eC,hdC,rC⟩,λh' sb=>?_⟩
 exact ⟨_,H',(I8.unpinned).turnedL (ch:=[C]) (t':=s8.toks) (GH sb) (λb hb=>by rw [Aq.mp hb];exact fC),q⟩⟩
end
section
variable {X:Cx} {scope:Scope} {t1 i1 t2 i2 kx vx elt:Expr} {f1 f2:List Expr} {pos:Pos} {i j:Ix} {g g2:Gx} {tt tt2:Tx} {el kk vv:Ex} {fin:List D×List D->Sto->D×Sto}
def roN (lo hi:Nat)(ro:Ro):Prop:=∀ i d,ro[i]? = some (some d)->i<lo∨hi≤i
theorem Sd {n1 n:Nat}(ow:GOw 0 n1 g):∀ ro d mu ro' mu',(∀ i,i<n->∀ d,ro[i]?≠some (some d))->g d ro mu=some (ro',mu')->roN n1 n ro':=λro d mu ro' mu' hn e i d' e'=>by
 rcases Nat.lt_or_ge i n1 with h|h
 ·exact .inl h
 ·refine .inr (Nat.not_lt.mp λhlt=>?_)
  rw [(ow _ _ _ _ _ e).2 i (.inr h)] at e'
  exact hn i hlt d' e'
theorem Oe {n1 n:Nat}(ow:GOw 0 n1 g)(h:n1≤n):GOw 0 n g:=λd ro mu ro' mu' e=>⟨(ow _ _ _ _ _ e).1,λi hi=>(ow _ _ _ _ _ e).2 i (by ext)⟩
theorem Up (own:List Str)(n1:Nat)(hn1:n1≤own.length)(fv:List (Nat×Str))(L:JP X scope fv)(hi:SVI X t1 i1 i)(ow:GOw 0 n1 g)(ow2:GOw n1 own.length g2)
  (hg:∀ cl C s₁ H₁ fp,SVG (Cf X scope (own++fv.map (·.2)) cl C s₁ H₁ fp) t1 g)
  (ht:∀ cl C s₁ H₁ fp,SVF (Cf X scope (own++fv.map (·.2)) cl C s₁ H₁ fp) f1 tt)
  (hj:∀ cl C s₁ H₁ fp,SVI (Cf X scope (own++fv.map (·.2)) cl C s₁ H₁ fp) t2 i2 j)
  (hg2:∀ cl C s₁ H₁ fp,SVG (Cf X scope (own++fv.map (·.2)) cl C s₁ H₁ fp) t2 g2)
  (ht2:∀ cl C s₁ H₁ fp,SVF (Cf X scope (own++fv.map (·.2)) cl C s₁ H₁ fp) f2 tt2)
  (he:∀ cl C s₁ H₁ fp,SV (Cf X scope (own++fv.map (·.2)) cl C s₁ H₁ fp) elt el)
  (hs:∀ x,foldedSetIterable i1 X.env x=pure x:=by intro _;rfl) (hs2:∀ (env:Env) x,foldedSetIterable i2 env x=pure x:=by intro _ _;rfl) :
  NK X scope own fv (.ListComp elt [⟨t1,i1,f1,0⟩,⟨t2,i2,f2,0⟩] scope pos) [⟨t1,i1,f1,0⟩,⟨t2,i2,f2,0⟩] ⟨t1,i1,f1,0⟩ [⟨t2,i2,f2,0⟩] (newList []) M0 (rpL X.z) (roN n1 own.length) (stI j g2 tt2 (stL el)) g tt [] finL i
   (λD C cl=>deeper (.ListComp elt [⟨t1,i1,f1,0⟩,⟨t2,i2,f2,0⟩] scope pos) i2 (.ref D) (compEnvC scope cl C X.env)) where
 hc:=.l
 hgens:=rfl
 ha:=rfl
 hnew:=rfl
 L:=L
 hi:=hi
 ow:=Oe ow hn1
 rx:=Ld
 f:=LN
 r00:=λ_ _=>⟨.nil,AW _⟩
 hok:=Sd ow
 heq:=λ_ _ _ _=>OT
 hg:=hg
 ht:=ht
 hm:=λcl C s₁ H₁ fp D dk=>PM.weak (MN (X:=Cf X scope (own++fv.map (·.2)) cl C s₁ H₁ fp) (g2:=⟨t2,i2,f2,0⟩) (step:=Ib elt (.ref D) (compEnvC scope cl C X.env)) .l L.calm rfl rfl rfl (hj cl C s₁ H₁ fp).r (hs2 _) (λ_=>Qs) (hg2 cl C s₁ H₁ fp).r (ht2 cl C s₁ H₁ fp).r
  (PM.weak (Lz dk (he cl C s₁ H₁ fp).r) λa σ H Q h=>Nx h)) λa σ H Q h=>SK (rp:=rpL X.z) ow2 Ld (λro o=>o) h
 hs:=hs
end
section
variable {X:Cx} {scope:Scope} {t1 i1 elt:Expr} {f1:List Expr} {pos:Pos} {i:Ix} {g:Gx} {tt:Tx} {el:Ex} {fin:List D->Sto->D×Sto}
theorem QJ (hf:L1 X.z M0 (rpL X.z) fin)(own:List Str)(fv:List (Nat×Str))(L:JP X scope fv)(hi:SVI X t1 i1 i)(ow:GOw 0 own.length g)
  (hg:∀ cl C s₁ H₁ fp,SVG (Cf X scope (own++fv.map (·.2)) cl C s₁ H₁ fp) t1 g)
  (ht:∀ cl C s₁ H₁ fp,SVF (Cf X scope (own++fv.map (·.2)) cl C s₁ H₁ fp) f1 tt)
  (he:∀ cl C s₁ H₁ fp,SV (Cf X scope (own++fv.map (·.2)) cl C s₁ H₁ fp) elt el)
  (hs:∀ x,foldedSetIterable i1 X.env x=pure x:=by intro _;rfl) :
  NK X scope own fv (.ListComp elt [⟨t1,i1,f1,0⟩] scope pos) [⟨t1,i1,f1,0⟩] ⟨t1,i1,f1,0⟩ [] (newList []) M0 (rpL X.z) (λ_=>True) (stL el) g tt [] fin i (λD C cl=>Ib elt (.ref D) (compEnvC scope cl C X.env)) where
 hc:=.l
 hgens:=rfl
 ha:=rfl
 hnew:=rfl
 L:=L
 hi:=hi
 ow:=ow
 rx:=Ld
 f:=hf
 r00:=λ_ _=>⟨.nil,AW _⟩
 hok:=λ_ _ _ _ _ _ _=>True.intro
 heq:=λ_ _ _ _=>Qr
 hg:=hg
 ht:=ht
 hm:=λcl C s₁ H₁ fp D dk=>PM.weak (Lz dk (he cl C s₁ H₁ fp).r) λa σ H Q h=>Nx h
 hs:=hs
end
section
variable {X:Cx} {α β:Type} {scope:Scope} {e:Expr} {gens rest:List Comprehension} {g:Comprehension} {newAcc:Sem Value} {pos2:Pos} {B:JV α} {rp:List Addr->Hp->β->α->Prop} {ok:Ro->Prop} {st:Mx β} {tg:Gx} {tt:Tx} {b0:β} {fin:β->Sto->D×Sto} {i:Ix} {step:Addr->Addr->List (Str×Addr)->Sem Unit}
theorem TC (own:List Str)(fv:List (Nat×Str))(c:NK X scope own fv e gens g rest newAcc B rp ok st tg tt b0 fin i step)(hev:eval e X.env=comprehension e scope X.env pos2 newAcc false (eval g.iter X.env)){mm:Ex}(hrd:∀ {σ:L2.St} {H:Hp} {Q:VK},rdE X.z mm σ H Q->tCo (rdI X.z i) own.length fv B (rdG X.z tg) (rdT X.z tt) (rdM X.z rp ok st) σ H Q):SV X e mm:=⟨λpins s σ H Q I h=>by
 rw [hev]
 refine G3 (own:=own) (fv:=fv) (B:=B) (tg:=rdG X.z tg) (tt:=rdT X.z tt) (tm:=rdM X.z rp ok st) (step:=step) (wi:=rdI X.z i) (Q:=Q) c.hc c.hgens c.ha c.hnew c.L c.hi.r c.heq (λcl C s₁ H₁ fp=>(c.hg cl C s₁ H₁ fp).r) (λcl C s₁ H₁ fp=>(c.ht cl C s₁ H₁ fp).r) c.hm c.hs (λI=>IK I) I
  (hrd h) λs6 H' D C m J6 fC nsC q=>?_
 exact ⟨m,nsC,λh' sb=>⟨.ref D,H',J6.turnedL (ch:=[C]) (t':=s6.toks) (GH sb) (λb hb=>by rw [Aq.mp hb];exact fC),rfl,q⟩⟩⟩
theorem TF (own:List Str)(fv:List (Nat×Str))(j:Nat)(c:NK X scope own fv e gens g rest newAcc B rp ok st tg tt b0 fin i step){x:Str}{px spos:Pos}
  (hN:X.N.Nodup) (hix:X.N[j]? = some x) (hx:Loc X.env.scope x) (hf:X.fn x=true∨X.env.scope.names.lookup x=some .local)
  (hsw:swapsWith e (some (.Name x px)) spos.line X.env=pure true)
  (hev:evalThenUse e X.env (assign (.Name x px) X.env)=(do let _←comprehension e scope X.env pos2 newAcc false (eval g.iter X.env) (some (assign (.Name x px) X.env))))
  {mm:Ex} (hrd:∀ {σ:L2.St} {H:Hp} {Q:VK},rdE X.z mm σ H Q->tCo (rdI X.z i) own.length fv B (rdG X.z tg) (rdT X.z tt) (rdM X.z rp ok st) σ H Q) :
  SVS X (.Assign [.Name x px] e spos) (Cu mm (gNm j)):=⟨λpins s σ H E I h=>by
 (rw [exec_Assign_Name_used _ _ _ _ hsw])
 refine Aa (wpAny_standAt (Aa ?_))
 rw [hev]
 have h':rdE X.z mm σ H λv H'=>E.nx (σ.set j (some v)) H':=by
  obtain ⟨th,mu,ro,so,en,t⟩:=h
  refine ⟨th,mu,ro,so,en,t.bind.mono λd th1 mu1 H1 e1 s1 t1 v rv=>?_⟩
  exact t1.ret s1 _ ((en.ext e1 so.out).set j rv)
 refine Aa (BL (G3 (use:=some (assign (.Name x px) X.env)) (Qc:=λ_ s'=>SP X pins E .next s') (own:=own) (fv:=fv) (B:=B) (tg:=rdG X.z tg) (tt:=rdT X.z tt) (tm:=rdM X.z rp ok st) (step:=step) (wi:=rdI X.z i) c.hc c.hgens c.ha c.hnew c.L c.hi.r c.heq (λcl C s₁ H₁ fp=>(c.hg cl C s₁ H₁ fp).r) (λcl C s₁ H₁ fp=>(c.ht cl C s₁ H₁ fp).r) c.hm c.hs (λI=>IK I) I
  (hrd h') λs6 H' D C m J6 fC nsC q=>?_) (λ_ s' hq=>Ac (Ac hq)) λ_ _ e=>e)
 obtain ⟨oC,es,ep,hoC,hdC,rC⟩:=id nsC
 have J7:L2.Inv X (pins++[(C,oC)]) σ H' s6:=J6.pins_of λp hp=>(AA.mp hp).elim (λz=>J6.pin p (As _ z)) λz=>by
  have e:p=(C,oC):=by simpa using z
  subst e
  obtain ⟨f0,f1,f2,_⟩:=fC
  exact ⟨hoC,f0,f1,f2,λv z=>by rw [hdC] at z;cases z⟩
 show wpAny _ X.A (assign (.Name x px) X.env (.ref D)) _ _ _
 refine wpAny_assign_Name (Ee J7 hN hix hx (show RelV (.ref D) (.ref D) from rfl) (λs8 I8=>?_) hf)
 have eC:=(I8.pin (C,oC) (As _ (As _ (Aq.mpr rfl)))).1
 refine ⟨m,⟨oC,es,ep,eC,hdC,rC⟩,λh' sb=>?_⟩
 exact ⟨_,H',(I8.unpinned).turnedL (ch:=[C]) (t':=s8.toks) (GH sb) (λb hb=>by rw [Aq.mp hb];exact fC),q⟩⟩
end
theorem NS {g:Option Nat}{m0:Sto}{tg:Gx}{tt:Tx}{el:Ex}{ro:Ro}:∀ (ds b:List D) (mu:Sto) (ys:List D) (m:Sto),b.length+ds.length≤sizeLine->Gu g m0 tg tt el ro ds mu=some (ys,m)->cGo g m0 tg tt (stL el) ro ds b mu=some (b++ys,m)
 | [],b,mu,ys,m,_,h=>by
  unfold Gu at h
  cases h
  rw [BA]
  rfl
 | d::ds,b,mu,ys,m,hl,h=>by
  rw [List.length_cons] at hl
  unfold Gu at h
  obtain ⟨ro1,m1,e1,h⟩:=DI h
  obtain ⟨c,m2,e2,h⟩:=DI h
  unfold cGo
  rw [e1,B7,e2,B7]
  cases c with
  | true =>
   rw [if_pos rfl] at h ⊢
   obtain ⟨y,m3,e3,h⟩:=DI h
   obtain ⟨g3,h⟩:=D9 h
   obtain ⟨zs,m4,e4,h⟩:=DI h
   cases h
   have e5:stL el b ro1 m2=some (b++[y],m3):=by
    unfold stL
    rw [e3,B7,if_pos (by ext)]
   rw [e5,B7,Dd,if_pos g3,NS ds (b++[y]) m3 zs m (by rw [An,List.length_singleton];ext) e4,A4]
   rfl
  | false =>
   rw [if_neg AQ] at h ⊢
   obtain ⟨g3,h⟩:=D9 h
   rw [Dd,if_pos g3]
   exact NS ds b m2 ys m (by ext) h
section
variable {K:Zc} {H:Hp} {tg:Gx} {tt:Tx} {el:Ex}
theorem QY {i:Ix}{nc:Nat}{fv:List (Nat×Str)}{σ:L2.St}{Q:VK}(ow:GOw 0 nc tg)(h:rdE K (eLC i nc (fv.map (·.1)) tg tt el) σ H Q):tCo (rdI K i) nc fv M0 (rdG K tg) (rdT K tt) (rdM K (rpL K) (λ_=>True) (stL el)) σ H Q:=by
 obtain ⟨th,mu,ro,so,en,t⟩:=h
 refine ⟨th,mu,ro,so,en,t.bind.mono λp th1 mu1 H1 e1 s1 t1 J io=>?_⟩
 have t1':Tr K th1 H1 (bM (cGo p.2 mu1 tg tt (stL el) (r0 nc (fv.map (·.1)) ro) p.1 [] mu1) λb m2=>some (finL b m2)) (KV' K Q):=by
  obtain ⟨a,m',e,q⟩:=id t1
  obtain ⟨ys,m2,e2,e3⟩:=DI e
  have:=NS p.1 [] mu1 ys m2 (by simpa using io.sz) e2
  rw [List.nil_append] at this
  rw [e2,B7] at t1
  rw [this,B7]
  exact t1
 refine K5 (rp:=rpL K) ow Ld (λi d e=>.inr (Hq e)) (λ_ _ _ _ _=>True.intro) io s1 (JJ (en.ext e1 so.out)) ⟨.nil,AW _⟩ (t1'.bind.mono λb th2 mu2 H2 e2 s2 t2 a2 σ2 en2 r2=>?_)
 obtain ⟨f1,f2⟩:=LN s2 r2
 refine ⟨f1,λq hq=>?_⟩
 obtain ⟨th3,x3,s3,r3⟩:=f2 q hq
 exact t2.retX x3 s3 _ r3
end
section
variable {X:Cx} {tg iter elt:Expr} {ifs:List Expr} {scope:Scope} {pos:Pos} {i:Ix} {g:Gx} {tt:Tx} {el:Ex}
theorem GOwn.w {nc:Nat}(ow:GOwn nc g):GOw 0 nc g:=λd ro mu ro' mu' e=>⟨(ow d ro mu ro' mu' e).1,λi hi=>(ow d ro mu ro' mu' e).2 i (hi.elim (λz=>absurd z (Nat.not_lt_zero _)) id)⟩
theorem F7 (own:List Str)(fv:List (Nat×Str))(L:JP X scope fv)(hi:SVI X tg iter i)(ow:GOwn own.length g)
  (hg:∀ cl C s₁ H₁ fp,SVG (Cf X scope (own++fv.map (·.2)) cl C s₁ H₁ fp) tg g)
  (ht:∀ cl C s₁ H₁ fp,SVF (Cf X scope (own++fv.map (·.2)) cl C s₁ H₁ fp) ifs tt)
  (he:∀ cl C s₁ H₁ fp,SV (Cf X scope (own++fv.map (·.2)) cl C s₁ H₁ fp) elt el)
  (hs:∀ x,foldedSetIterable iter X.env x=pure x:=by intro _;rfl):SV X (.ListComp elt [⟨tg,iter,ifs,0⟩] scope pos) (eLC i own.length (fv.map (·.1)) g tt el):=
 TC own fv (QJ LN own fv L hi ow.w hg ht he hs) rfl (QY ow.w)
theorem K3 (j:Nat){x:Str}{px spos:Pos}(own:List Str)(fv:List (Nat×Str))(L:JP X scope fv)(hi:SVI X tg iter i)(ow:GOwn own.length g)
  (hg:∀ cl C s₁ H₁ fp,SVG (Cf X scope (own++fv.map (·.2)) cl C s₁ H₁ fp) tg g)
  (ht:∀ cl C s₁ H₁ fp,SVF (Cf X scope (own++fv.map (·.2)) cl C s₁ H₁ fp) ifs tt)
  (he:∀ cl C s₁ H₁ fp,SV (Cf X scope (own++fv.map (·.2)) cl C s₁ H₁ fp) elt el)
  (hN:X.N.Nodup) (hix:X.N[j]? = some x:=by rfl) (hx:Loc X.env.scope x:=by first|exact Or.inl rfl|exact Or.inr rfl) (hf:X.fn x=true∨X.env.scope.names.lookup x=some .local:=by first|exact .inl rfl|exact .inr rfl)
  (hsw:swapsWith (.ListComp elt [⟨tg,iter,ifs,0⟩] scope pos) (some (.Name x px)) spos.line X.env=pure true:=by rfl) (hs:∀ x,foldedSetIterable iter X.env x=pure x:=by intro _;rfl) :
  SVS X (.Assign [.Name x px] (.ListComp elt [⟨tg,iter,ifs,0⟩] scope pos) spos) (Cu (eLC i own.length (fv.map (·.1)) g tt el) (gNm j)):=
 TF own fv j (QJ LN own fv L hi ow.w hg ht he hs) hN hix hx hf hsw rfl (QY ow.w)
end
end PV
namespace PG
open PySem L2 PV PyProof.Rows
def GD:Sx:=
  Cc (Cu (MV (BR (Dc BW) BW)) (gNm 1)) (Cc (FT (CS (BS 0)) (gNm 2) (Cu (eCo (CS (BS 1)) 2 [2] (gNm 0) (tY) (stI (CS (BS 2)) (gNm 1) (tY) (stL (B0 Ci (BS 0) (Dc (BR (BS 1) BW))))) [] finL) (gNm 1))) (sRt (BS 1)))
def DH:Fn:=fnB 3 GD
def FY:Sx:=
  sRt (B0 ixG (eLC (CS (BS 0)) 1 [1] (gNm 0) (tV (B0 eqD (B0 ixG (BS 0) (eC (.int 0))) (BS 1))) (BS 0)) (eC (.int 0)))
def CB:Fn:=fnB 2 FY
def DW:Sx:=
  sRt (eLC (CS (BS 0)) 2 [] (gTp 2 (Cg (gNm 0) (Cg (gNm 1) Ec))) (tY) (BX G7 (BR (BS 1) BW)))
def Cs:Fn:=fnB 1 DW
def G5:Sx:=
  sRt (eSl (BS 2) (pNo) (DZ (B0 ixG (BX CB (BR (BS 0) (BR (BS 1) BW))) (eC (.int 2)))))
def Em:Fn:=fnB 3 G5
def GI:Sx:=
  Cc (Cu (BX CB (BR (BS 0) (BR (BS 1) BW))) (gNm 2)) (sRt (BX Fo (BR (BX DH (BR (BX Cs (BR (eSl (B0 ixG (BS 2) (eC (.int 1))) (pNo) (DZ (B0 ixG (BS 2) (eC (.int 2))))) BW)) BW)) BW)))
def CQ:Fn:=fnB 3 GI
def Ew:Sx:=
  sRt (BX Fo (BR (eLC (CS (BX DH (BR (BX Cs (BR (eSl (B0 ixG (BS 0) (eC (.int 1))) (DZ (B0 ixG (BS 0) (eC (.int 2)))) (pNo)) BW)) BW))) 1 [1] (gNm 0) (tY) (B0 Ci (BS 1) (BS 0))) BW))
def Df:Fn:=fnB 2 Ew
def Fs:Sx:=
  Cc (sIf (tV (B0 Pe (BS 2) (BX CQ (BR (BS 0) (BR (BS 1) BW))))) (sRt (Dc BW)) (sNx)) (sRt (BX Df (BR (BX CB (BR (BS 0) (BR (BS 1) BW))) (BR (BS 2) BW))))
def Dt:Fn:=fnB 3 Fs
def Ff:Sx:=
  Cc (Cu (eC (.int 0)) (gNm 2)) (Cc (sIf (tV (B0 ltG (BS 1) (BX FR (BR (BS 0) BW)))) (Cu (B0 ixG (BS 0) (BS 1)) (gNm 2)) (sNx)) (sRt (DA (BR (B0 Ey (BS 2) (BX Nz (BR (B0 geD (BS 2) (B0 Nb (eC (.int 10)) (eC (.int 18)))) BW))) (BR (B0 Ci (B0 Ci (B0 EI (BS 2) (eC (.int 2305843009213693951))) (B0 Ey (eC (.int 7919)) (BS 1))) (eC (.int 3))) (BR (eC (.int 0)) BW))))))
def Dl:Fn:=fnB 3 Ff
def EY:Sx:=
  Cc (sIf (tV (B0 gtD (B0 ixG (BS 0) (eC (.int 0))) (eC (.int 0)))) (Cc (Cu (B0 EI (B0 ixG (BS 0) (eC (.int 0))) (BS 1)) (gNm 2)) (Cc (Cu (B0 Hx (B0 ixG (BS 0) (eC (.int 0))) (BS 1)) (gIx (BS 0) (eC (.int 0)))) (sRt (BS 2)))) (sNx)) (Cc (Cu (B0 Ci (B0 ixG (BS 0) (eC (.int 2))) (eC (.int 1))) (gIx (BS 0) (eC (.int 2)))) (Cc (Cu (B0 ixG (BS 0) (eC (.int 2))) (gNm 3)) (Cc (Cu (B0 EI (B0 Ey (B0 ixG (BS 0) (eC (.int 1))) (B0 Ci (B0 Ci (eC (.int 48271)) (B0 Ey (B0 Ey (eC (.int 2)) (BS 3)) (BS 3))) (B0 Ey (eC (.int 65537)) (BS 3)))) (eC (.int 2305843009213693921))) (gNm 4)) (Cc (Cu (B0 Ci (B0 Ci (B0 EI (BS 4) (eC (.int 1000003))) (B0 Ey (BS 3) (eC (.int 99991)))) (eC (.int 11))) (gNm 5)) (Cc (Cu (B0 EI (B0 Ey (BS 4) (BS 5)) (eC (.int 2305843009213693907))) (gNm 4)) (sRt (B0 EI (B0 Ci (B0 Hx (BS 4) (eC (.int 97))) (B0 Hx (BS 4) (eC (.int 1000033)))) (BS 1))))))))
def B3:Fn:=fnB 6 EY
def Fg:Sx:=
  sRt (B0 ixG (BS 1) (BX B3 (BR (BS 0) (BR (BX FR (BR (BS 1) BW)) BW))))
def Dm:Fn:=fnB 2 Fg
def FE:Sx:=
  Cc (Cu (eC (.str "abcdefghijklmnopqrstuvwxyz0123456789")) (gNm 3)) (Cc (Cu (Dc (BR (BX B3 (BR (BS 0) (BR (eC (.int 36)) BW))) (BR (BX Dm (BR (BS 0) (BR (MV (BR (eC (.int 1)) (BR (eC (.int 5)) (BR (eC (.int 7)) (BR (eC (.int 11)) (BR (eC (.int 13)) (BR (eC (.int 17)) BW))))))) BW))) BW))) (gTp 2 (Cg (gNm 4) (Cg (gNm 5) Ec)))) (Cc (Cu (B0 Ey (B0 ixG (BS 3) (BX B3 (BR (BS 0) (BR (eC (.int 36)) BW)))) (BX JG (BR (B0 Ry (BS 2) (eC (.int 1))) (BR (BX Dm (BR (BS 0) (BR (MV (BR (eC (.int 0)) (BR (eC (.int 1)) (BR (eC (.int 0)) (BR (eC (.int 2)) (BR (eC (.int 7)) BW)))))) BW))) BW)))) (gNm 6)) (Cc (Cu (BX B3 (BR (BS 0) (BR (B0 Ci (BX FR (BR (BS 6) BW)) (eC (.int 1))) BW))) (gNm 7)) (sRt (eLC (iRg (BR (BS 1) BW)) 1 [6,7,3,4,5] (gNm 0) (tY) (B0 Ci (B0 Ci (eSl (BS 1) (pNo) (DZ (BS 2))) (B0 ixG (BS 3) (B0 EI (B0 Ci (BS 4) (B0 Ey (BS 5) (BS 0))) (eC (.int 36))))) (eSl (BS 1) (DZ (BS 2)) (pNo))))))))
def CW:Fn:=fnB 8 FE
def EZ:Sx:=
  Cc (Cu (BX G7 (BR (BX CW (BR (BS 0) (BR (B0 Ci (eC (.int 1)) (BX B3 (BR (BS 0) (BR (BS 1) BW)))) (BR (eC (.int 8)) BW)))) BW)) (gNm 4)) (Cc (Cu (Dc (BR (BX CW (BR (BS 0) (BR (B0 Ci (BS 2) (eC (.int 2))) (BR (eC (.int 8)) BW)))) (BR (BX CW (BR (BS 0) (BR (B0 Ci (BS 3) (eC (.int 1))) (BR (eC (.int 8)) BW)))) BW))) (gTp 2 (Cg (gNm 5) (Cg (gNm 6) Ec)))) (Cc (Cu (DA BW) (gNm 7)) (Cc (FT (CS (BS 4)) (gNm 8) (Cc (LS 9 10 11 (BR (B0 Ci (eC (.int 1)) (BX B3 (BR (BS 0) (BR (BS 2) BW)))) (BR (BX B3 (BR (BS 0) (BR (eC (.int 3)) BW))) (BR (DA BW) BW)))) (Cc (FT (iRg (BR (BS 9) BW)) (gNm 12) (Cc (Cu (Dc (BR (B0 Ci (eC (.int 1)) (BX B3 (BR (BS 0) (BR (BS 3) BW)))) (BR (BX B3 (BR (BS 0) (BR (eC (.int 2)) BW))) BW))) (gTp 2 (Cg (gNm 13) (Cg (gNm 14) Ec)))) (Cc (Cu (BX Fo (BR (eLC (iRg (BR (BS 13) BW)) 1 [6,14] (gNm 0) (tY) (B0 ixG (BS 1) (B0 EI (B0 Ci (BS 0) (BS 2)) (BX FR (BR (BS 1) BW))))) BW)) (gNm 15)) (sEx (Hw (BS 11) (BR (Dc (BR (B0 ixG (BS 5) (B0 EI (B0 Ci (BS 12) (BS 10)) (BX FR (BR (BS 5) BW)))) (BR (BS 15) BW))) BW)))))) (sEx (Hw (BS 7) (BR (Dc (BR (BS 8) (BR (BX Fo (BR (BS 11) BW)) (BR (B0 Ci (eC (.int 1)) (BX B3 (BR (BS 0) (BR (BS 9) BW)))) BW)))) BW)))))) (sRt (BX Fo (BR (BS 7) BW))))))
def CL:Fn:=fnG 16 EZ
def GL:Sx:=
  Cc (Cu (MV (BR (Dc BW) BW)) (gNm 1)) (Cc (FT (CS (BS 0)) (gNm 2) (Cc (Cu (DA BW) (gNm 3)) (Cc (FT (CS (BS 1)) (gNm 4) (sEx (Jg (BS 3) (BR (eLC (CS (BS 2)) 1 [4] (gNm 0) (tY) (B0 Ci (BS 1) (Dc (BR (BS 0) BW)))) BW)))) (Cu (BS 3) (gNm 1))))) (sRt (BX G7 (BR (BS 1) BW))))
def Dr:Fn:=fnG 5 GL
def Ow:Sx:=
  Cc (FT (iRg (BR (BX NI (BR (eC (.int 2)) (BR (BX JG (BR (eC (.int 5)) (BR (BX FR (BR (BS 0) BW)) BW))) BW))) BW)) (gNm 1) (Cc (Cu (BX Dl (BR (BS 0) (BR (BS 1) BW))) (gNm 2)) (FT (CS (BX CL (BR (BS 2) (BR (eC (.int 4)) (BR (eC (.int 4)) (BR (eC (.int 4)) BW)))))) (gTp 3 (Cg (gNm 3) (Cg (gNm 4) (Cg (gNm 5) Ec)))) (Cc (Cu (eLC (CS (BS 4)) 2 [] (gTp 2 (Cg (gNm 0) (Cg (gNm 1) Ec))) (tY) (BS 1)) (gNm 6)) (Cc (Cu (BX Dr (BR (BS 6) BW)) (gNm 7)) (Cc (Cu (Dc (BR (Dc (BR (BS 3) (BR (BS 4) (BR (BS 5) BW)))) BW)) (gNm 8)) (Cc (Cu Lh (gNm 9)) (Cc (FT (CS (BS 7)) (gNm 10) (sEx (Hw (Mw (BS 9) (BR (eSl (BS 10) (pNo) (DZ (BS 5))) (BR (DA BW) BW))) (BR (BS 10) BW)))) (Cc (sIf (tV (B0 neD (BX DN (BR (BX CQ (BR (BS 8) (BR (BS 3) BW))) BW)) (BX DN (BR (BX Fo (BR (BX Dr (BR (eSl (BS 6) (pNo) (DZ (BS 5))) BW)) BW)) BW)))) (sRt (eC (.bl false))) (sNx)) (Cc (Cu (DA BW) (gNm 11)) (Cc (FT (CS (BX CQ (BR (BS 8) (BR (BS 3) BW)))) (gNm 12) (Cc (Cu (BX Dt (BR (BS 8) (BR (BS 3) (BR (BS 12) BW)))) (gNm 13)) (Cc (sIf (tO (tNt (tV (Qk "tuple" (BS 13)))) (tV (B0 neD (BX IU (BR (BS 13) BW)) (B0 ixG (BS 9) (BS 12))))) (sRt (eC (.bl false))) (sNx)) (Cc (sIf (tNt (tV (BX Mm (BR (eLC (CS (BS 13)) 1 [8,3,12] (gNm 0) (tY) (B0 eqD (BX DN (BR (BX Em (BR (BS 1) (BR (BS 2) (BR (BS 0) BW)))) BW)) (BX DN (BR (BS 3) BW)))) BW)))) (sRt (eC (.bl false))) (sNx)) (sEx (Jg (BS 11) (BR (BX IU (BR (BS 13) BW)) BW))))))) (sIf (tV (B0 neD (BS 11) (BS 7))) (sRt (eC (.bl false))) (sNx))))))))))))) (sRt (eC (.bl true)))
def HN:Fn:=fnB 14 Ow
noncomputable def top (i:Nat):Stmt:=PySem.Challenge.pw_lookback_k03_keys_and_rows.main.body.getD i (.Pass ⟨0,0,0,0⟩)
abbrev EA:Stmt:=top 1
abbrev Ed:Stmt:=top 3
abbrev CO:Stmt:=top 4
abbrev Gb:Stmt:=top 5
abbrev FJ:Stmt:=top 6
abbrev De:Stmt:=top 8
abbrev Ep:Stmt:=top 7
abbrev ER:Stmt:=top 10
abbrev ES:Stmt:=top 11
abbrev E1:Stmt:=top 12
abbrev DQ:Stmt:=top 13
abbrev Dy:Stmt:=top 14
abbrev EM:Stmt:=top 15
abbrev Gh:Stmt:=top 16
structure Tx (K:PySem.W.Frag) (mg:Str->Option Value):Prop where
 b_all:mg "all"=none
 b_int:mg "int"=none
 b_isinstance:mg "isinstance"=none
 b_len:mg "len"=none
 b_list:mg "list"=none
 b_max:mg "max"=none
 b_min:mg "min"=none
 b_range:mg "range"=none
 b_repr:mg "repr"=none
 b_sorted:mg "sorted"=none
 b_tuple:mg "tuple"=none
def BO (P:Program)(w:World)(K:PySem.W.Frag)(mg:Str->Option Value)(base:Heap)(r:Nat)(x:Str)(st:Stmt)(f:Addr)(N:List Str)(m:Sx):Prop:=∀ (cdv:Value) (A:Around) (outer:List Env) (s:Shared) (H:Hp) (E:XK),Room r (A.deeper (envOfC x (BY st) s.heap.objs.size f cdv))->SVB (HL CX0 P w K mg base N x (BY st) f cdv A outer s H E).nox (Dj st) m
section
variable {P:Program} {w:World} {K:PySem.W.Frag} {mg:Str->Option Value} {base:Heap}
theorem Fc:Cp ["choices","found","choice"] ["choices"] (BY EA):=by rfl'
theorem KZ {f:Addr}{fd:FuncData}(F:Fun K "product" "product" EA f fd)(T:Tx K mg) :DJ P w K mg base CX0 1 f fd ["choices"] (spF ⟨K,P,w⟩ DH 1):=by
 have b:BO P w K mg base 0 "product" EA f ["choices","found","choice"] GD:=λcdv A outer s H E hr=>by
  exact B1 (Ce 1 Fc.nd (Je (BQ (DV BV) BV))) (B1 (D3 BC rfl (CK (BU 0)) (B5 2 Fc.nd) (B8 (Vk ["start","value"] [(2,"choice")] 1 (Up  ["start","value"] 1 (by decide) [(2,"choice")] (by exact Jn (BY EA) rfl rfl ⟨rfl,by symm,by symm,by symm⟩ ⟨⟨rfl,.inl rfl,.inl rfl⟩,True.intro⟩) (CK (BU 1)) JX JX (λ_ _ _ _ _=>B5 0 (show (["start","value","choice"]:List Str).Nodup by symm)) (λ_ _ _ _ _=>D4) (λ_ _ _ _ _=>CK (BU 2)) (λ_ _ _ _ _=>B5 1 (show (["start","value","choice"]:List Str).Nodup by symm)) (λ_ _ _ _ _=>D4) (λ_ _ _ _ _=>B2 Ck (BU 0) (DV (BQ (BU 1) BV)))) Fc.nd (by rfl) (by first|exact Or.inl rfl|exact Or.inr rfl) (by first|exact .inl rfl|exact .inr rfl) (by rfl) (by rfl)))) (B8 (Cq (BU 1))))
 have c:=DS 3 1 F Fc rfl rfl b
 exact c
theorem JW:Cp ["schema","name"] ["schema","name"] (BY Ed):=by rfl'
theorem JL {f:Addr}{fd:FuncData}(F:Fun K "table_of" "table_of" Ed f fd)(T:Tx K mg) :DJ P w K mg base CX0 1 f fd ["schema","name"] (spF ⟨K,P,w⟩ CB 2):=by
 have b:BO P w K mg base 0 "table_of" Ed f ["schema","name"] FY:=λcdv A outer s H E hr=>by
  exact B8 (Cq (Dn (EH hr.units) (F7 ["table"] [(1,"name")] (by exact Jn (BY Ed) rfl rfl ⟨rfl,by symm,by symm,by symm⟩ ⟨⟨rfl,.inl rfl,.inl rfl⟩,True.intro⟩) (CK (BU 0)) CP (λ_ _ _ _ _=>B5 0 (show (["table","name"]:List Str).Nodup by symm)) (λ_ _ _ _ _=>P8 (E4 (Ni hr.units) (Dn (EH hr.units) (BU 0) BZ) (BU 1))) (λ_ _ _ _ _=>BU 0)) BZ))
 have c:=DS 2 2 F JW rfl rfl b
 exact c
theorem Gn:Cp ["columns"] ["columns"] (BY CO):=by rfl'
theorem Gq {f:Addr}{fd:FuncData}(F:Fun K "rising_values" "rising_values" CO f fd)(T:Tx K mg) :DJ P w K mg base CX0 1 f fd ["columns"] (spF ⟨K,P,w⟩ Cs 1):=by
 have b:BO P w K mg base 0 "rising_values" CO f ["columns"] DW:=λcdv A outer s H E hr=>by
  exact B8 (Cq (F7 ["column","values"] [] (by exact Jn (BY CO) rfl rfl ⟨rfl,by symm,by symm,by symm⟩ True.intro) (CK (BU 0)) (Kg (EV CP (EV CP IA))) (λ_ _ _ _ _=>FG rfl (Cv (B5 0 (show (["column","values"]:List Str).Nodup by symm)) (Cv (B5 1 (show (["column","values"]:List Str).Nodup by symm)) EG))) (λ_ _ _ _ _=>D4) (λ_ _ _ _ _=>Co (Gs hr.units rfl) T.b_sorted boot_sorted (BQ (BU 1) BV))))
 have c:=DS 1 1 F Gn rfl rfl b
 exact c
theorem Mg:Cp ["schema","name","row"] ["schema","name","row"] (BY Gb):=by rfl'
theorem Ms {f:Addr}{fd:FuncData}(F:Fun K "key_of" "key_of" Gb f fd)(T:Tx K mg)(Ef:Cal P w K mg base 1 "table_of" CB 2):DJ P w K mg base CX0 2 f fd ["schema","name","row"] (spF ⟨K,P,w⟩ Em 3):=by
 have b:BO P w K mg base 1 "key_of" Gb f ["schema","name","row"] G5:=λcdv A outer s H E hr=>by
  have hr_table_of:Room 1 _:=hr.mono (by decide)
  exact B8 (Cq (Eg (BU 2) Ek (El (Dn (EH hr.units) (B6 Ef hr_table_of (BQ (BU 0) (BQ (BU 1) BV))) BZ))))
 have c:=DS 3 3 F Mg rfl rfl b
 exact c
theorem Ht:Cp ["schema","name","table"] ["schema","name"] (BY FJ):=by rfl'
theorem KO {f:Addr}{fd:FuncData}(F:Fun K "keys_of" "keys_of" FJ f fd)(T:Tx K mg)(Ef:Cal P w K mg base 1 "table_of" CB 2)(Gw:Cal P w K mg base 1 "product" DH 1)(DU:Cal P w K mg base 1 "rising_values" Cs 1):DJ P w K mg base CX0 2 f fd ["schema","name"] (spF ⟨K,P,w⟩ CQ 2):=by
 have b:BO P w K mg base 1 "keys_of" FJ f ["schema","name","table"] GI:=λcdv A outer s H E hr=>by
  have hr_table_of:Room 1 _:=hr.mono (by decide)
  have hr_product:Room 1 _:=hr.mono (by decide)
  have hr_rising_values:Room 1 _:=hr.mono (by decide)
  exact B1 (Ce 2 Ht.nd (B6 Ef hr_table_of (BQ (BU 0) (BQ (BU 1) BV)))) (B8 (Cq (C0 Eb T.b_tuple boot_tuple (BQ (B6 Gw hr_product (BQ (B6 DU hr_rising_values (BQ (Eg (Dn (EH hr.units) (BU 2) BZ) Ek (El (Dn (EH hr.units) (BU 2) BZ))) BV)) BV)) BV))))
 have c:=DS 3 2 F Ht rfl rfl b
 exact c
theorem He:Cp ["table","key"] ["table","key"] (BY De):=by rfl'
theorem Hy {f:Addr}{fd:FuncData}(F:Fun K "rows_beyond" "rows_beyond" De f fd)(T:Tx K mg)(Gw:Cal P w K mg base 1 "product" DH 1)(DU:Cal P w K mg base 1 "rising_values" Cs 1):DJ P w K mg base CX0 2 f fd ["table","key"] (spF ⟨K,P,w⟩ Df 2):=by
 have b:BO P w K mg base 1 "rows_beyond" De f ["table","key"] Ew:=λcdv A outer s H E hr=>by
  have hr_product:Room 1 _:=hr.mono (by decide)
  have hr_rising_values:Room 1 _:=hr.mono (by decide)
  exact B8 (Cq (C0 Eb T.b_tuple boot_tuple (BQ (F7 ["rest"] [(1,"key")] (by exact Jn (BY De) rfl rfl ⟨rfl,by symm,by symm,by symm⟩ ⟨⟨rfl,.inl rfl,.inl rfl⟩,True.intro⟩) (CK (B6 Gw hr_product (BQ (B6 DU hr_rising_values (BQ (Eg (Dn (EH hr.units) (BU 0) BZ) (El (Dn (EH hr.units) (BU 0) BZ)) Ek) BV)) BV))) CP (λ_ _ _ _ _=>B5 0 (show (["rest","key"]:List Str).Nodup by symm)) (λ_ _ _ _ _=>D4) (λ_ _ _ _ _=>B2 Ck (BU 1) (BU 0))) BV)))
 have c:=DS 2 2 F He rfl rfl b
 exact c
theorem Jh:Cp ["schema","name","key"] ["schema","name","key"] (BY Ep):=by rfl'
theorem IL {f:Addr}{fd:FuncData}(F:Fun K "rows_with" "rows_with" Ep f fd)(T:Tx K mg)(FK:Cal P w K mg base 2 "keys_of" CQ 2)(HJ:Cal P w K mg base 2 "rows_beyond" Df 2)(Ef:Cal P w K mg base 1 "table_of" CB 2):DJ P w K mg base CX0 3 f fd ["schema","name","key"] (spF ⟨K,P,w⟩ Dt 3):=by
 have b:BO P w K mg base 2 "rows_with" Ep f ["schema","name","key"] Fs:=λcdv A outer s H E hr=>by
  have hr_keys_of:Room 2 _:=hr.mono (by decide)
  have hr_rows_beyond:Room 2 _:=hr.mono (by decide)
  have hr_table_of:Room 1 _:=hr.mono (by decide)
  exact B1 (F5 (E4 (Py hr.units) (BU 2) (B6 FK hr_keys_of (BQ (BU 0) (BQ (BU 1) BV)))) (B8 (Cq (DV BV))) Fb) (B8 (Cq (B6 HJ hr_rows_beyond (BQ (B6 Ef hr_table_of (BQ (BU 0) (BQ (BU 1) BV))) (BQ (BU 2) BV)))))
 have c:=DS 3 3 F Jh rfl rfl b
 exact c
theorem Fp:Cp ["_law_script","_law_k","_law_cell"] ["_law_script","_law_k"] (BY ER):=by rfl'
theorem Jw {f:Addr}{fd:FuncData}(F:Fun K "_law_hand" "_law_hand" ER f fd)(T:Tx K mg) :DJ P w K mg base CX0 1 f fd ["_law_script","_law_k"] (spF ⟨K,P,w⟩ Dl 2):=by
 have b:BO P w K mg base 0 "_law_hand" ER f ["_law_script","_law_k","_law_cell"] Ff:=λcdv A outer s H E hr=>by
  exact B1 (Ce 2 Fp.nd BZ) (B1 (F5 (E4 (Sb hr.units) (BU 1) (Co D8 T.b_len boot_len (BQ (BU 0) BV))) (B8 (Ce 2 Fp.nd (Dn (EH hr.units) (BU 0) (BU 1)))) Fb) (B8 (Cq (FN (BQ (B2 DK (BU 2) (C0 Ml T.b_int boot_int (BQ (OA Rt (BU 2) (B2 PN BZ BZ)) BV))) (BQ (B2 Ck (B2 Ck (B2 D0 (BU 2) BZ) (B2 DK BZ (BU 1))) BZ) (BQ BZ BV)))))))
 have c:=DS 3 2 F Fp rfl rfl b
 exact c
theorem Dq:Cp ["_law_hand_here","_law_many","_law_digit","_law_turn","_law_mixed","_law_other"] ["_law_hand_here","_law_many"] (BY ES):=by rfl'
theorem Jt {f:Addr}{fd:FuncData}(F:Fun K "_law_take" "_law_take" ES f fd)(T:Tx K mg) :DJ P w K mg base CX0 1 f fd ["_law_hand_here","_law_many"] (spF ⟨K,P,w⟩ B3 2):=by
 have b:BO P w K mg base 0 "_law_take" ES f ["_law_hand_here","_law_many","_law_digit","_law_turn","_law_mixed","_law_other"] EY:=λcdv A outer s H E hr=>by
  exact B1 (F5 (E4 Td (Dn (EH hr.units) (BU 0) BZ) BZ) (B1 (Ce 2 Dq.nd (B2 D0 (Dn (EH hr.units) (BU 0) BZ) (BU 1))) (B1 (Gg (B2 G6 (Dn (EH hr.units) (BU 0) BZ) (BU 1)) (NC hr.units (BU 0) BZ)) (B8 (Cq (BU 2))))) Fb) (B1 (Gg (B2 Ck (Dn (EH hr.units) (BU 0) BZ) BZ) (NC hr.units (BU 0) BZ)) (B1 (Ce 3 Dq.nd (Dn (EH hr.units) (BU 0) BZ)) (B1 (Ce 4 Dq.nd (B2 D0 (B2 DK (Dn (EH hr.units) (BU 0) BZ) (B2 Ck (B2 Ck BZ (B2 DK (B2 DK BZ (BU 3)) (BU 3))) (B2 DK BZ (BU 3)))) BZ)) (B1 (Ce 5 Dq.nd (B2 Ck (B2 Ck (B2 D0 (BU 4) BZ) (B2 DK (BU 3) BZ)) BZ)) (B1 (Ce 4 Dq.nd (B2 D0 (B2 DK (BU 4) (BU 5)) BZ)) (B8 (Cq (B2 D0 (B2 Ck (B2 G6 (BU 4) BZ) (B2 G6 (BU 4) BZ)) (BU 1)))))))))
 have c:=DS 6 2 F Dq rfl rfl b
 exact c
theorem Kc:Cp ["_law_hand_here","_law_some"] ["_law_hand_here","_law_some"] (BY E1):=by rfl'
theorem JY {f:Addr}{fd:FuncData}(F:Fun K "_law_pick" "_law_pick" E1 f fd)(T:Tx K mg)(Cr:Cal P w K mg base 1 "_law_take" B3 2):DJ P w K mg base CX0 2 f fd ["_law_hand_here","_law_some"] (spF ⟨K,P,w⟩ Dm 2):=by
 have b:BO P w K mg base 1 "_law_pick" E1 f ["_law_hand_here","_law_some"] Fg:=λcdv A outer s H E hr=>by
  have hr_law_take:Room 1 _:=hr.mono (by decide)
  exact B8 (Cq (Dn (EH hr.units) (BU 1) (B6 Cr hr_law_take (BQ (BU 0) (BQ (Co D8 T.b_len boot_len (BQ (BU 1) BV)) BV)))))
 have c:=DS 2 2 F Kc rfl rfl b
 exact c
theorem CZ:Cp ["_law_hand_here","_law_many","_law_most","_law_signs","_law_first","_law_step","_law_stem","_law_at"] ["_law_hand_here","_law_many","_law_most"] (BY DQ):=by rfl'
theorem IM {f:Addr}{fd:FuncData}(F:Fun K "_law_words" "_law_words" DQ f fd)(T:Tx K mg)(Cr:Cal P w K mg base 1 "_law_take" B3 2)(Hc:Cal P w K mg base 2 "_law_pick" Dm 2):DJ P w K mg base CX0 3 f fd ["_law_hand_here","_law_many","_law_most"] (spF ⟨K,P,w⟩ CW 3):=by
 have b:BO P w K mg base 2 "_law_words" DQ f ["_law_hand_here","_law_many","_law_most","_law_signs","_law_first","_law_step","_law_stem","_law_at"] FE:=λcdv A outer s H E hr=>by
  have hr_law_take:Room 1 _:=hr.mono (by decide)
  have hr_law_pick:Room 2 _:=hr.mono (by decide)
  exact B1 (Ce 3 CZ.nd R8) (B1 (Gg (DV (BQ (B6 Cr hr_law_take (BQ (BU 0) (BQ BZ BV))) (BQ (B6 Hc hr_law_pick (BQ (BU 0) (BQ (Je (BQ BZ (BQ BZ (BQ BZ (BQ BZ (BQ BZ (BQ BZ BV))))))) BV))) BV))) (FG rfl (Cv (B5 4 CZ.nd) (Cv (B5 5 CZ.nd) EG)))) (B1 (Ce 6 CZ.nd (B2 DK (Dn (EH hr.units) (BU 3) (B6 Cr hr_law_take (BQ (BU 0) (BQ BZ BV)))) (Co (Iu rfl) T.b_min boot_min (BQ (B2 Qb (BU 2) BZ) (BQ (B6 Hc hr_law_pick (BQ (BU 0) (BQ (Je (BQ BZ (BQ BZ (BQ BZ (BQ BZ (BQ BZ BV)))))) BV))) BV))))) (B1 (Ce 7 CZ.nd (B6 Cr hr_law_take (BQ (BU 0) (BQ (B2 Ck (Co D8 T.b_len boot_len (BQ (BU 6) BV)) BZ) BV)))) (B8 (Cq (F7 ["_law_k"] [(6,"_law_stem"),(7,"_law_at"),(3,"_law_signs"),(4,"_law_first"),(5,"_law_step")] (by exact Jn (BY DQ) rfl rfl ⟨rfl,by symm,by symm,by symm⟩ ⟨⟨rfl,.inl rfl,.inl rfl⟩,⟨rfl,.inl rfl,.inl rfl⟩,⟨rfl,.inl rfl,.inl rfl⟩,⟨rfl,.inl rfl,.inl rfl⟩,⟨rfl,.inl rfl,.inl rfl⟩,True.intro⟩) (FP T.b_range (BQ (BU 1) BV)) CP (λ_ _ _ _ _=>B5 0 (show (["_law_k","_law_stem","_law_at","_law_signs","_law_first","_law_step"]:List Str).Nodup by symm)) (λ_ _ _ _ _=>D4) (λ_ _ _ _ _=>B2 Ck (B2 Ck (Eg (BU 1) Ek (El (BU 2))) (Dn (EH hr.units) (BU 3) (B2 D0 (B2 Ck (BU 4) (B2 DK (BU 5) (BU 0))) BZ))) (Eg (BU 1) (El (BU 2)) Ek))))))))
 have c:=DS 8 3 F CZ rfl rfl b
 exact c
theorem Cb:Cp ["_law_hand_here","_law_tables","_law_columns","_law_values","_law_names","_law_words_here","_law_stock","_law_found","_law_name","_law_many","_law_shift","_law_row","_law_k","_law_some","_law_turn","_law_mine"] ["_law_hand_here","_law_tables","_law_columns","_law_values"] (BY Dy):=by rfl'
theorem HG {f:Addr}{fd:FuncData}(F:Fun K "_law_schema" "_law_schema" Dy f fd)(T:Tx K mg)(FF:Cal P w K mg base 3 "_law_words" CW 3)(Cr:Cal P w K mg base 1 "_law_take" B3 2):DJ P w K mg base CX0 4 f fd ["_law_hand_here","_law_tables","_law_columns","_law_values"] (spF ⟨K,P,w⟩ CL 4):=by
 have b:BO P w K mg base 3 "_law_schema" Dy f ["_law_hand_here","_law_tables","_law_columns","_law_values","_law_names","_law_words_here","_law_stock","_law_found","_law_name","_law_many","_law_shift","_law_row","_law_k","_law_some","_law_turn","_law_mine"] EZ:=λcdv A outer s H E hr=>by
  have hr_law_words:Room 3 _:=hr.mono (by decide)
  have hr_law_take:Room 1 _:=hr.mono (by decide)
  exact B1 (Ce 4 Cb.nd (Co (Gs hr.units rfl) T.b_sorted boot_sorted (BQ (B6 FF hr_law_words (BQ (BU 0) (BQ (B2 Ck BZ (B6 Cr hr_law_take (BQ (BU 0) (BQ (BU 1) BV)))) (BQ BZ BV)))) BV))) (B1 (Gg (DV (BQ (B6 FF hr_law_words (BQ (BU 0) (BQ (B2 Ck (BU 2) BZ) (BQ BZ BV)))) (BQ (B6 FF hr_law_words (BQ (BU 0) (BQ (B2 Ck (BU 3) BZ) (BQ BZ BV)))) BV))) (FG rfl (Cv (B5 5 Cb.nd) (Cv (B5 6 Cb.nd) EG)))) (B1 (Ce 7 Cb.nd (FN BV)) (B1 (D3 BC rfl (CK (BU 4)) (B5 8 Cb.nd) (B1 (Oz 9 10 11 rfl Cb.nd (BQ (B2 Ck BZ (B6 Cr hr_law_take (BQ (BU 0) (BQ (BU 2) BV)))) (BQ (B6 Cr hr_law_take (BQ (BU 0) (BQ BZ BV))) (BQ (FN BV) BV))) (by rfl)) (B1 (D3 BC rfl (FP T.b_range (BQ (BU 9) BV)) (B5 12 Cb.nd) (B1 (Gg (DV (BQ (B2 Ck BZ (B6 Cr hr_law_take (BQ (BU 0) (BQ (BU 3) BV)))) (BQ (B6 Cr hr_law_take (BQ (BU 0) (BQ BZ BV))) BV))) (FG rfl (Cv (B5 13 Cb.nd) (Cv (B5 14 Cb.nd) EG)))) (B1 (Ce 15 Cb.nd (C0 Eb T.b_tuple boot_tuple (BQ (F7 ["_law_j"] [(6,"_law_stock"),(14,"_law_turn")] (by exact Jn (BY Dy) rfl rfl ⟨rfl,by symm,by symm,by symm⟩ ⟨⟨rfl,.inl rfl,.inl rfl⟩,⟨rfl,.inl rfl,.inl rfl⟩,True.intro⟩) (FP T.b_range (BQ (BU 13) BV)) CP (λ_ _ _ _ _=>B5 0 (show (["_law_j","_law_stock","_law_turn"]:List Str).Nodup by symm)) (λ_ _ _ _ _=>D4) (λ_ _ _ _ _=>Dn (EH hr.units) (BU 1) (B2 D0 (B2 Ck (BU 0) (BU 2)) (Co D8 T.b_len boot_len (BQ (BU 1) BV))))) BV))) (B8 (Fz (GG (BU 11) (BQ (DV (BQ (Dn (EH hr.units) (BU 5) (B2 D0 (B2 Ck (BU 12) (BU 10)) (Co D8 T.b_len boot_len (BQ (BU 5) BV)))) (BQ (BU 15) BV))) BV))))))) (B8 (Fz (GG (BU 7) (BQ (DV (BQ (BU 8) (BQ (C0 Eb T.b_tuple boot_tuple (BQ (BU 11) BV)) (BQ (B2 Ck BZ (B6 Cr hr_law_take (BQ (BU 0) (BQ (BU 9) BV)))) BV)))) BV))))))) (B8 (Cq (C0 Eb T.b_tuple boot_tuple (BQ (BU 7) BV)))))))
 have c:=ND 16 4 F Cb rfl rfl b
 exact c
theorem DD:Cp ["_law_lots","_law_found","_law_lot","_law_longer","_law_start"] ["_law_lots"] (BY EM):=by rfl'
theorem KI {f:Addr}{fd:FuncData}(F:Fun K "_law_all" "_law_all" EM f fd)(T:Tx K mg) :DJ P w K mg base CX0 1 f fd ["_law_lots"] (spF ⟨K,P,w⟩ Dr 1):=by
 have b:BO P w K mg base 0 "_law_all" EM f ["_law_lots","_law_found","_law_lot","_law_longer","_law_start"] GL:=λcdv A outer s H E hr=>by
  exact B1 (Ce 1 DD.nd (Je (BQ (DV BV) BV))) (B1 (D3 BC rfl (CK (BU 0)) (B5 2 DD.nd) (B1 (Ce 3 DD.nd (FN BV)) (B1 (D3 BC rfl (CK (BU 1)) (B5 4 DD.nd) (B8 (Fz (HY (BU 3) (BQ (F7 ["_law_one"] [(4,"_law_start")] (by exact Jn (BY EM) rfl rfl ⟨rfl,by symm,by symm,by symm⟩ ⟨⟨rfl,.inl rfl,.inl rfl⟩,True.intro⟩) (CK (BU 2)) CP (λ_ _ _ _ _=>B5 0 (show (["_law_one","_law_start"]:List Str).Nodup by symm)) (λ_ _ _ _ _=>D4) (λ_ _ _ _ _=>B2 Ck (BU 1) (DV (BQ (BU 0) BV)))) BV))))) (B8 (Ce 1 DD.nd (BU 3)))))) (B8 (Cq (Co (Gs hr.units rfl) T.b_sorted boot_sorted (BQ (BU 1) BV)))))
 have c:=ND 5 1 F DD rfl rfl b
 exact c
theorem Dw:Cp ["_law_script","_law_k","_law_hand_here","_law_name","_law_columns","_law_keys","_law_lots","_law_due","_law_schema_here","_law_by","_law_row","_law_together","_law_key","_law_some"] ["_law_script"] (BY Gh):=by rfl'
theorem S8 {f:Addr}{fd:FuncData}(F:Fun K "law" "law" Gh f fd)(T:Tx K mg)(Kw:Cal P w K mg base 1 "_law_hand" Dl 2)(IY:Cal P w K mg base 4 "_law_schema" CL 4)(Iq:Cal P w K mg base 1 "_law_all" Dr 1)(FK:Cal P w K mg base 2 "keys_of" CQ 2)(Kf:Cal P w K mg base 3 "rows_with" Dt 3)(Nw:Cal P w K mg base 2 "key_of" Em 3):DJ P w K mg base CX0 5 f fd ["_law_script"] (spF ⟨K,P,w⟩ HN 1):=by
 have b:BO P w K mg base 4 "law" Gh f ["_law_script","_law_k","_law_hand_here","_law_name","_law_columns","_law_keys","_law_lots","_law_due","_law_schema_here","_law_by","_law_row","_law_together","_law_key","_law_some"] Ow:=λcdv A outer s H E hr=>by
  have hr_law_hand:Room 1 _:=hr.mono (by decide)
  have hr_law_schema:Room 4 _:=hr.mono (by decide)
  have hr_law_all:Room 1 _:=hr.mono (by decide)
  have hr_keys_of:Room 2 _:=hr.mono (by decide)
  have hr_rows_with:Room 3 _:=hr.mono (by decide)
  have hr_key_of:Room 2 _:=hr.mono (by decide)
  exact B1 (D3 BC rfl (FP T.b_range (BQ (Co (Mr rfl) T.b_max boot_max (BQ BZ (BQ (Co (Iu rfl) T.b_min boot_min (BQ BZ (BQ (Co D8 T.b_len boot_len (BQ (BU 0) BV)) BV))) BV))) BV)) (B5 1 Dw.nd) (B1 (Ce 2 Dw.nd (B6 Kw hr_law_hand (BQ (BU 0) (BQ (BU 1) BV)))) (B8 (D3 BC rfl (CK (B6 IY hr_law_schema (BQ (BU 2) (BQ BZ (BQ BZ (BQ BZ BV)))))) (FG rfl (Cv (B5 3 Dw.nd) (Cv (B5 4 Dw.nd) (Cv (B5 5 Dw.nd) EG)))) (B1 (K3 6 ["_law_column","_law_values"] [] (by exact Jn (BY Gh) rfl rfl ⟨rfl,by symm,by symm,by symm⟩ True.intro) (CK (BU 4)) (Kg (EV CP (EV CP IA))) (λ_ _ _ _ _=>FG rfl (Cv (B5 0 (show (["_law_column","_law_values"]:List Str).Nodup by symm)) (Cv (B5 1 (show (["_law_column","_law_values"]:List Str).Nodup by symm)) EG))) (λ_ _ _ _ _=>D4) (λ_ _ _ _ _=>BU 1) Dw.nd) (B1 (Ce 7 Dw.nd (B6 Iq hr_law_all (BQ (BU 6) BV))) (B1 (Ce 8 Dw.nd (DV (BQ (DV (BQ (BU 3) (BQ (BU 4) (BQ (BU 5) BV)))) BV))) (B1 (Ce 9 Dw.nd PU) (B1 (D3 BC rfl (CK (BU 7)) (B5 10 Dw.nd) (B8 (Fz (GG (SM hr.units (BU 9) (BQ (Eg (BU 10) Ek (El (BU 5))) (BQ (FN BV) BV))) (BQ (BU 10) BV))))) (B1 (F5 (E4 (KD hr.units) (Co (E9 hr.units hr.gd) T.b_repr (by symm) (BQ (B6 FK hr_keys_of (BQ (BU 8) (BQ (BU 3) BV))) BV)) (Co (E9 hr.units hr.gd) T.b_repr (by symm) (BQ (C0 Eb T.b_tuple boot_tuple (BQ (B6 Iq hr_law_all (BQ (Eg (BU 6) Ek (El (BU 5))) BV)) BV)) BV))) (B8 (Cq JK)) Fb) (B1 (Ce 11 Dw.nd (FN BV)) (B1 (D3 BC rfl (CK (B6 FK hr_keys_of (BQ (BU 8) (BQ (BU 3) BV)))) (B5 12 Dw.nd) (B1 (Ce 13 Dw.nd (B6 Kf hr_rows_with (BQ (BU 8) (BQ (BU 3) (BQ (BU 12) BV))))) (B1 (F5 (SVW.t (SX (LG (LP (S1 "tuple" (BU 13) T.b_isinstance T.b_tuple boot_tuple))) (Qd (E4 (KD hr.units) (C0 Iv T.b_list boot_list (BQ (BU 13) BV)) (Dn (EH hr.units) (BU 9) (BU 12)))))) (B8 (Cq JK)) Fb) (B1 (F5 (LG (LP (Co (Mp rfl) T.b_all boot_all (BQ (F7 ["_law_row"] [(8,"_law_schema_here"),(3,"_law_name"),(12,"_law_key")] (by exact Jn (BY Gh) rfl rfl ⟨rfl,by symm,by symm,by symm⟩ ⟨⟨rfl,.inl rfl,.inl rfl⟩,⟨rfl,.inl rfl,.inl rfl⟩,⟨rfl,.inl rfl,.inl rfl⟩,True.intro⟩) (CK (BU 13)) CP (λ_ _ _ _ _=>B5 0 (show (["_law_row","_law_schema_here","_law_name","_law_key"]:List Str).Nodup by symm)) (λ_ _ _ _ _=>D4) (λ_ _ _ _ _=>OA (Ni hr.units) (Co (E9 hr.units hr.gd) T.b_repr (by symm) (BQ (B6 Nw hr_key_of (BQ (BU 1) (BQ (BU 2) (BQ (BU 0) BV)))) BV)) (Co (E9 hr.units hr.gd) T.b_repr (by symm) (BQ (BU 3) BV)))) BV)))) (B8 (Cq JK)) Fb) (B8 (Fz (HY (BU 11) (BQ (C0 Iv T.b_list boot_list (BQ (BU 13) BV)) BV)))))))) (B8 (F5 (E4 (KD hr.units) (BU 11) (BU 7)) (B8 (Cq JK)) Fb)))))))))))))) (B8 (Cq JK))
 have c:=DS 14 1 F Dw rfl rfl b
 exact c
end
end PG
namespace PV
open PySem L2 PyProof.Rows
section
variable {α β:Type} {ro:Ro} {mu:Sto} {d e:D} {a b c:Ex} {i:Nat} {o:Option D}
@[simp] theorem Ul {x:α}{m:Sto}{f:α->Sto->Rs β}:bM (some (x,m)) f=f x m:=rfl
@[simp] theorem V9:BS 0 (some d::ro) mu=some (d,mu):=rfl
@[simp] theorem Vp {x1}:BS 1 (x1::some d::ro) mu=some (d,mu):=rfl
@[simp] theorem VB {x1 x2}:BS 2 (x1::x2::some d::ro) mu=some (d,mu):=rfl
@[simp] theorem VV {x1 x2 x3}:BS 3 (x1::x2::x3::some d::ro) mu=some (d,mu):=rfl
@[simp] theorem VE {x1 x2 x3 x4}:BS 4 (x1::x2::x3::x4::some d::ro) mu=some (d,mu):=rfl
@[simp] theorem V0 {x1 x2 x3 x4 x5}:BS 5 (x1::x2::x3::x4::x5::some d::ro) mu=some (d,mu):=rfl
@[simp] theorem Vq {x1 x2 x3 x4 x5 x6}:BS 6 (x1::x2::x3::x4::x5::x6::some d::ro) mu=some (d,mu):=rfl
@[simp] theorem VU {x1 x2 x3 x4 x5 x6 x7}:BS 7 (x1::x2::x3::x4::x5::x6::x7::some d::ro) mu=some (d,mu):=rfl
@[simp] theorem VR {x1 x2 x3 x4 x5 x6 x7 x8}:BS 8 (x1::x2::x3::x4::x5::x6::x7::x8::some d::ro) mu=some (d,mu):=rfl
@[simp] theorem Vy {x1 x2 x3 x4 x5 x6 x7 x8 x9}:BS 9 (x1::x2::x3::x4::x5::x6::x7::x8::x9::some d::ro) mu=some (d,mu):=rfl
@[simp] theorem T1 {x1 x2 x3 x4 x5 x6 x7 x8 x9 x10}:BS 10 (x1::x2::x3::x4::x5::x6::x7::x8::x9::x10::some d::ro) mu=some (d,mu):=rfl
@[simp] theorem UN {x1 x2 x3 x4 x5 x6 x7 x8 x9 x10 x11}:BS 11 (x1::x2::x3::x4::x5::x6::x7::x8::x9::x10::x11::some d::ro) mu=some (d,mu):=rfl
@[simp] theorem US {x1 x2 x3 x4 x5 x6 x7 x8 x9 x10 x11 x12}:BS 12 (x1::x2::x3::x4::x5::x6::x7::x8::x9::x10::x11::x12::some d::ro) mu=some (d,mu):=rfl
@[simp] theorem T9 {x1 x2 x3 x4 x5 x6 x7 x8 x9 x10 x11 x12 x13}:BS 13 (x1::x2::x3::x4::x5::x6::x7::x8::x9::x10::x11::x12::x13::some d::ro) mu=some (d,mu):=rfl
@[simp] theorem Uw {x1 x2 x3 x4 x5 x6 x7 x8 x9 x10 x11 x12 x13 x14}:BS 14 (x1::x2::x3::x4::x5::x6::x7::x8::x9::x10::x11::x12::x13::x14::some d::ro) mu=some (d,mu):=rfl
@[simp] theorem Uu {x1 x2 x3 x4 x5 x6 x7 x8 x9 x10 x11 x12 x13 x14 x15}:BS 15 (x1::x2::x3::x4::x5::x6::x7::x8::x9::x10::x11::x12::x13::x14::x15::some d::ro) mu=some (d,mu):=rfl
@[simp] theorem z_C:eC d ro mu=some (d,mu):=rfl
@[simp] theorem Tt {g:D->D->Sto->Rs D}:B0 g a b ro mu=bM (a ro mu) λx m1=>bM (b ro m1) λy m2=>g x y m2:=rfl
@[simp] theorem Vi {g:D->Sto->Rs D}:e1 g a ro mu=bM (a ro mu) λx m1=>g x m1:=rfl
@[simp] theorem VH:tV a ro mu=bM (a ro mu) λx m1=>(asB x).map λb=>(b,m1):=rfl
@[simp] theorem UI {x:Bool}:asB (.bl x)=some x:=rfl
@[simp] theorem TQ {t:Tx}:tNt t ro mu=bM (t ro mu) λb m1=>some (!b,m1):=rfl
@[simp] theorem UT {t u:Tx}:tAn t u ro mu=bM (t ro mu) λx m1=>if x=true then u ro m1 else some (false,m1):=rfl
@[simp] theorem VJ {t u:Tx}:tO t u ro mu=bM (t ro mu) λx m1=>if x=true then some (true,m1) else u ro m1:=rfl
@[simp] theorem VG:tY ro mu=some (true,mu):=rfl
noncomputable def anB (b:Ex)(ro:Ro):D->Sto->Rs D
 | .bl c,m1=>if c=true then b ro m1 else some (.bl false,m1)
 | _,_=>none
noncomputable def oB (b:Ex)(ro:Ro):D->Sto->Rs D
 | .bl c,m1=>if c=true then some (.bl true,m1) else b ro m1
 | _,_=>none
theorem Vz:eAn a b ro mu=bM (a ro mu) (anB b ro):=by
 unfold eAn
 congr 1
 funext x m
 cases x<;>rfl
theorem z_o:eO a b ro mu=bM (a ro mu) (oB b ro):=by
 unfold eO
 congr 1
 funext x m
 cases x<;>rfl
@[simp] theorem Tu:eAn a b ro mu=bM (a ro mu) (anB b ro):=Vz
@[simp] theorem Vm:eO a b ro mu=bM (a ro mu) (oB b ro):=z_o
@[simp] theorem UX {x:Bool}:anB b ro (.bl x) mu=if x=true then b ro mu else some (.bl false,mu):=rfl
@[simp] theorem VN {x:Bool}:oB b ro (.bl x) mu=if x=true then some (.bl true,mu) else b ro mu:=rfl
noncomputable def ntB:D->Sto->Rs D
 | .bl c,m1=>some (.bl (!c),m1)
 | _,_=>none
@[simp] theorem We:eNt a ro mu=bM (a ro mu) ntB:=by
 unfold eNt
 congr 1
 funext x m
 cases x<;>rfl
@[simp] theorem T6 {x:Bool}:ntB (.bl x) mu=some (.bl (!x),mu):=rfl
@[simp] theorem V5 {t:Tx}:eIf t a b ro mu=bM (t ro mu) λx m1=>if x=true then a ro m1 else b ro m1:=rfl
@[simp] theorem Va:BW ro mu=some ([],mu):=rfl
@[simp] theorem U9 {r:Exs}:BR a r ro mu=bM (a ro mu) λx m1=>bM (r ro m1) λxs m2=>some (x::xs,m2):=rfl
@[simp] theorem Tf {r:Exs}:Dc r ro mu=bM (r ro mu) λxs m1=>some (.tup xs,m1):=rfl
@[simp] theorem Ud {r:Exs}:MV r ro mu=bM (r ro mu) λxs m1=>some (.lst xs,m1):=rfl
@[simp] theorem R9 {r:Exs}:DA r ro mu=bM (r ro mu) λxs m1=>some (.ref m1.length,m1++[.lst xs]):=rfl
@[simp] theorem SY:Ux ro mu=some (.dct [] [],mu):=rfl
@[simp] theorem Sf:Lh ro mu=some (.ref mu.length,mu++[.dct [] []]):=rfl
@[simp] theorem RE {f:Fn}{r:Exs}:BX f r ro mu=bM (r ro mu) λxs m1=>f xs m1:=rfl
@[simp] theorem To:sNx ro mu=some ((.nx,ro),mu):=rfl
noncomputable def RT (b:Sx):Fl×Ro->Sto->Rs (Fl×Ro)
 | (.nx,ro),m1=>b ro m1
 | p,m1=>some (p,m1)
@[simp] theorem Um {s t:Sx}:Cc s t ro mu=bM (s ro mu) (RT t):=by
 unfold Cc
 congr 1
 funext p m
 obtain ⟨f,r⟩:=p
 cases f<;>rfl
@[simp] theorem S4 {t:Sx}:RT t (.nx,ro) mu=t ro mu:=rfl
@[simp] theorem SR {t:Sx}:RT t (.rt d,ro) mu=some ((.rt d,ro),mu):=rfl
@[simp] theorem Wb:sRt a ro mu=bM (a ro mu) λd m1=>some ((.rt d,ro),m1):=rfl
@[simp] theorem RK:sEx a ro mu=bM (a ro mu) λ_ m1=>some ((.nx,ro),m1):=rfl
@[simp] theorem Vb {t:Tx}{s u:Sx}:sIf t s u ro mu=bM (t ro mu) λx m1=>if x=true then s ro m1 else u ro m1:=rfl
@[simp] theorem Ub {i:Nat}:gNm i d ro mu=some (ro.set i (some d),mu):=rfl
@[simp] theorem Uq:Ec [] ro mu=some (ro,mu):=rfl
@[simp] theorem Uc {g:Gx}{r:Gxs}{ds:List D}:Cg g r (d::ds) ro mu=bM (g d ro mu) λro' m1=>r ds ro' m1:=rfl
@[simp] theorem S6 {r:Gxs}{x y:D}:gTp 2 r (.tup [x,y]) ro mu=r [x,y] ro mu:=rfl
@[simp] theorem R1 {r:Gxs}{x y z:D}:gTp 3 r (.tup [x,y,z]) ro mu=r [x,y,z] ro mu:=rfl
@[simp] theorem Rh {r:Gxs}{x y z u:D}:gTp 4 r (.tup [x,y,z,u]) ro mu=r [x,y,z,u] ro mu:=rfl
@[simp] theorem Th {g:Gx}:Cu a g ro mu=bM (a ro mu) λd m1=>bM (g d ro m1) λro' m2=>some ((.nx,ro'),m2):=rfl
@[simp] theorem RD {i j:Nat}{r:Exs}:V4 i j r ro mu=bM (r ro mu) λds m1=>match ds with|[x,y]=>some ((.nx,(ro.set i (some x)).set j (some y)),m1)|_=>none:=rfl
@[simp] theorem Rq {i j k:Nat}{r:Exs}:LS i j k r ro mu=bM (r ro mu) λds m1=>match ds with|[x,y,z]=>some ((.nx,((ro.set i (some x)).set j (some y)).set k (some z)),m1)|_=>none:=rfl
noncomputable def Ri:Fl×Ro->Sto->Rs D
 | (.rt d,_),m1=>some (d,m1)
 | (.nx,_),m1=>some (.non,m1)
 | _,_=>none
theorem UC {n:Nat}{m:Sx}{ds:List D}:fnB n m ds mu=bM (m (ds.map some++List.replicate (n-ds.length) none) mu) Ri:=by
 unfold fnB
 congr 1
 funext p q
 obtain ⟨f,r⟩:=p
 cases f<;>rfl
@[simp] theorem S3:Ri (.rt d,ro) mu=some (d,mu):=rfl
@[simp] theorem Rr:Ri (.nx,ro) mu=some (.non,mu):=rfl
def UJ (m0:Sto):Fl×Ro->Sto->Rs D
 | (.rt d,_),m1=>IW m0 m1 d
 | (.nx,_),m1=>IW m0 m1 .non
 | _,_=>none
theorem UA {n:Nat}{m:Sx}{ds:List D}:fnG n m ds mu=bM (m (ds.map some++List.replicate (n-ds.length) none) mu) (UJ mu):=by
 unfold fnG
 congr 1
 funext p q
 obtain ⟨f,r⟩:=p
 cases f<;>rfl
@[simp] theorem PY {m0:Sto}:UJ m0 (.rt d,ro) mu=IW m0 mu d:=rfl
@[simp] theorem Ua {x:Ix}{g:Gx}{s:Sx}:FT x g s ro mu=bM (x ro mu) λp m1=>DX p.2 m1 g s p.1 ro m1:=rfl
def Iz (m1:Sto):D->Rs (List D×Option Nat)
 | .tup ds=>some ((ds,none),m1)
 | .lst ds=>some ((ds,none),m1)
 | .str x=>some ((chars x,none),m1)
 | .ref k=>match m1[k]? with
  | some (.lst ds)=>some ((ds,some k),m1)
  | _=>none
 | _=>none
@[simp] theorem Wd:CS a ro mu=bM (a ro mu) λd m1=>Iz m1 d:=by
 unfold CS
 congr 1
@[simp] theorem VY {ds:List D}:Iz mu (.tup ds)=some ((ds,none),mu):=rfl
@[simp] theorem VT {ds:List D}:Iz mu (.lst ds)=some ((ds,none),mu):=rfl
@[simp] theorem VI {x:Str}:Iz mu (.str x)=some ((chars x,none),mu):=rfl
theorem PR {r:Exs}{n:Int}{m:Sto}(h:r ro mu=some ([.int n],m))(h0:-(2 ^ 62)≤n)(h1:n≤(sizeLine:Int)):iRg r ro mu=some ((Eh 0 n.toNat,none),m):=by
 unfold iRg
 rw [h]
 simp only [bM,Oi]
 rw [if_pos ⟨h0,h1⟩]
@[simp] theorem VX {x:Ix}{nc:Nat}{fv:List Nat}{g:Gx}{t:Tx}:eLC x nc fv g t a ro mu=bM (x ro mu) λp m1=>bM (Gu p.2 m1 g t a (r0 nc fv ro) p.1 m1) λys m2=>some (.lst ys,m2):=rfl
@[simp] theorem Vx {nc:Nat}{fv:List Nat}:r0 nc fv ro=List.replicate nc none++fv.map λk=>ro.getD k none:=rfl
@[simp] theorem Qv {g g':D->D->Sto->Rs D}{c:Ex}:SI g g' a b c ro mu=bM (a ro mu) λx m1=>bM (b ro m1) λy m2=>bM (g x y m2) λz m3=>match asB z with|none=>none|some k=>if k=true then bM (c ro m3) λw' m4=>g' y w' m4 else some (.bl false,m3):=rfl
@[simp] theorem TZ {i j:Int}:leD (.int i) (.int j) mu=some (.bl (decide (i≤j)),mu):=rfl
@[simp] theorem UY {i j:Str}:leD (.str i) (.str j) mu=some (.bl (!decide (j.cps.toList<i.cps.toList)),mu):=rfl
@[simp] theorem Ui {i j:Int}:geD (.int i) (.int j) mu=some (.bl (decide (j≤i)),mu):=rfl
@[simp] theorem UO {i j:Int}:gtD (.int i) (.int j) mu=some (.bl (decide (j<i)),mu):=rfl
@[simp] theorem Uh {i j:Int}:ltG (.int i) (.int j) mu=some (.bl (decide (i<j)),mu):=by
 unfold ltG
 rw [if_pos (by simp [toPy,PyData.depth])]
 rfl
@[simp] theorem TX {i j:Str}:ltG (.str i) (.str j) mu=some (.bl (decide (i.cps.toList<j.cps.toList)),mu):=by
 unfold ltG
 rw [if_pos (by simp [toPy,PyData.depth])]
 rfl
@[simp] theorem Sm {i j:Int}:Ci (.int i) (.int j) mu=some (.int (i+j),mu):=rfl
@[simp] theorem Rx {i j:Int}:Ry (.int i) (.int j) mu=some (.int (i-j),mu):=rfl
theorem GJ {i j:Int}(h:0<j):EI (.int i) (.int j) mu=some (.int (i % j),mu):=by unfold EI;dsimp only;rw [if_pos h]
@[simp] theorem UK {ds:List D}:Mz [.tup ds] mu=some (.int ds.length,mu):=rfl
@[simp] theorem Ut {ds:List D}:Mz [.lst ds] mu=some (.int ds.length,mu):=rfl
@[simp] theorem Ur {x:Str}:Mz [.str x] mu=some (.int x.length,mu):=rfl
@[simp] theorem Sw {ds:List D}:FR [.tup ds] mu=some (.int ds.length,mu):=rfl
@[simp] theorem SW {ds:List D}:FR [.lst ds] mu=some (.int ds.length,mu):=rfl
@[simp] theorem Sh {x:Str}:FR [.str x] mu=some (.int x.length,mu):=rfl
@[simp] theorem Ru {ds:List D}:FR [.set ds] mu=some (.int ds.length,mu):=rfl
@[simp] theorem SG {ds:List D}:Fo [.lst ds] mu=some (.tup ds,mu):=rfl
@[simp] theorem RM {ds:List D}:Fo [.tup ds] mu=some (.tup ds,mu):=rfl
@[simp] theorem RV {ds:List D}:IU [.tup ds] mu=some (.lst ds,mu):=rfl
theorem QT (h:eqB mu d e=some r):eqD d e mu=some (.bl r,mu):=by unfold eqD;rw [h];rfl
@[simp] theorem QH {i j:Int}:eqD (.int i) (.int j) mu=some (.bl (decide (i=j)),mu):=by
 refine QT ?_
 unfold eqB
 rw [if_pos (by simp [seen,Ca,toPy,PyData.depth])]
 simp only [seen,toPy,PyData.eqv]
 rfl
@[simp] theorem Ue {i j:Int}:neD (.int i) (.int j) mu=some (.bl (!decide (i=j)),mu):=by
 have:=@QH mu i j
 unfold eqD at this
 unfold neD
 cases e:eqB mu (.int i) (.int j) with
 | none=>rw [e] at this;cases this
 | some r=>rw [e] at this;cases this;rfl
@[simp] theorem Us {i j:Bool}:neD (.bl i) (.bl j) mu=some (.bl (i != j),mu):=by
 unfold neD eqB
 rw [if_pos (by simp [seen,Ca,toPy,PyData.depth])]
 simp only [seen,toPy,PyData.eqv]
 cases i<;>cases j<;>rfl
@[simp] theorem QM {i j:Str}:eqD (.str i) (.str j) mu=some (.bl (decide (i=j)),mu):=by
 refine QT ?_
 unfold eqB
 rw [if_pos (by simp [seen,Ca,toPy,PyData.depth])]
 simp only [seen,toPy,PyData.eqv]
 rfl
@[simp] theorem S0 {ds:List D}:ixG (.tup (d::ds)) (.int 0) mu=some (d,mu):=by
 have:ixD (.tup (d::ds)) (.int 0) mu=some (d,mu):=by simp [ixD,atI,ixN]
 unfold ixG
 rw [this]
@[simp] theorem Lb {ds:List D}{x:D}:ixG (.tup (x::d::ds)) (.int 1) mu=some (d,mu):=by
 have:ixD (.tup (x::d::ds)) (.int 1) mu=some (d,mu):=by
  have h:(1:Int)<((x::d::ds).length:Int):=by simp;ext
  simp only [ixD,atI,ixN,h,if_true]
  rfl
 unfold ixG
 rw [this]
@[simp] theorem Ja {ds:List D}{x y:D}:ixG (.tup (x::y::d::ds)) (.int 2) mu=some (d,mu):=by
 have:ixD (.tup (x::y::d::ds)) (.int 2) mu=some (d,mu):=by
  have h:(2:Int)<((x::y::d::ds).length:Int):=by simp;ext
  simp only [ixD,atI,ixN,h,if_true]
  rfl
 unfold ixG
 rw [this]
@[simp] theorem Sy {ds:List D}:ixG (.lst (d::ds)) (.int 0) mu=some (d,mu):=by
 have:ixD (.lst (d::ds)) (.int 0) mu=some (d,mu):=by simp [ixD,atI,ixN,CI]
 unfold ixG
 rw [this]
theorem Tz {ds:List D}{j:Nat}(s:D)(hs:s=.lst ds∨s=.tup ds)(h:ds[j]? = some d):ixG s (.int j) mu=some (d,mu):=by
 obtain ⟨hl,e⟩:=Ad.mp h
 have a:atI ds (j:Int)=some d:=by
  unfold atI ixN
  rw [if_pos (by ext),if_pos (by ext)]
  simpa using h
 unfold ixG
 rcases hs with rfl|rfl<;>simp [ixD,CI,a]
theorem Uk {bs:List Bool}:Mm [.lst (bs.map D.bl)] mu=some (.bl (bs.all id),mu):=by
 have:GP (bs.map D.bl)=some bs:=by
  induction bs with
  | nil=>rfl
  | cons b bs ih=>simp [GP,ih]
 simp [Mm,quF,CI,this]
end
theorem Jo {m0:Sto}{tg:Gx}{tt:Tx}{el:Ex}{ro:Ro}{mu:Sto}(p:D->Bool)(g:D->D):∀ ds:List D,(∀ d∈ds,∃ ro1,tg d ro mu=some (ro1,mu)∧tt ro1 mu=some (p d,mu)∧(p d=true->el ro1 mu=some (g d,mu)))->Gu none m0 tg tt el ro ds mu=some ((ds.filter p).map g,mu)
 | [],_=>rfl
 | d::ds,h=>by
  obtain ⟨ro1,e1,e2,e3⟩:=h d (.head _)
  have ih:=Jo (m0:=m0) p g ds λd' hd=>h d' (.tail _ hd)
  unfold Gu
  rw [e1,B7,e2,B7]
  cases c:p d with
  | true=>rw [if_pos rfl,e3 c,B7,Dd,if_pos (show gOk none m0 mu from True.intro),ih,B7,List.filter_cons_of_pos c,Bi]
  | false=>rw [if_neg AQ,Dd,if_pos (show gOk none m0 mu from True.intro),ih,List.filter_cons_of_neg (by simp [c])]
theorem F1 {m0:Sto}{tg:Gx}{el:Ex}{ro:Ro}{mu:Sto}(g:D->D)(ds:List D)(h:∀ d∈ds,∃ ro1,tg d ro mu=some (ro1,mu)∧el ro1 mu=some (g d,mu)):Gu none m0 tg tY el ro ds mu=some (ds.map g,mu):=by
 have:=Jo (m0:=m0) (tg:=tg) (tt:=tY) (el:=el) (ro:=ro) (mu:=mu) (λ_=>true) g ds λd hd=>by
  obtain ⟨ro1,e1,e2⟩:=h d hd
  exact ⟨ro1,e1,rfl,λ_=>e2⟩
 rw [this,List.filter_eq_self.mpr (λ_ _=>rfl)]
theorem Tg {m0:Sto}{tg:Gx}{el:Ex}{ro:Ro}{mu:Sto}(g:D->Bool)(ds:List D)(h:∀ d∈ds,∃ ro1,tg d ro mu=some (ro1,mu)∧el ro1 mu=some (.bl (g d),mu)):Gu none m0 tg tY el ro ds mu=some ((ds.map g).map D.bl,mu):=by
 rw [F1 (λd=>.bl (g d)) ds h,AV]
 rfl
@[simp] theorem S9 {mu:Sto}{ds:List D}{g:D->Bool}:Mm [.lst ((ds.map g).map D.bl)] mu=some (.bl (ds.all g),mu):=by
 rw [Uk,List.all_map]
 rfl
end PV
namespace K1
open PySem L2 PyProof.Rows
noncomputable abbrev Cy:Str:="abcdefghijklmnopqrstuvwxyz0123456789"
structure IsW (x:Str):Prop where
 lo:1≤x.length
 hi:x.length≤8
 al:∀ c∈x.cps.toList,c∈Cy.cps.toList
theorem EF:Cy.cps.toList.length=36:=by symm
theorem Ny:Cy.cps.toList.Nodup:=by symm
theorem Te (c:Nat)(n:Int)(h0:0≤n)(h7:n≤7):MulOk ⟨#[c]⟩ n:=by
 have e:n=0∨n=1∨n=2∨n=3∨n=4∨n=5∨n=6∨n=7:=by ext
 have l:(⟨#[c]⟩:Str).length=1:=rfl
 unfold MulOk
 rw [l]
 rcases e with rfl|rfl|rfl|rfl|rfl|rfl|rfl|rfl<;>decide
theorem mul_list (c:Nat)(n:Int)(h0:0≤n)(h7:n≤7):(Txt.mul ⟨#[c]⟩ n).cps.toList=List.replicate n.toNat c:=by
 have e:n=0∨n=1∨n=2∨n=3∨n=4∨n=5∨n=6∨n=7:=by ext
 rcases e with rfl|rfl|rfl|rfl|rfl|rfl|rfl|rfl<;>rfl
theorem Np {x:Str}{j:Int}(h0:0≤j)(h1:j≤x.length):(Txt.slice x none (some j)).cps.toList=x.cps.toList.take j.toNat:=by
 have h:=slice_closes_to (x:=x) (j:=j) ⟨h0,by simpa [Str.length] using h1⟩
 rw [eq_of_beq h]
 simp
theorem Ko {x:Str}{j:Int}(h0:0≤j)(h1:j≤x.length):(Txt.slice x (some j) none).cps.toList=x.cps.toList.drop j.toNat:=by
 rw [slice_from_eq h0 h1 rfl]
 apply List.take_of_length_le
 simp [Str.length]
 ext
def wrd (A B:Str)(fi st:Int)(k:Nat):Str:=A++⟨#[Cy.cps.toList.getD ((fi+st*k) % 36).toNat 0]⟩++B
theorem Ke (A B:Str)(fi st:Int)(k:Nat):(wrd A B fi st k).cps.toList=A.cps.toList++[Cy.cps.toList.getD ((fi+st*k) % 36).toNat 0]++B.cps.toList:=by
 unfold wrd
 rw [Str.cps_append,Str.cps_append,AN,AN]
theorem Fy {j:Int}(h0:0≤j)(h1:j<36):Cy.cps.toList[j.toNat]? = some (Cy.cps.toList.getD j.toNat 0):=by
 have h:j.toNat<Cy.cps.toList.length:=by rw [EF];ext
 rw [AG,Am h]
 rfl
def Hf (st:Int):Prop:=st=1∨st=5∨st=7∨st=11∨st=13∨st=17
theorem Nn {fi st:Int}{j k:Nat}(hs:Hf st)(hj:j<6)(hk:k<6)(e:(fi+st*j) % 36=(fi+st*k) % 36):j=k:=by
 rcases hs with rfl|rfl|rfl|rfl|rfl|rfl<;>ext
theorem Qf {A B:Str}{fi st:Int}{j k:Nat}(hs:Hf st)(hj:j<6)(hk:k<6)(e:wrd A B fi st j=wrd A B fi st k):j=k:=by
 have h:=congrArg (λs:Str=>s.cps.toList) e
 simp only [Ke,List.append_cancel_right_eq,List.append_cancel_left_eq,List.cons.injEq,and_true] at h
 refine Nn (fi:=fi) hs hj hk ?_
 have a0:=Bk (fi+st*j) (show (36:Int)≠0 by decide)
 have a1:=Be (fi+st*j) (show (0:Int)<36 by decide)
 have b0:=Bk (fi+st*k) (show (36:Int)≠0 by decide)
 have b1:=Be (fi+st*k) (show (0:Int)<36 by decide)
 have e1:=Fy a0 a1
 have e2:=Fy b0 b1
 rw [h,← e2] at e1
 have l1:((fi+st*j) % 36).toNat<Cy.cps.toList.length:=by rw [EF];ext
 have l2:((fi+st*k) % 36).toNat<Cy.cps.toList.length:=by rw [EF];ext
 rw [Am l1,Am l2] at e1
 have:=(List.getElem_inj Ny).mp (AB e1)
 ext
theorem Qg {A B:Str}{fi st:Int}{k:Nat}{c:Nat}(hc:c∈Cy.cps.toList)(hA:∀ x∈A.cps.toList,x=c)(hB:∀ x∈B.cps.toList,x=c)(hl:A.length+B.length≤7):IsW (wrd A B fi st k):=by
 have h:=Ke A B fi st k
 have hl':(wrd A B fi st k).length=A.length+1+B.length:=by
  unfold wrd
  rw [PySem.Str.length_append,PySem.Str.length_append]
  rfl
 refine ⟨by ext,by ext,λx hx=>?_⟩
 rw [h] at hx
 rcases AA.mp hx with hy|hy
 ·rcases AA.mp hy with hz|hz
  ·rw [hA x hz];exact hc
  ·rw [Aq.mp hz]
   exact Ag (Fy (Bk (fi+st*k) (show (36:Int)≠0 by decide)) (Be (fi+st*k) (show (0:Int)<36 by decide)))
 ·rw [hB x hy];exact hc
def J3 (A B:Str)(fi st:Int)(n:Nat):List Str:=(List.range n).map (wrd A B fi st)
theorem Qw {A B:Str}{fi st:Int}{n:Nat}(hs:Hf st)(hn:n≤6):(J3 A B fi st n).Nodup:=by
 unfold J3
 rw [AI,Bo]
 refine List.Pairwise.imp_of_mem (λ{a b} ha hb hne e=>hne ?_) (AI.mp List.nodup_range)
 exact Qf hs (AD (List.mem_range.mp ha) hn) (AD (List.mem_range.mp hb) hn) e
end K1
namespace PV
open PySem L2 PyProof.Rows K1
theorem Of {j:Int}{mu:Sto}(h0:0≤j)(h1:j<36):ixD (.str Cy) (.int j) mu=some (.str ⟨#[Cy.cps.toList.getD j.toNat 0]⟩,mu):=by
 unfold ixD
 dsimp only
 have h:j.toNat<Cy.cps.toList.length:=by rw [EF];ext
 have e:ixN Cy.cps.toList.length j=some j.toNat:=by unfold ixN;rw [if_pos h0,if_pos (by rw [EF];exact h1)]
 unfold atI
 rw [e,Option.bind_some,Fy h0 h1]
 rfl
theorem JT {j:Int}{mu:Sto}(h0:0≤j)(h1:j<36):ixG (.str Cy) (.int j) mu=some (.str ⟨#[Cy.cps.toList.getD j.toNat 0]⟩,mu):=by
 unfold ixG
 rw [Of h0 h1]
section
variable {ro:Ro} {mu:Sto} {d e:D} {a b c:Ex}
def Fu (T:String)(d:D)(m1:Sto):Rs D:=if CM m1 d=true then some (.bl (isi T d),m1) else none
@[simp] theorem Ug {T:String}:Qk T a ro mu=bM (a ro mu) (Fu T):=rfl
@[simp] theorem U8 {T:String}:Fu T .non mu=some (.bl ("NoneType"==T),mu):=by simp [Fu,CM,isi,tyN]
@[simp] theorem U5 {T:String}{x:Bool}:Fu T (.bl x) mu=some (.bl ("bool"==T||T=="int"),mu):=by simp [Fu,CM,isi,tyN]
@[simp] theorem U6 {T:String}{x:Int}:Fu T (.int x) mu=some (.bl ("int"==T),mu):=by simp [Fu,CM,isi,tyN]
@[simp] theorem Tn {T:String}{x:Str}:Fu T (.str x) mu=some (.bl ("str"==T),mu):=by simp [Fu,CM,isi,tyN]
@[simp] theorem Ve {T:String}{x:List D}:Fu T (.tup x) mu=some (.bl ("tuple"==T),mu):=by simp [Fu,CM,isi,tyN]
@[simp] theorem UM {T:String}{x:List D}:Fu T (.lst x) mu=some (.bl ("list"==T),mu):=by simp [Fu,CM,isi,tyN]
@[simp] theorem U0 {T:String}{x y:List D}:Fu T (.dct x y) mu=some (.bl ("dict"==T),mu):=by simp [Fu,CM,isi,tyN]
@[simp] theorem TY {T:String}{x:List D}:Fu T (.set x) mu=some (.bl ("set"==T),mu):=by simp [Fu,CM,isi,tyN]
@[simp] theorem UH {x y:Bool}:isD (.bl x) (.bl y) mu=some (.bl (decide (x=y)),mu):=by cases x<;>cases y<;>rfl
@[simp] theorem Rm {x y:Bool}:VM (.bl x) (.bl y) mu=some (.bl (!decide (x=y)),mu):=by cases x<;>cases y<;>rfl
@[simp] theorem Vl {P:Prop} [Decidable P]{q:Bool}:(if P then some (D.bl q,mu) else some (D.bl false,mu))=some (D.bl (decide P&&q),mu):=by
 by_cases c:P<;>simp [c]
@[simp] theorem Vv {P:Prop} [Decidable P]{q:Bool}:(if P then some (D.bl true,mu) else some (D.bl q,mu))=some (D.bl (decide P||q),mu):=by
 by_cases c:P<;>simp [c]
@[simp] theorem T8 {P:Prop} [Decidable P]{q:Bool}:(if P then some (q,mu) else some (false,mu))=some (decide P&&q,mu):=by
 by_cases c:P<;>simp [c]
@[simp] theorem UG {P:Prop} [Decidable P]{q:Bool}:(if P then some (true,mu) else some (q,mu))=some (decide P||q,mu):=by
 by_cases c:P<;>simp [c]
@[simp] theorem Vw {p q:Px}:eSl a p q ro mu=bM (a ro mu) λd m1=>bM (p ro m1) λlo m2=>bM (q ro m2) λhi m3=>slD d lo hi m3:=rfl
@[simp] theorem U3:pNo ro mu=some (none,mu):=rfl
noncomputable def pB:D->Sto->Rs (Option Int)
 | .int i,m1=>some (some i,m1)
 | _,_=>none
@[simp] theorem VQ:DZ a ro mu=bM (a ro mu) pB:=by
 unfold DZ
 congr 1
 funext x m
 cases x<;>rfl
@[simp] theorem VP {i:Int}:pB (.int i) mu=some (some i,mu):=rfl
@[simp] theorem QL {ds:List D}{lo hi:Option Int}:slD (.tup ds) lo hi mu=some (.tup (cutD ds lo hi),mu):=rfl
@[simp] theorem U7 {ds:List D}{lo hi:Option Int}:slD (.lst ds) lo hi mu=some (.lst (cutD ds lo hi),mu):=rfl
@[simp] theorem SQ {α:Type}{xs:List α}:cutD xs (some 1) none=xs.drop 1:=by
 unfold cutD
 have:=HT.Jj xs.length 0 1
 rw [show (some (1:Int))=some ((1:Nat):Int) from rfl,this,HT.Hm]
 cases xs with
 | nil=>rfl
 | cons a r=>simp
mutual
theorem NN {n m:Nat}(h:n≤m):∀ {d:D},D6 n d=true->D6 m d=true
 | .non,_=>rfl
 | .bl _,_=>rfl
 | .int _,_=>rfl
 | .str _,_=>rfl
 | .ref k,e=>by
  simp only [D6,Al] at e ⊢
  ext
 | .tup ds,e=>by
  simp only [D6] at e ⊢
  exact D7 h e
 | .lst ds,e=>by
  simp only [D6] at e ⊢
  exact D7 h e
 | .set ds,e=>by
  simp only [D6] at e ⊢
  exact D7 h e
 | .dct ks ds,e=>by
  simp only [D6,Ab] at e ⊢
  exact ⟨D7 h e.1,D7 h e.2⟩
theorem D7 {n m:Nat}(h:n≤m):∀ {ds:List D},DB n ds=true->DB m ds=true
 | [],_=>rfl
 | d::ds,e=>by
  simp only [DB,Ab] at e ⊢
  exact ⟨NN h e.1,D7 h e.2⟩
end
end
end PV
namespace PV
open PySem L2 PyProof.Rows K1
variable {mu:Sto}
def ndB (ds:List D):Bool:=decide (ds.Nodup)
theorem N2 (ds:List D):∀ r:List D,(ds.foldl FW r).length≤r.length+ds.length∧((ds.foldl FW r).length=r.length+ds.length->(∀ d∈ds,d∉r)∧ds.Nodup):=by
 induction ds with
 | nil=>intro r;simp
 | cons d ds ih =>
  intro r
  rw [List.foldl_cons]
  by_cases c:d∈r
  ·rw [show FW r d=r by unfold FW;rw [if_pos c]]
   have:=(ih r).1
   refine ⟨by simp;ext,λh=>?_⟩
   simp at h
   ext
  ·rw [show FW r d=r++[d] by unfold FW;rw [if_neg c]]
   obtain ⟨h1,h2⟩:=ih (r++[d])
   simp only [An,List.length_cons,List.length_nil] at h1 h2 ⊢
   refine ⟨by ext,λh=>?_⟩
   obtain ⟨h3,h4⟩:=h2 (by ext)
   refine ⟨λe he=>?_,Bt.mpr ⟨λhd=>h3 d hd (by simp),h4⟩⟩
   rcases AH.mp he with rfl|he
   ·exact c
   ·exact λhr=>h3 e he (by simp [hr])
theorem ME (ds:List D):∀ r:List D,(∀ d∈ds,d∉r)->ds.Nodup->ds.foldl FW r=r++ds:=by
 induction ds with
 | nil=>intro r _ _;simp
 | cons d ds ih =>
  intro r h1 h2
  rw [List.foldl_cons,show FW r d=r++[d] by unfold FW;rw [if_neg (h1 d (.head _))]]
  rw [Bt] at h2
  rw [ih (r++[d]) (λe he hr=>?_) h2.2]
  ·simp
  ·rcases AA.mp hr with hr|hr
   ·exact h1 e (.tail _ he) hr
   ·rw [Aq.mp hr] at he
    exact h2.1 he
theorem Ji {ds:List D}(h:ds.Nodup):HV ds=ds:=by
 unfold HV
 rw [ME ds [] (λ_ _ h=>nomatch h) h]
 rfl
theorem Nt {ds:List D}:(HV ds).length=ds.length ↔ ds.Nodup:=by
 constructor
 ·intro h
  refine ((N2 ds []).2 ?_).2
  rw [List.length_nil,AU]
  exact h
 ·intro h
  rw [Ji h]
end PV
local macro_rules(kind:=Lean.Parser.Tactic.simpAutoUnfold)|s=>do
 let l:=s[4]
 let n:=@Lean.mkNullNode
 let f:=λb (s:String)=>#[.node .none `Lean.Parser.Tactic.simpLemma #[n b,n #[],Lean.mkIdent s.toName],.atom .none ","]
 return .node .none `Lean.Parser.Tactic.simp #[.atom .none "simp",s[1],s[2],n #[.atom .none "only"],l.setArg 1 (n (("Ul V9 Vp VB VV VE V0 Vq VU VR Vy T1 UN US T9 Uw Uu z_C Tt Vi VH UI TQ UT VJ VG Tu Vm UX VN We T6 V5 Va U9 Tf Ud R9 SY Sf RE To Um S4 SR Wb RK Vb Ub Uq Uc S6 R1 Rh Th RD Rq S3 Rr PY Ua Wd VY VT VI VX Vx Qv TZ UY Ui UO Uh TX Sm Rx UK Ut Ur Sw SW Sh Ru SG RM RV QH Ue Us QM S0 Lb Ja Sy S9 Ug U8 U5 U6 Tn Ve UM U0 TY UH Rm Vl Vv T8 UG Vw U3 VQ VP QL U7 SQ UC UA if_true if_false reduceIte AZ Bool.true_eq_false List.set_cons_zero List.set_cons_succ Bi List.map_nil List.length_cons List.length_nil Nat.reduceAdd Nat.reduceSub List.replicate_succ List.replicate_zero List.reduceReplicate List.cons_append List.nil_append Option.map_some Bool.not_true Bool.not_false List.getD_cons_zero List.getD_cons_succ AU decide_true decide_false Bool.decide_eq_true Bool.true_and Bool.false_and Bool.true_or Bool.false_or Bool.or_false Bool.and_true String.reduceBEq".splitOn).foldr (λs a=>f #[] s++a) (f #[.node .none `Lean.Parser.Tactic.simpPre #[.atom .none "↓"]] "reduceIte"++l[1].getArgs))),s[5]]
namespace PG
open PySem L2 PV PyProof.Rows K1
variable {mu:Sto}
def sgB (c:Nat):Bool:=decide (c∈Cy.cps.toList)
def sgs (x:Str):Bool:=x.cps.toList.all sgB
def wB (x:Str):Bool:=(decide (1≤(x.length:Int))&&decide ((x.length:Int)≤8))&&sgs x
def FV:D->Bool
 | .str x=>wB x
 | _=>false
theorem Hr {x:Str}:wB x=true ↔ IsW x:=by
 unfold wB sgs
 simp only [Ab,Al,Ay,sgB]
 constructor
 ·exact λ⟨⟨h1,h2⟩,h3⟩=>⟨by ext,by ext,h3⟩
 ·exact λh=>⟨⟨by have:=h.lo;ext,by have:=h.hi;ext⟩,h.al⟩
noncomputable def EU (lo hi:Int):D->Bool
 | .tup ds=>decide (lo≤(ds.length:Int))&&decide ((ds.length:Int)≤hi)
 | _=>false
def VZ:D->Bool
 | .tup ds=>ds.all FV
 | _=>false
theorem MG {ds:List D}(h:ds.all FV=true):∃ ss:List Str,ds=ss.map D.str∧∀ x∈ss,IsW x:=by
 induction ds with
 | nil=>exact ⟨[],rfl,λ_ h=>nomatch h⟩
 | cons d ds ih =>
  rw [List.all_cons,Ab] at h
  obtain ⟨ss,rfl,hs⟩:=ih h.2
  cases d with
  | str x =>
   refine ⟨x::ss,rfl,λy hy=>?_⟩
   rcases AH.mp hy with rfl|hy
   ·exact Hr.mp h.1
   ·exact hs y hy
  | _=>simp [FV] at h
def E7 (d:D):Bool:=EU 1 4 d&&(VZ d&&match d with|.tup ds=>ndB ds|_=>false)
def GA:D->Bool
 | .tup [a,b]=>FV a&&E7 b
 | _=>false
noncomputable def Gf:D->D
 | .tup (a::_)=>a
 | _=>.non
def QB:D->Bool
 | .tup ds=>(EU 1 4 (.tup ds)&&ds.all GA)&&ndB (ds.map Gf)
 | _=>false
noncomputable def T2:D->Int
 | .tup ds=>ds.length
 | _=>0
def SH (k c:D):Bool:=match k with
 | .int i=>decide (1≤i)&&decide (i≤T2 c)
 | _=>false
def GF:D->Bool
 | .tup [n,c,k]=>(FV n&&QB c)&&SH k c
 | _=>false
noncomputable def ltS:D->D->Bool
 | .str x,.str y=>decide (x.cps.toList<y.cps.toList)
 | _,_=>false
def GY (ds:List D):Bool:=(ds.zip ds.tail).all λp=>ltS p.1 p.2
def MK:D->Bool
 | .tup ds=>(EU 1 4 (.tup ds)&&ds.all GF)&&GY (ds.map Gf)
 | _=>false
end PG
namespace PV
open PySem L2 PyProof.Rows K1
theorem Me (ss:List Str):CY (ss.map D.str)=true:=by
 induction ss with
 | nil=>rfl
 | cons x xs ih=>simp [CY,Ca,ih]
theorem Es {ss:List Str}:(ss.map D.str).Nodup ↔ ss.Nodup:=by
 rw [AI,AI,Bo]
 constructor
 ·exact λh=>h.imp λn e=>n (by rw [e])
 ·exact λh=>h.imp λn e=>n (by injection e)
end PV
namespace PG
open PySem L2 PV PyProof.Rows K1
variable {mu:Sto}
end PG
namespace PV
open PySem L2 PyProof.Rows K1
theorem J9 (ss:List Str):PyData.depthAll (B4 (ss.map D.str))≤1:=by
 induction ss with
 | nil=>simp [B4,PyData.depthAll]
 | cons x xs ih=>simp [B4,toPy,PyData.depthAll,PyData.depth];ext
theorem LW (x y:Str):ltT (.str x) (.str y)=decide (x.cps.toList<y.cps.toList):=by
 unfold ltT
 rw [show B9 (.str x) (.str y)=EN x y from rfl,Bool.eq_iff_iff,beq_iff_eq,Er,Al]
theorem Ls {ss:List Str}(h:ss.length<64):Ds (ss.map D.str)=true:=by
 unfold Ds
 simp only [Ab,Al,Ae,Ay,Bool.or_eq_true,Ic]
 refine ⟨⟨⟨by ext,λd hd=>?_⟩,λd hd e he=>?_⟩,.inl λd hd=>?_⟩
 ·obtain ⟨x,_,rfl⟩:=Aj.mp hd
  rfl
 ·obtain ⟨x,_,rfl⟩:=Aj.mp hd
  obtain ⟨y,_,rfl⟩:=Aj.mp he
  rfl
 ·obtain ⟨x,_,rfl⟩:=Aj.mp hd
  rfl
theorem Q1 {ss:List Str}{mu:Sto}(h:ss.length<64):HM [.lst (ss.map D.str)] mu=some (.lst (Dx (ss.map D.str)),mu):=by
 simp only [HM,FA,Mt,FU,CI,Ls h,if_true]
theorem PJ {ss:List Str}{mu:Sto}(h:ss.length<64):G7 [.lst (ss.map D.str)] mu=some (.lst (Dx (ss.map D.str)),mu):=by
 unfold G7
 rw [Q1 h]
theorem Gp {es:List D}{ss:List Str}(h:es.Perm (ss.map D.str)):∃ ts:List Str,es=ts.map D.str∧ts.Perm ss:=by
 have al:∀ d∈es,∃ x,d=D.str x:=λd hd=>by
  obtain ⟨x,_,e⟩:=Aj.mp (h.mem_iff.mp hd)
  exact ⟨x,e.symm⟩
 have:∃ ts:List Str,es=ts.map D.str:=by
  clear h
  induction es with
  | nil=>exact ⟨[],rfl⟩
  | cons d es ih =>
   obtain ⟨x,rfl⟩:=al d (.head _)
   obtain ⟨ts,rfl⟩:=ih λd hd=>al d (.tail _ hd)
   exact ⟨x::ts,rfl⟩
 obtain ⟨ts,rfl⟩:=this
 refine ⟨ts,rfl,?_⟩
 have:=h.map (λd=>match d with|.str x=>x|_=>(⟨#[]⟩:Str))
 simpa [AV,Function.comp_def] using this
end PV
namespace PG
open PySem L2 PV PyProof.Rows K1
variable {mu:Sto}
theorem K4:∀ (ss:List Str),GY (ss.map D.str)=true ↔ ss.Pairwise λx y=>x.cps.toList<y.cps.toList
 | []=>by simp [GY]
 | [x]=>by simp [GY]
 | x::y::ss=>by
  have ih:=K4 (y::ss)
  have e:GY ((x::y::ss).map D.str)=(decide (x.cps.toList<y.cps.toList)&&GY ((y::ss).map D.str)):=rfl
  rw [e,Ab,ih,Al]
  constructor
  ·intro ⟨h1,h2⟩
   refine List.pairwise_cons.mpr ⟨λz hz=>?_,h2⟩
   rcases AH.mp hz with rfl|hz
   ·exact h1
   ·exact List.lt_trans h1 ((List.pairwise_cons.mp h2).1 z hz)
  ·exact λh=>⟨(List.pairwise_cons.mp h).1 y (by simp),(List.pairwise_cons.mp h).2⟩
theorem OI {ss:List Str}(h:ss.Pairwise λx y=>x.cps.toList<y.cps.toList):ss.Nodup:=by
 rw [AI]
 exact h.imp λl e=>by subst e;exact List.lt_irrefl _ l
theorem Pn (ss:List Str):decide (ss.map D.str=Dx (HV (ss.map D.str)))=GY (ss.map D.str):=by
 have ord:∀ (ts:List Str),∀ d∈ts.map D.str,Dv d=true:=λts d hd=>by
  obtain ⟨x,_,rfl⟩:=Aj.mp hd
  rfl
 rw [Bool.eq_iff_iff,Al,K4]
 constructor
 ·intro h
  have p:=CF (HV (ss.map D.str))
  rw [← h] at p
  have nd:=Nt.mp p.length_eq.symm
  have up:=G2 (HV (ss.map D.str))
  rw [← h,Bo] at up
  have ne:=AI.mp (Es.mp nd)
  refine (up.and ne).imp λ{x y} ⟨l,n⟩=>?_
  have l':¬ y.cps.toList<x.cps.toList:=by
   unfold leT at l
   rw [LW] at l
   simpa using l
  have c:=GK x y
  cases q:EN x y with
  | lt=>exact Er.mp q
  | eq=>exact (n (Gj.mp q)).elim
  | gt=>exact (l' (G0.mp q)).elim
 ·intro h
  rw [Ji (Es.mpr (OI h))]
  refine Gm (ord ss) (A7 _) ?_
  rw [Bo]
  refine h.imp λ{x y} l=>?_
  unfold leT
  rw [LW]
  have:=List.lt_asymm l
  simp [this]
end PG
namespace PV
open PySem L2 PyProof.Rows K1
variable {mu:Sto}
theorem Om {i j:Int}(h:CMul i j):Ey (.int i) (.int j) mu=some (.int (i*j),mu):=by
 unfold Ey
 dsimp only
 rw [if_pos h]
theorem N9 {i j:Int}(h:IP i j):Hx (.int i) (.int j) mu=some (.int (i / j),mu):=by
 unfold Hx
 dsimp only
 rw [if_pos h]
theorem QC {o i:Ex}{d:D}{ro:Ro}:gIx o i d ro mu=bM (o ro mu) λx m1=>bM (i ro m1) λe m2=>bM (putG x e d m2) λ_ m3=>some (ro,m3):=rfl
theorem QU {k:Nat}{ds:List D}{v:D}{j:Nat}(h:mu[k]? = some (.lst ds))(hj:j<ds.length):putG (.ref k) (.int j) v mu=some ((),mu.set k (.lst (ds.set j v))):=by
 have e:ixN ds.length (j:Int)=some j:=by
  unfold ixN
  rw [if_pos (by ext),if_pos (by ext),Int.toNat_natCast]
 simp only [putG,h,Pq,e]
theorem LC {k:Nat}{ds:List D}{d:D}{j:Nat}(h:mu[k]? = some (.lst ds))(hd:ds[j]? = some d):ixG (.ref k) (.int j) mu=some (d,mu):=by
 have:=(Ad.mp hd).1
 have e:ixN ds.length (j:Int)=some j:=by
  unfold ixN
  rw [if_pos (by ext),if_pos (by ext),Int.toNat_natCast]
 have:ixD (.ref k) (.int j) mu=some (d,mu):=by
  simp only [ixD,CI,h,atI,e,Option.bind_some,hd,Option.map_some]
 unfold ixG
 rw [this]
theorem Dz {k:Nat}{o o':MO}(h:mu[k]? = some o):(mu.set k o')[k]? = some o':=by
 have:=(Ad.mp h).1
 simp [this]
def HandOk (mu:Sto)(k n:Nat):Prop:=∃ a b c:Int,mu[k]? = some (.lst [.int a,.int b,.int c])∧(-(2 ^ 63)<b∧b<2 ^ 63)∧0≤c∧c+n<2 ^ 40
theorem HandOk.mono {mu:Sto}{k n n':Nat}(h:HandOk mu k n)(l:n'≤n):HandOk mu k n':=by
 obtain ⟨a,b,c,h1,h2,h3,h4⟩:=h
 exact ⟨a,b,c,h1,h2,h3,by ext⟩
theorem HandOk.lt {k n:Nat}(h:HandOk mu k n):k<mu.length:=by
 obtain ⟨a,b,c,h1,_⟩:=h
 exact (Ad.mp h1).1
def Flat (mu:Sto):Prop:=∀ (j:Nat) (o:MO),mu[j]? = some o->Hj mu.length o=true
structure Fr (k n:Nat) (mu mu':Sto):Prop where
 hand:HandOk mu' k n
 keep:∀ j,j≠k->mu'[j]? = mu[j]?
 len:mu'.length=mu.length
theorem Fr.trans {k n n':Nat}{a b c:Sto}(x:Fr k n a b)(y:Fr k n' b c):Fr k n' a c:=⟨y.hand,λj hk=>(y.keep j hk).trans (x.keep j hk),y.len.trans x.len⟩
theorem Fr.flat {k n:Nat}{a b:Sto}(x:Fr k n a b)(h:Flat a):Flat b:=by
 intro j o e
 by_cases c:j=k
 ·subst c
  obtain ⟨_,_,_,h1,_⟩:=x.hand
  rw [h1] at e
  cases e
  rfl
 ·rw [x.keep j c] at e
  rw [x.len]
  exact h j o e
def Run (r:Rs D)(k n:Nat)(mu:Sto)(P:D->Prop):Prop:=∃ d mu',r=some (d,mu')∧Fr k n mu mu'∧P d
theorem Tc {ds:List D}{t:Int}(h0:0≤t)(h1:t<ds.length):∃ d,d∈ds∧ds[t.toNat]? = some d:=by
 have h:t.toNat<ds.length:=by ext
 exact ⟨ds[t.toNat],Bl h,Am h⟩
theorem QI {ds:List D}{d:D}{t:Int}(s:D)(hs:s=.lst ds∨s=.tup ds)(h0:0≤t)(h:ds[t.toNat]? = some d):ixG s (.int t) mu=some (d,mu):=by
 have:=Tz (mu:=mu) s hs h
 rwa [Int.toNat_of_nonneg h0] at this
end PV
namespace PG
open PySem L2 PV PyProof.Rows K1
variable {mu:Sto}
theorem Dg {k n:Nat}{m:Int}(h:HandOk mu k (n+1))(m0:0<m)(m1:m<1073741824):Run (B3 [.ref k,.int m] mu) k n mu λd=>∃ t:Int,d=.int t∧0≤t∧t<m:=by
 obtain ⟨a,b,c,h1,h2,h3,h4⟩:=h
 have hk:k<mu.length:=(Ad.mp h1).1
 have fr:∀ a' c':Int,0≤c'->c'≤c+1->Fr k n mu (mu.set k (.lst [.int a',.int b,.int c'])):=λa' c' z1 z2=>⟨⟨a',b,c',Dz h1,h2,z1,by ext⟩,λj hj=>by rw [Aw (Ne.symm hj)],by simp⟩
 have i0:ixG (.ref k) (.int 0) mu=some (.int a,mu):=LC (j:=0) h1 rfl
 by_cases ha:0<a
 ·refine ⟨.int (a % m),_,?_,fr (a / m) c h3 (by ext),a % m,rfl,Bk _ (by ext),Be _ m0⟩
  have cd:IP a m:=⟨m0,m1⟩
  have p0:∀ v,putG (.ref k) (.int 0) v mu=some ((),mu.set k (.lst [v,.int b,.int c])):=λv=>QU (j:=0) h1 (by simp)
  have ha':decide (0<a)=true:=by simp [ha]
  simp! [B3,EY,i0,ha',GJ m0,N9 cd,QC,p0]
 ·refine ⟨.int (((b*(48271+2*(c+1)*(c+1)+65537*(c+1)) % 2305843009213693921*(b*(48271+2*(c+1)*(c+1)+65537*(c+1)) % 2305843009213693921 % 1000003+(c+1)*99991+11) % 2305843009213693907) / 97+(b*(48271+2*(c+1)*(c+1)+65537*(c+1)) % 2305843009213693921*(b*(48271+2*(c+1)*(c+1)+65537*(c+1)) % 2305843009213693921 % 1000003+(c+1)*99991+11) % 2305843009213693907) / 1000033) % m),_,?_,fr a (c+1) (by ext) (by ext),_,rfl,Bk _ (by ext),Be _ m0⟩
  have hs:∀ o,(mu.set k o)[k]? = some o:=λo=>Dz h1
  have c1:CMul 2 (c+1):=.inl ⟨by decide,by decide⟩
  have c2:CMul (2*(c+1)) (c+1):=.inl ⟨by ext,by ext⟩
  have c3:CMul 65537 (c+1):=.inl ⟨by decide,by decide⟩
  have c4:∀ z,CMul b z:=λz=>.inl ⟨by ext,by ext⟩
  have c5:CMul (c+1) 99991:=.inr ⟨by decide,by decide⟩
  have c6:∀ y z:Int,CMul (y % 2305843009213693921) z:=λy z=>.inl ⟨by ext,by ext⟩
  have c7:∀ y:Int,IP y 97:=λy=>⟨by decide,by decide⟩
  have c8:∀ y:Int,IP y 1000033:=λy=>⟨by decide,by decide⟩
  have i2:ixG (.ref k) (.int 2) mu=some (.int c,mu):=LC (j:=2) h1 rfl
  have p2:∀ v,putG (.ref k) (.int 2) v mu=some ((),mu.set k (.lst [.int a,.int b,v])):=λv=>QU (j:=2) h1 (by simp)
  have j1:∀ v,ixG (.ref k) (.int 1) (mu.set k (.lst [.int a,.int b,v]))=some (.int b,mu.set k (.lst [.int a,.int b,v])):=λv=>LC (j:=1) (hs _) rfl
  have j2:∀ v,ixG (.ref k) (.int 2) (mu.set k (.lst [.int a,.int b,v]))=some (v,mu.set k (.lst [.int a,.int b,v])):=λv=>LC (j:=2) (hs _) rfl
  have ha':decide (0<a)=false:=by simp [ha]
  simp! [B3,EY,i0,ha',GJ,GJ m0,N9,Om,QC,i2,p2,j1,j2,c1,c2,c3,c4,c5,c6,c7,c8,Int.reduceLT]
theorem pick_run {k n:Nat}{s:D}{ds:List D}(hs:s=.lst ds∨s=.tup ds)(hn:ds≠[])(hl:ds.length<1073741824)(h:HandOk mu k (n+1)):Run (Dm [.ref k,s] mu) k n mu λd=>d∈ds:=by
 have pos:0<ds.length:=List.length_pos_iff.mpr hn
 obtain ⟨_,mu',e,fr,t,rfl,t0,t1⟩:=Dg (m:=ds.length) h (by ext) (by ext)
 obtain ⟨d,hd,ed⟩:=Tc t0 t1
 refine ⟨d,mu',?_,fr,hd⟩
 have ix:=QI (mu:=mu') s hs t0 ed
 rcases hs with rfl|rfl
 ·simp! [Dm,Fg,e,ix]
 ·simp! [Dm,Fg,e,ix]
theorem M3:∀ c∈Cy.cps.toList,decide (c<0x110000)=true:=by symm
theorem HD {x:Str}(h:∀ c∈x.cps.toList,c∈Cy.cps.toList):PyData.strOk x=true:=by
 unfold PyData.strOk
 rw [← Array.all_toList,Ay]
 exact λc hc=>M3 c (h c hc)
theorem Ov {x y:Str}(h:x.length+y.length≤sizeLine):Ci (.str x) (.str y) mu=some (.str (x++y),mu):=by
 simp only [Ci,h,if_true]
theorem QS {x:Str}{lo hi:Option Int}(h:PyData.strOk (Txt.slice x lo hi)=true):slD (.str x) lo hi mu=some (.str (Txt.slice x lo hi),mu):=by
 simp only [slD,h,if_true]
theorem GB {k n:Nat}{many:Int}(m0:0≤many)(m6:many≤6)(h:HandOk mu k (n+5)):Run (CW [.ref k,.int many,.int 8] mu) k n mu λd=>∃ ws:List Str,d=.lst (ws.map D.str)∧(ws.length:Int)=many∧ws.Nodup∧∀ x∈ws,IsW x:=by
 obtain ⟨_,mu1,e1,f1,fi,rfl,a0,a1⟩:=Dg (m:=36) (n:=n+4) h (by decide) (by decide)
 obtain ⟨st,mu2,e2,f2,hst⟩:=pick_run (s:=.lst [.int 1,.int 5,.int 7,.int 11,.int 13,.int 17]) (n:=n+3) (.inl rfl) (by simp) (by decide) f1.hand
 obtain ⟨_,mu3,e3,f3,si,rfl,b0,b1⟩:=Dg (m:=36) (n:=n+2) f2.hand (by decide) (by decide)
 obtain ⟨mv,mu4,e4,f4,hmv⟩:=pick_run (s:=.lst [.int 0,.int 1,.int 0,.int 2,.int 7]) (n:=n+1) (.inl rfl) (by simp) (by decide) f3.hand
 obtain ⟨s',rfl,hs⟩:∃ s':Int,st=.int s'∧Hf s':=by
  simp only [AH,Bj,or_false] at hst
  unfold Hf
  rcases hst with rfl|rfl|rfl|rfl|rfl|rfl<;>exact ⟨_,rfl,by decide⟩
 obtain ⟨v,rfl,v0,v7⟩:∃ v:Int,mv=.int v∧0≤v∧v≤7:=by
  simp only [AH,Bj,or_false] at hmv
  rcases hmv with rfl|rfl|rfl|rfl|rfl<;>exact ⟨_,rfl,by decide,by decide⟩
 have hmin:JG [.int 7,.int v] mu4=some (.int v,mu4):=by
  have:(if v<7 then v else 7)=v:=by split<;>ext
  simp only [JG,PV.ints2,Option.map_some,this]
 obtain ⟨ch,hc,ix3⟩:∃ ch,ch∈Cy.cps.toList∧ixG (.str (Str.ofString "abcdefghijklmnopqrstuvwxyz0123456789")) (.int si) mu3=some (.str ⟨#[ch]⟩,mu3):=⟨_,Ag (Fy b0 b1),JT b0 b1⟩
 have len:(Txt.mul ⟨#[ch]⟩ v).length=v.toNat:=by
  have:=congrArg List.length (mul_list (ch) v v0 v7)
  simpa [Str.length] using this
 generalize hst:Txt.mul ⟨#[ch]⟩ v=stem at len
 have stl:stem.cps.toList=List.replicate v.toNat (ch):=by rw [← hst];exact mul_list _ v v0 v7
 have stAll:∀ x∈stem.cps.toList,x=ch:=λx hx=>by rw [stl] at hx;exact (List.mem_replicate.mp hx).2
 obtain ⟨_,mu5,e5,f5,at',rfl,c0,c1⟩:=Dg (m:=(stem.length:Int)+1) (n:=n) f4.hand (by ext) (by ext)
 have at2:at'≤stem.length:=by ext
 have sl1:=Np (x:=stem) c0 at2
 have sl2:=Ko (x:=stem) c0 at2
 have allA:∀ x∈(Txt.slice stem none (some at')).cps.toList,x=ch:=λx hx=>stAll x (by rw [sl1] at hx;exact A8 hx)
 have allB:∀ x∈(Txt.slice stem (some at') none).cps.toList,x=ch:=λx hx=>stAll x (by rw [sl2] at hx;exact List.mem_of_mem_drop hx)
 have lens:(Txt.slice stem none (some at')).length+(Txt.slice stem (some at') none).length≤7:=by
  have l1:=congrArg List.length sl1
  have l2:=congrArg List.length sl2
  simp only [Array.length_toList,AE,BD] at l1 l2
  have ls:stem.cps.size=v.toNat:=len
  unfold Str.length
  ext
 refine ⟨.lst ((J3 (Txt.slice stem none (some at')) (Txt.slice stem (some at') none) fi s' many.toNat).map D.str),mu5,?_,(((f1.trans f2).trans f3).trans f4).trans f5,_,rfl,by simp [J3];ext,Qw hs (by ext),λx hx=>?_⟩
 ·have mo:MulOk ⟨#[ch]⟩ v:=Te _ v v0 v7
  have okm:PyData.strOk stem=true:=HD λc h=>by rw [stAll c h];exact hc
  have okA:PyData.strOk (Txt.slice stem none (some at'))=true:=HD λc h=>by rw [allA c h];exact hc
  have okB:PyData.strOk (Txt.slice stem (some at') none)=true:=HD λc h=>by rw [allB c h];exact hc
  have zl:stem.length≤sizeLine:=by rw [AR];ext
  have lc:Gu none mu5 (gNm 0) tY (B0 Ci (B0 Ci (eSl (BS 1) pNo (DZ (BS 2))) (B0 ixG (BS 3) (B0 EI (B0 Ci (BS 4) (B0 Ey (BS 5) (BS 0))) (eC (.int 36))))) (eSl (BS 1) (DZ (BS 2)) pNo)) [none,some (.str stem),some (.int at'),some (.str Cy),some (.int fi),some (.int s')] (Eh 0 many.toNat) mu5=some ((J3 (Txt.slice stem none (some at')) (Txt.slice stem (some at') none) fi s' many.toNat).map D.str,mu5):=by
   have ew:(J3 (Txt.slice stem none (some at')) (Txt.slice stem (some at') none) fi s' many.toNat).map D.str=(Eh 0 many.toNat).map λd=>match d with|.int i=>.str (wrd (Txt.slice stem none (some at')) (Txt.slice stem (some at') none) fi s' i.toNat)|_=>.non:=by
    unfold J3 Eh
    rw [AV,AV]
    refine List.map_congr_left λj _=>?_
    simp
   rw [ew]
   refine F1 _ _ λd hd=>⟨_,rfl,?_⟩
   unfold Eh at hd
   obtain ⟨j,hj,rfl⟩:=Aj.mp hd
   have i0:=Bk (fi+s'*(j:Int)) (show (36:Int)≠0 by decide)
   have i1:=Be (fi+s'*(j:Int)) (show (0:Int)<36 by decide)
   have ix:=JT (mu:=mu5) i0 i1
   have cm:CMul s' (j:Int):=.inl (by rcases hs with rfl|rfl|rfl|rfl|rfl|rfl<;>exact ⟨by decide,by decide⟩)
   have z1:(Txt.slice stem none (some at')).length+(⟨#[Cy.cps.toList.getD ((fi+s'*(j:Int)) % 36).toNat 0]⟩:Str).length≤sizeLine:=by
    rw [AR,show (⟨#[Cy.cps.toList.getD ((fi+s'*(j:Int)) % 36).toNat 0]⟩:Str).length=1 from rfl]
    ext
   have z2:(Txt.slice stem none (some at')++(⟨#[Cy.cps.toList.getD ((fi+s'*(j:Int)) % 36).toNat 0]⟩:Str)).length+(Txt.slice stem (some at') none).length≤sizeLine:=by
    rw [AR,PySem.Str.length_append,show (⟨#[Cy.cps.toList.getD ((fi+s'*(j:Int)) % 36).toNat 0]⟩:Str).length=1 from rfl]
    ext
   simp! [QS okA,QS okB,Om cm,GJ,Int.reduceLT,Int.zero_add,ix,Ov z1,Ov z2,Int.toNat_natCast]
   rfl
  have mm:Ey (.str ⟨#[ch]⟩) (.int v) mu4=some (.str stem,mu4):=by
   unfold Ey
   dsimp only
   rw [hst,if_pos ⟨mo,zl,okm⟩]
  have rg:=PR (mu:=mu5) (ro:=[some (.ref k),some (.int many),some (.int 8),some (.str Cy),some (.int fi),some (.int s'),some (.str stem),some (.int at')]) (r:=BR (BS 1) BW) (n:=many) (m:=mu5) rfl (by ext) (by rw [AR];ext)
  have rg':iRg (BR (BS 1) BW) [some (.ref k),some (.int many),some (.int 8),some (.str (Str.ofString "abcdefghijklmnopqrstuvwxyz0123456789")),some (.int fi),some (.int s'),some (.str stem),some (.int at')] mu5=some ((Eh 0 many.toNat,none),mu5):=rg
  simp! [CW,FE,e1,e2,e3,ix3,Int.reduceSub,e4,hmin,mm,e5,rg',lc]
 ·unfold J3 at hx
  obtain ⟨j,_,rfl⟩:=Aj.mp hx
  exact Qg hc allA allB lens
theorem M8 {k n:Nat}{ns:List Int}(hk:k<64)(hn:n<2 ^ 39):∃ o,Dl [.lst (ns.map D.int),.int k] mu=some (.ref mu.length,mu++[o])∧HandOk (mu++[o]) mu.length n:=by
 have fin:∀ c:Int,∃ a b:Int,sRt (DA (BR (B0 Ey (BS 2) (BX Nz (BR (B0 geD (BS 2) (B0 Nb (eC (.int 10)) (eC (.int 18)))) BW))) (BR (B0 Ci (B0 Ci (B0 EI (BS 2) (eC (.int 2305843009213693951))) (B0 Ey (eC (.int 7919)) (BS 1))) (eC (.int 3))) (BR (eC (.int 0)) BW)))) [some (.lst (ns.map D.int)),some (.int k),some (.int c)] mu=some ((.rt (.ref mu.length),[some (.lst (ns.map D.int)),some (.int k),some (.int c)]),mu++[.lst [.int a,.int b,.int 0]])∧(-(2 ^ 63)<b∧b<2 ^ 63):=by
  intro c
  refine ⟨c*(if (1000000000000000000:Int)≤c then 1 else 0),c % 2305843009213693951+7919*(k:Int)+3,?_,?_⟩
  ·have p1:L8 10 18:=⟨by decide,by decide,by decide⟩
   have p3:CMul 7919 (k:Int):=.inl ⟨by decide,by decide⟩
   have p4:CMul c (if (1000000000000000000:Int)≤c then 1 else 0):=.inr (by split<;>exact ⟨by decide,by decide⟩)
   simp [sRt,DA,BR,BW,B0,BS,BX,eC,bM,geD,M9,Nb,p1,Nz,intOf,Ey,p3,Ci,EI,p4]
  ·have:=Bk c (show (2305843009213693951:Int)≠0 by decide)
   have:=Be c (show (0:Int)<2305843009213693951 by decide)
   ext
 have done:∀ (a b:Int),(-(2 ^ 63)<b∧b<2 ^ 63)->HandOk (mu++[.lst [.int a,.int b,.int 0]]) mu.length n:=λa b hb=>⟨a,b,0,by simp,hb,Int.le_refl _,by ext⟩
 by_cases c:k<ns.length
 ·have e:ixG (.lst (ns.map D.int)) (.int k) mu=some (.int ns[k],mu):=Tz _ (.inl rfl) (by simp [c])
  obtain ⟨a,b,e2,hb⟩:=fin ns[k]
  refine ⟨_,?_,done a b hb⟩
  have c':decide ((k:Int)<((ns.map D.int).length:Int))=true:=by simp [c]
  generalize hR:sRt (DA _)=R at e2
  simp only [Dl,Ff,hR]
  simp! [c',e,e2]
 ·obtain ⟨a,b,e2,hb⟩:=fin 0
  refine ⟨_,?_,done a b hb⟩
  have c':decide ((k:Int)<((ns.map D.int).length:Int))=false:=by simp [c]
  generalize hR:sRt (DA _)=R at e2
  simp only [Dl,Ff,hR]
  simp! [c',e2]
end PG
namespace PV
open PySem L2 PyProof.Rows K1
variable {mu:Sto}
theorem D5 {m0:Sto}{tg:Gx}{body:Sx}(Inv:Nat->Ro->Sto->Prop):∀ (ds:List D) (i:Nat) (ro:Ro) (mu:Sto),Inv i ro mu->(∀ j d ro mu,ds[j]? = some d->Inv (i+j) ro mu->∃ ro1 m1 ro2 m2,tg d ro mu=some (ro1,m1)∧body ro1 m1=some ((.nx,ro2),m2)∧Inv (i+j+1) ro2 m2) ->
  ∃ ro' mu',DX none m0 tg body ds ro mu=some ((.nx,ro'),mu')∧Inv (i+ds.length) ro' mu'
 | [],i,ro,mu,h,_=>⟨ro,mu,rfl,h⟩
 | d::ds,i,ro,mu,h,st=>by
  obtain ⟨ro1,m1,ro2,m2,e1,e2,h2⟩:=st 0 d ro mu rfl h
  obtain ⟨ro',mu',e3,h3⟩:=D5 (m0:=m0) (tg:=tg) (body:=body) Inv ds (i+1) ro2 m2 h2 λj d' ro mu ed hi=>by
   have:=st (j+1) d' ro mu (by simpa using ed) (by rw [show i+(j+1)=i+1+j by ext];exact hi)
   rw [show i+(j+1)+1=i+1+j+1 by ext] at this
   exact this
  refine ⟨ro',mu',?_,by rw [List.length_cons,show i+(ds.length+1)=i+1+ds.length by ext];exact h3⟩
  unfold DX
  rw [e1,B7,e2,B7]
  dsimp only
  rw [Dd,if_pos (show gOk none m0 m2 from True.intro),e3]
theorem OM {n j:Nat}{d:D}(h:(Eh 0 n)[j]? = some d):d=.int j∧j<n:=by
 unfold Eh at h
 rw [Ar] at h
 cases q:(List.range n)[j]? with
 | none=>rw [q] at h;cases h
 | some k =>
  rw [q] at h
  obtain ⟨hj,e⟩:=Ad.mp q
  rw [List.length_range] at hj
  rw [List.getElem_range] at e
  subst e
  exact ⟨by simpa using h.symm,hj⟩
theorem O4 (n:Nat):(Eh 0 n).length=n:=by simp [Eh]
theorem append_at {mu':Sto}{r:Nat}{ds ds0:List D}{y:D}(h0:mu[r]? = some (.lst ds0))(h:mu'[r]? = some (.lst ds))(hl:ds.length<sizeLine){ro:Ro}{i:Nat}{e:Ex}(h1:BS i ro mu=some (.ref r,mu))(h2:e ro mu=some (y,mu')):Hw (BS i) (BR e BW) ro mu=some (.non,mu'.set r (.lst (ds++[y]))):=by
 have ok:CM mu (.ref r)=true:=by simp [CM,h0]
 have a1:FA [y]=some y:=rfl
 simp only [Hw,h1,Ul,ok,if_true,U9,Va,h2,a1,h,hl]
theorem O6 {n x y:Int}(hn:0<n)(h:x % n=y % n)(h1:x-y<n)(h2:y-x<n):x=y:=by
 have e1:=Int.mul_ediv_add_emod x n
 have e2:=Int.mul_ediv_add_emod y n
 have e:n*(x / n-y / n)=x-y:=by rw [Int.mul_sub];ext
 rcases Int.lt_trichotomy (x / n-y / n) 0 with c|c|c
 ·have:n*(x / n-y / n)≤n*(-1):=Int.mul_le_mul_of_nonneg_left (by ext) (by ext)
  ext
 ·rw [c] at e
  ext
 ·have:n*1≤n*(x / n-y / n):=Int.mul_le_mul_of_nonneg_left (by ext) (by ext)
  ext
noncomputable def rot (ws:List Str)(t:Int)(s:Nat):List Str:=(List.range s).map λj:Nat=>ws.getD (((j:Int)+t) % (ws.length:Int)).toNat ⟨#[]⟩
theorem G9 {ws:List Str}(hw:0<ws.length)(x:Int):ws[(x % (ws.length:Int)).toNat]? = some (ws.getD (x % (ws.length:Int)).toNat ⟨#[]⟩):=by
 have h0:=Bk x (show (ws.length:Int)≠0 by ext)
 have h1:=Be x (show (0:Int)<ws.length by ext)
 have h:(x % (ws.length:Int)).toNat<ws.length:=by ext
 rw [AG,Am h]
 rfl
theorem OY {ws:List Str}{t:Int}{s:Nat}(hw:0<ws.length):∀ x∈rot ws t s,x∈ws:=by
 intro x hx
 unfold rot at hx
 obtain ⟨j,_,rfl⟩:=Aj.mp hx
 exact Ag (G9 hw _)
theorem N7 {ws:List Str}{t:Int}{s:Nat}(hw:0<ws.length)(hd:ws.Nodup)(hs:s≤ws.length):(rot ws t s).Nodup:=by
 unfold rot
 rw [AI,Bo]
 refine List.Pairwise.imp_of_mem (λ{a b} ha hb hne e=>hne ?_) (AI.mp List.nodup_range)
 rw [List.mem_range] at ha hb
 have a0:=Bk ((a:Int)+t) (show (ws.length:Int)≠0 by ext)
 have a1:=Be ((a:Int)+t) (show (0:Int)<ws.length by ext)
 have b0:=Bk ((b:Int)+t) (show (ws.length:Int)≠0 by ext)
 have b1:=Be ((b:Int)+t) (show (0:Int)<ws.length by ext)
 have e1:=G9 hw ((a:Int)+t)
 have e2:=G9 hw ((b:Int)+t)
 rw [e,← e2] at e1
 have l1:(((a:Int)+t) % (ws.length:Int)).toNat<ws.length:=by ext
 have l2:(((b:Int)+t) % (ws.length:Int)).toNat<ws.length:=by ext
 rw [Am l1,Am l2] at e1
 have h:=(List.getElem_inj hd).mp (AB e1)
 have:=O6 (n:=ws.length) (x:=(a:Int)+t) (y:=(b:Int)+t) (by ext) (by ext) (by ext) (by ext)
 ext
theorem Jk (ws:List Str)(t:Int)(s:Nat):(rot ws t s).length=s:=by simp [rot]
theorem M4 {ws:List Str}(hw:0<ws.length)(x:Int):ixG (.lst (ws.map D.str)) (.int (x % (ws.length:Int))) mu=some (.str (ws.getD (x % (ws.length:Int)).toNat ⟨#[]⟩),mu):=by
 have h0:=Bk x (show (ws.length:Int)≠0 by ext)
 refine QI (ds:=ws.map D.str) _ (.inl rfl) h0 ?_
 rw [Ar,G9 hw]
 rfl
mutual
noncomputable def okD:D->Bool
 | .ref _=>false
 | .tup ds=>decide (ds.length≤1000)&&okL ds
 | .lst ds=>okL ds
 | .dct ks ds=>okL ks&&okL ds
 | .set ds=>okL ds
 | _=>true
noncomputable def okL:List D->Bool
 | []=>true
 | d::ds=>okD d&&okL ds
end
mutual
theorem Nd:∀ {d:D},okD d=true->D6 0 d=true
 | .non,_=>rfl
 | .bl _,_=>rfl
 | .int _,_=>rfl
 | .str _,_=>rfl
 | .ref k,e=>by simp [okD] at e
 | .tup ds,e=>by
  simp only [okD,Ab] at e
  simp only [D6]
  exact FO e.2
 | .lst ds,e=>by
  simp only [okD] at e
  simp only [D6]
  exact FO e
 | .set ds,e=>by
  simp only [okD] at e
  simp only [D6]
  exact FO e
 | .dct ks ds,e=>by
  simp only [okD,Ab] at e
  simp only [D6,Ab]
  exact ⟨FO e.1,FO e.2⟩
theorem FO:∀ {ds:List D},okL ds=true->DB 0 ds=true
 | [],_=>rfl
 | d::ds,e=>by
  simp only [okL,Ab] at e
  simp only [DB,Ab]
  exact ⟨Nd e.1,FO e.2⟩
end
theorem IV {ds:List D}:okL ds=true ↔ ∀ d∈ds,okD d=true:=by
 induction ds with
 | nil=>simp [okL]
 | cons d ds ih=>simp [okL,ih]
theorem Qo (ss:List Str):okL (ss.map D.str)=true:=by
 rw [IV]
 intro d hd
 obtain ⟨x,_,rfl⟩:=Aj.mp hd
 rfl
end PV
namespace PG
open PySem L2 PV PyProof.Rows K1
variable {mu:Sto}
theorem Mb {ss:List Str}(h0:0<ss.length)(h4:ss.length≤4)(hd:ss.Nodup)(hw:∀ x∈ss,IsW x):E7 (.tup (ss.map D.str))=true:=by
 have W:E7 (.tup (ss.map D.str))=(EU 1 4 (.tup (ss.map D.str))&&((ss.map D.str).all FV&&ndB (ss.map D.str))):=rfl
 rw [W]
 simp only [Ab,EU,Ae,Al,Ay,ndB]
 refine ⟨⟨by ext,by ext⟩,λd hd=>?_,Es.mpr hd⟩
 obtain ⟨x,hx,rfl⟩:=Aj.mp hd
 exact Hr.mpr (hw x hx)
def Ia:Sx:=(Cc (Cu (Dc (BR (B0 Ci (eC (.int 1)) (BX B3 (BR (BS 0) (BR (BS 3) BW)))) (BR (BX B3 (BR (BS 0) (BR (eC (.int 2)) BW))) BW))) (gTp 2 (Cg (gNm 13) (Cg (gNm 14) Ec)))) (Cc (Cu (BX Fo (BR (eLC (iRg (BR (BS 13) BW)) 1 [6,14] (gNm 0) (tY) (B0 ixG (BS 1) (B0 EI (B0 Ci (BS 0) (BS 2)) (BX FR (BR (BS 1) BW))))) BW)) (gNm 15)) (sEx (Hw (BS 11) (BR (Dc (BR (B0 ixG (BS 5) (B0 EI (B0 Ci (BS 12) (BS 10)) (BX FR (BR (BS 5) BW)))) (BR (BS 15) BW))) BW)))))
theorem OD {k n R b c j:Nat}{sh:Int}{a nms fnd nm1 x9:D}{ws st:List Str}{cs:List D}{x13 x14 x15:Option D}(hc:1≤c)(hc4:c≤4)(hw:0<ws.length)(hs:st.length=c+1)(sd:st.Nodup)(sW:∀ x∈st,IsW x)(hR:mu[R]? = some (.lst cs))(hcs:cs.length<100)(hkR:R≠k)(h:HandOk mu k (n+2)) :
  ∃ y13 y14 y15 m' vs,Ia [some (.ref k),some a,some (.int b),some (.int c),some nms,some (.lst (ws.map D.str)),some (.lst (st.map D.str)),some fnd,some nm1,some x9,some (.int sh),some (.ref R),some (.int j),x13,x14,x15] mu=some ((.nx,[some (.ref k),some a,some (.int b),some (.int c),some nms,some (.lst (ws.map D.str)),some (.lst (st.map D.str)),some fnd,some nm1,some x9,some (.int sh),some (.ref R),some (.int j),y13,y14,y15]),m') ∧
   m'[R]? = some (.lst (cs++[.tup [.str (ws.getD (((j:Int)+sh) % (ws.length:Int)).toNat ⟨#[]⟩),.tup vs]]))∧E7 (.tup vs)=true∧okD (.tup vs)=true∧HandOk m' k n∧(∀ i,i≠k->i≠R->m'[i]? = mu[i]?)∧m'.length=mu.length:=by
 obtain ⟨_,m1,e1,f1,t1,rfl,a0,a1⟩:=Dg (m:=c) (n:=n+1) h (by ext) (by ext)
 obtain ⟨_,m2,e2,f2,t2,rfl,b0,b1⟩:=Dg (m:=2) (n:=n) f1.hand (by decide) (by decide)
 have fr:=f1.trans f2
 have hR2:m2[R]? = some (.lst cs):=(fr.keep R hkR).trans hR
 have st0:0<st.length:=by ext
 obtain ⟨s,hs1⟩:∃ s:Nat,1+t1=(s:Int):=⟨(1+t1).toNat,by ext⟩
 have lc:Gu none m2 (gNm 0) tY (B0 ixG (BS 1) (B0 EI (B0 Ci (BS 0) (BS 2)) (BX FR (BR (BS 1) BW)))) [none,some (.lst (st.map D.str)),some (.int t2)] (Eh 0 s) m2=some ((rot st t2 s).map D.str,m2):=by
  have e:(rot st t2 s).map D.str=(Eh 0 s).map λd=>match d with|.int i=>.str (st.getD ((i+t2) % (st.length:Int)).toNat ⟨#[]⟩)|_=>.non:=by
   unfold rot Eh
   rw [AV,AV]
   refine List.map_congr_left λj _=>?_
   simp
  rw [e]
  refine F1 _ _ λd hd=>⟨_,rfl,?_⟩
  unfold Eh at hd
  obtain ⟨i,_,rfl⟩:=Aj.mp hd
  have l0:(0:Int)<(st.length:Int):=by ext
  simp! [Ae,GJ l0,M4 st0,Int.zero_add]
 have rg:=PR (mu:=m2) (ro:=[some (.ref k),some a,some (.int b),some (.int c),some nms,some (.lst (ws.map D.str)),some (.lst (st.map D.str)),some fnd,some nm1,some x9,some (.int sh),some (.ref R),some (.int j),some (.int s),some (.int t2),x15]) (r:=BR (BS 13) BW) (n:=s) (m:=m2) rfl (by ext) (by rw [AR];ext)
 rw [Int.toNat_natCast] at rg
 have l6:(0:Int)<(ws.length:Int):=by ext
 have ap:=append_at (ro:=[some (.ref k),some a,some (.int b),some (.int c),some nms,some (.lst (ws.map D.str)),some (.lst (st.map D.str)),some fnd,some nm1,some x9,some (.int sh),some (.ref R),some (.int j),some (.int s),some (.int t2),some (.tup ((rot st t2 s).map D.str))]) (i:=11) hR2 hR2 (y:=.tup [.str (ws.getD (((j:Int)+sh) % (ws.length:Int)).toNat ⟨#[]⟩),.tup ((rot st t2 s).map D.str)]) (by rw [AR];ext) rfl (e:=(Dc (BR (B0 ixG (BS 5) (B0 EI (B0 Ci (BS 12) (BS 10)) (BX FR (BR (BS 5) BW)))) (BR (BS 15) BW)))) (by
  simp! [Ae,GJ l6,M4 hw])
 refine ⟨some (.int s),some (.int t2),some (.tup ((rot st t2 s).map D.str)),_,(rot st t2 s).map D.str,?_,Dz hR2,Mb (by rw [Jk];ext) (by rw [Jk];ext) (N7 st0 sd (by ext)) (λx hx=>sW x (OY st0 x hx)),?_,?_,?_,?_⟩
 ·unfold Ia
  simp! [e1,e2,hs1,rg,lc,ap]
 ·simp only [okD,Qo,Ae,Jk,Bool.and_true,Al]
  ext
 ·obtain ⟨a,b,c',h1,h2⟩:=f2.hand
  exact ⟨a,b,c',by rw [Aw hkR];exact h1,h2⟩
 ·intro i hik hiR
  rw [Aw (Ne.symm hiR),fr.keep i hik]
 ·rw [Bb,fr.len]
end PG
namespace PV
open PySem L2 PyProof.Rows K1
variable {mu:Sto}
theorem Nk (ws:List Str)(t:Int)(s:Nat):rot ws t (s+1)=rot ws t s++[ws.getD (((s:Int)+t) % (ws.length:Int)).toNat ⟨#[]⟩]:=by
 unfold rot
 rw [List.range_succ,Az]
 rfl
theorem HandOk.app {k n:Nat}{os:Sto}(h:HandOk mu k n):HandOk (mu++os) k n:=by
 have hk:=h.lt
 obtain ⟨a,b,c',q,r⟩:=h
 exact ⟨a,b,c',by rw [Ai hk];exact q,r⟩
theorem HandOk.set {k n j:Nat}{o:MO}(h:HandOk mu k n)(hj:j≠k):HandOk (mu.set j o) k n:=by
 obtain ⟨a,b,c',q,r⟩:=h
 exact ⟨a,b,c',by rw [Aw hj];exact q,r⟩
theorem LM {o:MO}{n m:Nat}(l:n≤m)(h:Hj n o=true):Hj m o=true:=by
 cases o with
 | lst ds=>exact D7 l h
 | dct ks ds =>
  simp only [Hj,Ab] at h ⊢
  exact ⟨D7 l h.1,D7 l h.2⟩
theorem Lm {m:Sto}{d:D}(hd:D6 0 d=true)(hf:Flat (m.take mu.length)):IW mu m d=some (d,m.take mu.length):=by
 have e:frz mu.length m 3 d=some d:=by
  unfold frz
  rw [if_pos (NN (AW _) hd)]
 have al:(m.take mu.length).all (Hj mu.length)=true:=by
  rw [Ay]
  intro o ho
  obtain ⟨j,hj⟩:=AO.mp ho
  exact LM (by rw [AE];ext) (hf j o hj)
 unfold IW
 rw [e]
 dsimp only
 rw [if_pos al]
end PV
namespace PG
open PySem L2 PV PyProof.Rows K1
variable {mu:Sto}
theorem NP {k n R b c:Nat}{many:Nat}{sh:Int}{a nms fnd nm1:D}{ws st:List Str}(hc:1≤c)(hc4:c≤4)(hw:0<ws.length)(wW:∀ x∈ws,IsW x)(hs:st.length=c+1)(sd:st.Nodup)(sW:∀ x∈st,IsW x)(hm:many≤4)(hR:mu[R]? = some (.lst []))(hkR:R≠k)(h:HandOk mu k (n+2*many)){m0:Sto}{x12 x13 x14 x15:Option D} :
  ∃ (y12 y13 y14 y15:Option D) (mu':Sto) (cs:List D),DX none m0 (gNm 12) Ia (Eh 0 many) [some (.ref k),some a,some (.int b),some (.int c),some nms,some (.lst (ws.map D.str)),some (.lst (st.map D.str)),some fnd,some nm1,some (.int many),some (.int sh),some (.ref R),x12,x13,x14,x15] mu=some ((.nx,[some (.ref k),some a,some (.int b),some (.int c),some nms,some (.lst (ws.map D.str)),some (.lst (st.map D.str)),some fnd,some nm1,some (.int many),some (.int sh),some (.ref R),y12,y13,y14,y15]),mu') ∧
   mu'[R]? = some (.lst cs)∧cs.length=many∧cs.all GA=true∧okL cs=true∧cs.map Gf=(rot ws sh many).map D.str∧HandOk mu' k n∧(∀ j,j≠k->j≠R->mu'[j]? = mu[j]?)∧mu'.length=mu.length:=by
 have key:=D5 (m0:=m0) (tg:=gNm 12) (body:=Ia) (λi ro m=>(∃ y12 y13 y14 y15,ro=[some (.ref k),some a,some (.int b),some (.int c),some nms,some (.lst (ws.map D.str)),some (.lst (st.map D.str)),some fnd,some nm1,some (.int many),some (.int sh),some (.ref R),y12,y13,y14,y15])∧(∃ cs:List D,m[R]? = some (.lst cs)∧cs.length=i∧cs.all GA=true∧okL cs=true∧cs.map Gf=(rot ws sh i).map D.str)∧i≤many∧HandOk m k (n+2*(many-i))∧(∀ j,j≠k->j≠R->m[j]? = mu[j]?)∧m.length=mu.length) (Eh 0 many) 0 [some (.ref k),some a,some (.int b),some (.int c),some nms,some (.lst (ws.map D.str)),some (.lst (st.map D.str)),some fnd,some nm1,some (.int many),some (.int sh),some (.ref R),x12,x13,x14,x15] mu
  ⟨⟨x12,x13,x14,x15,rfl⟩,⟨[],hR,rfl,rfl,rfl,rfl⟩,AW _,h,λ_ _ _=>rfl,rfl⟩ λj d ro m ed hi=>by
   obtain ⟨⟨y12,y13,y14,y15,rfl⟩,⟨cs,hR',hl,ha,ho,hf⟩,hle,hh,hkeep,hlen⟩:=hi
   obtain ⟨rfl,hj⟩:=OM ed
   obtain ⟨z13,z14,z15,m',vs,e,g1,g2,g3,g4,g5,g6⟩:=OD (n:=n+2*(many-(0+j+1))) (b:=b) (c:=c) (j:=j) (sh:=sh) (a:=a) (nms:=nms) (fnd:=fnd) (nm1:=nm1) (x9:=.int many) (x13:=y13) (x14:=y14) (x15:=y15) (ws:=ws) hc hc4 hw hs sd sW hR' (by ext) hkR (hh.mono (by ext))
   have wm:=wW _ (Ag (G9 hw ((j:Int)+sh)))
   refine ⟨_,m,_,m',rfl,e,⟨_,_,_,_,rfl⟩,⟨_,g1,by simp [hl],?_,?_,?_⟩,by ext,g4,λi hik hiR=>(g5 i hik hiR).trans (hkeep i hik hiR),g6.trans hlen⟩
   ·rw [List.all_append,ha]
    have:GA (.tup [.str (ws.getD (((j:Int)+sh) % (ws.length:Int)).toNat ⟨#[]⟩),.tup vs])=(wB (ws.getD (((j:Int)+sh) % (ws.length:Int)).toNat ⟨#[]⟩)&&E7 (.tup vs)):=rfl
    rw [List.all_cons,this,Hr.mpr wm,g2]
    rfl
   ·rw [IV] at ho ⊢
    intro d hd
    rcases AA.mp hd with hd|hd
    ·exact ho d hd
    ·rw [Aq.mp hd]
     simp only [okD,okL,g3,List.length_cons,List.length_nil]
     simp only [okD] at g3
     rw [g3]
     rfl
   ·rw [Az,hf,AU,Nk,Az]
    rfl
 obtain ⟨ro',mu',e,⟨y12,y13,y14,y15,rfl⟩,⟨cs,a2,a3,a4,a5,a6⟩,_,a7,a8,a9⟩:=key
 rw [O4] at a3 a6 a7
 refine ⟨y12,y13,y14,y15,mu',cs,e,a2,by ext,a4,a5,by rw [a6,AU],a7.mono (by ext),a8,a9⟩
def Lo:Sx:=(Cc (LS 9 10 11 (BR (B0 Ci (eC (.int 1)) (BX B3 (BR (BS 0) (BR (BS 2) BW)))) (BR (BX B3 (BR (BS 0) (BR (eC (.int 3)) BW))) (BR (DA BW) BW)))) (Cc (FT (iRg (BR (BS 9) BW)) (gNm 12) Ia) (sEx (Hw (BS 7) (BR (Dc (BR (BS 8) (BR (BX Fo (BR (BS 11) BW)) (BR (B0 Ci (eC (.int 1)) (BX B3 (BR (BS 0) (BR (BS 9) BW)))) BW)))) BW)))))
theorem NX {R:Nat}{cs:List D}(h:mu[R]? = some (.lst cs)):Fo [.ref R] mu=some (.tup cs,mu):=by
 simp only [Fo,sq1,FA,FU,CI,h,Option.map_some]
theorem NG {k n F b c:Nat}{nm:Str}{ws st:List Str}{a nms:D}{ts:List D}{x9 x10 x11 x12 x13 x14 x15:Option D}(hb:1≤b)(hb4:b≤4)(hc:1≤c)(hc4:c≤4)(hw:ws.length=b+2)(wd:ws.Nodup)(wW:∀ x∈ws,IsW x)(hs:st.length=c+1)(sd:st.Nodup)(sW:∀ x∈st,IsW x)(hW:IsW nm)(hF:mu[F]? = some (.lst ts))(hts:ts.length≤100)(hkF:F≠k)(h:HandOk mu k (n+11)) :
  ∃ y9 y10 y11 y12 y13 y14 y15 m2 cs,∃ q:Nat,Lo [some (.ref k),some a,some (.int b),some (.int c),some nms,some (.lst (ws.map D.str)),some (.lst (st.map D.str)),some (.ref F),some (.str nm),x9,x10,x11,x12,x13,x14,x15] mu=some ((.nx,[some (.ref k),some a,some (.int b),some (.int c),some nms,some (.lst (ws.map D.str)),some (.lst (st.map D.str)),some (.ref F),some (.str nm),y9,y10,y11,y12,y13,y14,y15]),m2) ∧
   m2[F]? = some (.lst (ts++[.tup [.str nm,.tup cs,.int q]]))∧GF (.tup [.str nm,.tup cs,.int q])=true∧okD (.tup [.str nm,.tup cs,.int q])=true∧HandOk m2 k n∧(∀ j,j<mu.length->j≠k->j≠F->m2[j]? = mu[j]?)∧mu.length≤m2.length:=by
 obtain ⟨_,m1,e1,f1,t1,rfl,a0,a1⟩:=Dg (m:=b) (n:=n+10) h (by ext) (by ext)
 obtain ⟨_,m2,e2,f2,t2,rfl,b0,b1⟩:=Dg (m:=3) (n:=n+9) f1.hand (by decide) (by decide)
 have fr:=f1.trans f2
 have hkl:=h.lt
 have hFl:F<mu.length:=(Ad.mp hF).1
 obtain ⟨q,hq⟩:∃ q:Nat,1+t1=(q:Int):=⟨(1+t1).toNat,by ext⟩
 have hR:(m2++[MO.lst []])[m2.length]? = some (.lst []):=by simp
 have l2:=fr.len
 obtain ⟨y12,y13,y14,y15,m3,cs,e3,g1,g2,g3,g4,g5,g6,g7,g8⟩:=NP (mu:=m2++[MO.lst []]) (k:=k) (n:=n+1) (R:=m2.length) (b:=b) (c:=c) (many:=q) (sh:=t2) (a:=a) (nms:=nms) (fnd:=.ref F) (nm1:=.str nm) (ws:=ws) (st:=st) hc hc4 (by ext) wW hs sd sW (by ext) hR (by ext) (f2.hand.app.mono (by ext)) (m0:=m2++[MO.lst []]) (x12:=x12) (x13:=x13) (x14:=x14) (x15:=x15)
 have F3:m3[F]? = some (.lst ts):=by
  rw [g7 F hkF (by ext),Ai (by ext),fr.keep F hkF,hF]
 obtain ⟨_,m4,e4,f4,t4,rfl,c0,c1⟩:=Dg (m:=q) (n:=n) g6 (by ext) (by ext)
 have F4:m4[F]? = some (.lst ts):=(f4.keep F hkF).trans F3
 obtain ⟨p,hp⟩:∃ p:Nat,1+t4=(p:Int):=⟨(1+t4).toNat,by ext⟩
 have ap:=append_at (ro:=[some (.ref k),some a,some (.int b),some (.int c),some nms,some (.lst (ws.map D.str)),some (.lst (st.map D.str)),some (.ref F),some (.str nm),some (.int q),some (.int t2),some (.ref m2.length),y12,y13,y14,y15]) (i:=7) F3 F4 (y:=.tup [.str nm,.tup cs,.int p]) (by rw [AR];ext) rfl (e:=(Dc (BR (BS 8) (BR (BX Fo (BR (BS 11) BW)) (BR (B0 Ci (eC (.int 1)) (BX B3 (BR (BS 0) (BR (BS 9) BW)))) BW))))) (by
  simp! [NX g1,e4,hp])
 have rg:=PR (mu:=m2++[MO.lst []]) (ro:=[some (.ref k),some a,some (.int b),some (.int c),some nms,some (.lst (ws.map D.str)),some (.lst (st.map D.str)),some (.ref F),some (.str nm),some (.int q),some (.int t2),some (.ref m2.length),x12,x13,x14,x15]) (r:=BR (BS 9) BW) (n:=q) (m:=m2++[MO.lst []]) rfl (by ext) (by rw [AR];ext)
 rw [Int.toNat_natCast] at rg
 refine ⟨some (.int q),some (.int t2),some (.ref m2.length),y12,y13,y14,y15,_,cs,p,?_,Dz F4,?_,?_,f4.hand.set hkF,?_,?_⟩
 ·unfold Lo
  simp! [e1,e2,hq,rg,e3,ap]
 ·have T:GF (.tup [.str nm,.tup cs,.int p])=((wB nm&&((EU 1 4 (.tup cs)&&cs.all GA)&&ndB (cs.map Gf)))&&(decide ((1:Int)≤p)&&decide ((p:Int)≤cs.length))):=rfl
  rw [T,Hr.mpr hW,g3,g5]
  have nd:ndB ((rot ws t2 q).map D.str)=true:=by
   unfold ndB
   rw [Al]
   exact Es.mpr (N7 (by ext) wd (by ext))
  rw [nd]
  simp only [EU,Bool.and_true,Bool.true_and,Ab,Al]
  ext
 ·simp only [okD,okL,g4,List.length_cons,List.length_nil,Bool.and_true,Bool.true_and,Ab,Al]
  ext
 ·intro i hi hik hiF
  rw [Aw (Ne.symm hiF),f4.keep i hik,g7 i hik (by ext),Ai (by ext),fr.keep i hik]
 ·rw [Bb]
  have:=f4.len
  simp only [An,List.length_cons,List.length_nil] at g8
  ext
theorem K0 {k n a b c:Nat}(ha:1≤a)(ha4:a≤4)(hb:1≤b)(hb4:b≤4)(hc:1≤c)(hc4:c≤4)(hfl:Flat mu)(h:HandOk mu k (n+60)):Run (CL [.ref k,.int a,.int b,.int c] mu) k n mu λd=>∃ ds,d=.tup ds∧MK d=true∧okD d=true:=by
 obtain ⟨_,m1,e1,f1,t1,rfl,a0,a1⟩:=Dg (m:=a) (n:=n+59) h (by ext) (by ext)
 obtain ⟨_,m2,e2,f2,nm,rfl,nl,nd,nW⟩:=GB (many:=1+t1) (n:=n+54) (by ext) (by ext) f1.hand
 obtain ⟨_,m3,e3,f3,ws,rfl,wl,wd,wW⟩:=GB (many:=(b:Int)+2) (n:=n+49) (by ext) (by ext) f2.hand
 obtain ⟨_,m4,e4,f4,st,rfl,sl,sd,sW⟩:=GB (many:=(c:Int)+1) (n:=n+44) (by ext) (by ext) f3.hand
 have fr:=((f1.trans f2).trans f3).trans f4
 have l4:=fr.len
 obtain ⟨us,ue,up⟩:=Gp (CF (nm.map D.str))
 have ul:=up.length_eq
 have ud:us.Nodup:=up.nodup_iff.mpr nd
 have hkl:=f4.hand.lt
 have key:=D5 (m0:=m4++[MO.lst []]) (tg:=gNm 8) (body:=Lo) (λi ro m=>(∃ y8 y9 y10 y11 y12 y13 y14 y15,ro=[some (.ref k),some (.int a),some (.int b),some (.int c),some (.lst (us.map D.str)),some (.lst (ws.map D.str)),some (.lst (st.map D.str)),some (.ref m4.length),y8,y9,y10,y11,y12,y13,y14,y15]) ∧
   (∃ ts:List D,m[m4.length]? = some (.lst ts)∧ts.length=i∧ts.all GF=true∧okL ts=true∧ts.map Gf=(us.take i).map D.str)∧i≤us.length∧HandOk m k (n+11*(us.length-i))∧(∀ j,j<m4.length->j≠k->m[j]? = m4[j]?)∧m4.length<m.length) (us.map D.str) 0
   [some (.ref k),some (.int a),some (.int b),some (.int c),some (.lst (us.map D.str)),some (.lst (ws.map D.str)),some (.lst (st.map D.str)),some (.ref m4.length),none,none,none,none,none,none,none,none] (m4++[MO.lst []])
   ⟨⟨_,_,_,_,_,_,_,_,rfl⟩,⟨[],by simp,rfl,rfl,rfl,by simp⟩,AW _,f4.hand.app.mono (by ext),λj hj _=>Ai hj,by simp⟩ λj d ro m ed hi=>by
  obtain ⟨⟨y8,y9,y10,y11,y12,y13,y14,y15,rfl⟩,⟨ts,hF,tl,ta,to,tn⟩,hle,hh,hkeep,hlen⟩:=hi
  rw [Ar] at ed
  cases q:us[j]? with
  | none=>rw [q] at ed;cases ed
  | some x =>
   rw [q] at ed
   have ed':D.str x=d:=by simpa using ed
   subst ed'
   obtain ⟨hj,ex⟩:=Ad.mp q
   have hxm:x∈nm:=up.mem_iff.mp (by rw [← ex];exact Bl hj)
   obtain ⟨z9,z10,z11,z12,z13,z14,z15,m',cs,p,g1,g2,g3,g4,g5,g6,g7⟩:=NG (n:=n+11*(us.length-(0+j+1))) (a:=.int a) (b:=b) (c:=c) (nms:=.lst (us.map D.str)) (nm:=x) (x9:=y9) (x10:=y10) (x11:=y11) (x12:=y12) (x13:=y13) (x14:=y14) (x15:=y15) (ws:=ws) (st:=st) hb hb4 hc hc4 (by ext) wd wW (by ext) sd sW (nW x hxm) hF (by ext) (by ext) (hh.mono (by ext))
   refine ⟨_,m,_,m',rfl,g1,⟨_,_,_,_,_,_,_,_,rfl⟩,⟨_,g2,by simp [tl],?_,?_,?_⟩,by ext,g5,λi hi hik=>?_,by ext⟩
   ·rw [List.all_append,ta,List.all_cons,g3]
    rfl
   ·rw [IV] at to ⊢
    intro d hd
    rcases AA.mp hd with hd|hd
    ·exact to d hd
    ·rw [Aq.mp hd]
     exact g4
   ·rw [Az,tn]
    have:=List.take_add_one (l:=us) (i:=0+j)
    rw [this,AU,q,Az]
    rfl
   ·rw [g6 i (by ext) hik (by ext),hkeep i hi hik]
 obtain ⟨ro',m5,e5,⟨_,_,_,_,_,_,_,_,rfl⟩,⟨ts,b1,b2,b3,b4,b5⟩,_,b6,b7,b8⟩:=key
 rw [Ae,AU] at b2 b5 b6
 rw [List.take_length] at b5
 have okT:okD (.tup ts)=true:=by
  simp only [okD,b4,Bool.and_true,Al]
  ext
 have f5:Fr k n mu (m5.take mu.length):=by
  refine ⟨?_,λj hj=>?_,by rw [AE];ext⟩
  ·obtain ⟨x,y,z,q,r1,r2,r3⟩:=b6
   exact ⟨x,y,z,by rw [Bh (by ext)];exact q,r1,r2,by ext⟩
  ·by_cases hj':j<mu.length
   ·rw [Bh hj',b7 j (by ext) hj,fr.keep j hj]
   ·rw [List.getElem?_eq_none (by rw [AE];ext),List.getElem?_eq_none (by ext)]
 refine ⟨.tup ts,m5.take mu.length,?_,f5,ts,rfl,?_,okT⟩
 ·have s64:nm.length<64:=by ext
  unfold Lo Ia at e5
  simp! [CL,EZ,e1,e2,PJ s64,ue,e3,e4,e5,NX b1]
  exact Lm (Nd okT) (f5.flat hfl)
 ·have W:MK (.tup ts)=((EU 1 4 (.tup ts)&&ts.all GF)&&GY (ts.map Gf)):=rfl
  have rs:GY (us.map D.str)=true:=by
   have r:=Pn us
   rw [Ji (Es.mpr ud)] at r
   rw [← r,Al]
   rw [← ue]
   exact (HR (λd hd=>by
    obtain ⟨x,_,rfl⟩:=Aj.mp hd
    rfl) (CF (nm.map D.str))).symm
  rw [W,b3,b5,rs]
  simp only [EU,Bool.and_true,Ab,Al]
  ext
end PG
namespace PV
open PySem L2 PyProof.Rows K1
variable {mu:Sto}
end PV
namespace PG
open PySem L2 PV PyProof.Rows K1
variable {mu:Sto}
structure Tb where
 nm:Str
 cs:List (Str×List Str)
 ks:Nat
noncomputable def clD (p:Str×List Str):D:=.tup [.str p.1,.tup (p.2.map D.str)]
def tbD (t:Tb):D:=.tup [.str t.nm,.tup (t.cs.map clD),.int t.ks]
structure MP (t:Tb):Prop where
 c1:1≤t.cs.length
 c4:t.cs.length≤4
 k1:1≤t.ks
 k4:t.ks≤t.cs.length
 vs:∀ p∈t.cs,p.2≠[]∧p.2.length≤4
theorem Ma {d:D}(h:E7 d=true):∃ ss:List Str,d=.tup (ss.map D.str)∧ss≠[]∧ss.length≤4:=by
 unfold E7 at h
 rw [Ab,Ab] at h
 cases d with
 | tup ds =>
  obtain ⟨ss,rfl,_⟩:=MG (show ds.all FV=true from h.2.1)
  have:=h.1
  simp only [EU,Ae,Ab,Al] at this
  exact ⟨ss,rfl,λe=>by rw [e] at this;simp at this,by ext⟩
 | _=>simp [EU] at h
theorem Pm {d:D}(h:GA d=true):∃ p:Str×List Str,d=clD p∧p.2≠[]∧p.2.length≤4:=by
 unfold GA at h
 split at h
 ·rename_i a b
  rw [Ab] at h
  obtain ⟨ss,rfl,h1,h2⟩:=Ma h.2
  cases a with
  | str x=>exact ⟨(x,ss),rfl,h1,h2⟩
  | _=>simp [FV] at h
 ·cases h
theorem Oj {ds:List D}(h:ds.all GA=true):∃ cs:List (Str×List Str),ds=cs.map clD∧∀ p∈cs,p.2≠[]∧p.2.length≤4:=by
 induction ds with
 | nil=>exact ⟨[],rfl,λ_ h=>nomatch h⟩
 | cons d ds ih =>
  rw [List.all_cons,Ab] at h
  obtain ⟨cs,rfl,hc⟩:=ih h.2
  obtain ⟨p,rfl,h1⟩:=Pm h.1
  refine ⟨p::cs,rfl,λq hq=>?_⟩
  rcases AH.mp hq with rfl|hq
  ·exact h1
  ·exact hc q hq
theorem O2 {d:D}(h:GF d=true):∃ t,d=tbD t∧MP t:=by
 unfold GF at h
 split at h
 ·rename_i n c k
  rw [Ab,Ab] at h
  obtain ⟨⟨h1,h2⟩,h3⟩:=h
  cases n with
  | str x =>
   cases c with
   | tup ds =>
    have h2':((EU 1 4 (.tup ds)&&ds.all GA)&&ndB (ds.map Gf))=true:=h2
    rw [Ab,Ab] at h2'
    obtain ⟨cs,rfl,hv⟩:=Oj h2'.1.2
    have hl:=h2'.1.1
    simp only [EU,Ae,Ab,Al] at hl
    cases k with
    | int i =>
     simp only [SH,T2,Ae,Ab,Al] at h3
     refine ⟨⟨x,cs,i.toNat⟩,?_,⟨by show 1≤cs.length;ext,by show cs.length≤4;ext,by show 1≤i.toNat;ext,by show i.toNat≤cs.length;ext,hv⟩⟩
     unfold tbD
     rw [Int.toNat_of_nonneg (by ext)]
    | _=>simp [SH] at h3
   | _=>simp [QB] at h2
  | _=>simp [FV] at h1
 ·cases h
theorem N5 {ds:List D}(h:ds.all GF=true):∃ ts:List Tb,ds=ts.map tbD∧∀ t∈ts,MP t:=by
 induction ds with
 | nil=>exact ⟨[],rfl,λ_ h=>nomatch h⟩
 | cons d ds ih =>
  rw [List.all_cons,Ab] at h
  obtain ⟨ts,rfl,hc⟩:=ih h.2
  obtain ⟨t,rfl,h1⟩:=O2 h.1
  refine ⟨t::ts,rfl,λq hq=>?_⟩
  rcases AH.mp hq with rfl|hq
  ·exact h1
  ·exact hc q hq
structure SOk (ts:List Tb):Prop where
 l1:1≤ts.length
 l4:ts.length≤4
 ok:∀ t∈ts,MP t
 nd:(ts.map Tb.nm).Nodup
theorem P5 {d:D}(h:MK d=true):∃ ts,d=.tup (ts.map tbD)∧SOk ts:=by
 cases d with
 | tup ds =>
  have h':((EU 1 4 (.tup ds)&&ds.all GF)&&GY (ds.map Gf))=true:=h
  rw [Ab,Ab] at h'
  obtain ⟨ts,rfl,ho⟩:=N5 h'.1.2
  have hl:=h'.1.1
  simp only [EU,Ae,Ab,Al] at hl
  refine ⟨ts,rfl,by ext,by ext,ho,?_⟩
  have e:(ts.map tbD).map Gf=(ts.map Tb.nm).map D.str:=by
   rw [AV,AV]
   rfl
  have r:=h'.2
  rw [e,K4] at r
  exact OI r
 | _=>simp [MK] at h
noncomputable def rwD (r:List Str):D:=.tup (r.map D.str)
theorem Ks {α:Type}{xs:List α}{j:Nat}(h:j≤xs.length):PV.cutD xs none (some (j:Int))=xs.take j:=by
 unfold PV.cutD
 rw [HT.Hm,HT.Jj]
 simp [Nat.min_eq_left h]
theorem Ox {α:Type}{xs:List α}{j:Nat}(h:j≤xs.length):PV.cutD xs (some (j:Int)) none=xs.drop j:=by
 unfold PV.cutD
 rw [HT.Hm,HT.Jj]
 rw [Nat.min_eq_left h]
 apply List.take_of_length_le
 simp
end PG
namespace PV
open PySem L2 PySem.Spec PyProof.Rows K1 Builtin.Str
theorem FX:∀ c∈Cy.cps.toList,reprChar 39 c=[c]∧c≠39∧c<1114112:=by
 have:Cy.cps.toList.all (λc=>decide (reprChar 39 c=[c])&&(decide (c≠39)&&decide (c<1114112)))=true:=by symm
 intro c hc
 have h:=Ay.mp this c hc
 simp only [Ab,Al] at h
 exact h
theorem Hl:∀ (l:List Nat) (acc:Array Nat),(∀ c∈l,c∈Cy.cps.toList)->l.foldl (λout c=>out++(reprChar 39 c).toArray) acc=acc++l.toArray
 | [],acc,_=>by simp
 | c::l,acc,h=>by
  rw [List.foldl_cons,Hl l _ λc hc=>h c (.tail _ hc),(FX c (h c (.head _))).1]
  apply Array.ext'
  simp
theorem Kk {x:Str}(h:IsW x):reprText x=⟨(#[39]++x.cps).push 39⟩:=by
 have q:reprQuote x=39:=by
  unfold reprQuote
  have:x.cps.contains 39=false:=by
   rw [Bool.eq_false_iff]
   intro e
   have:=Array.contains_iff_mem.mp e
   exact (FX 39 (h.al 39 (by simpa using this))).2.1 rfl
  rw [this]
  rfl
 unfold reprText
 rw [q,← Array.foldl_toList,Hl _ _ h.al]
theorem Kq {x:Str}(h:IsW x):(reprText x).length≤10∧PyData.strOk (reprText x)=true:=by
 rw [Kk h]
 have h8:=h.hi
 constructor
 ·unfold Str.length at h8 ⊢
  simp
  ext
 ·unfold PyData.strOk
  rw [Array.all_eq_true']
  intro c hc
  simp only [Array.mem_push,Array.mem_append] at hc
  rcases hc with (hc|hc)|hc
  ·simp at hc
   subst hc
   decide
  ·have:=(FX c (h.al c (by simpa using hc))).2.2
   simpa using this
  ·subst hc
   decide
mutual
noncomputable def rsz:D->Nat
 | .tup ds=>5+Kt ds
 | .lst ds=>5+Kt ds
 | _=>10
noncomputable def Kt:List D->Nat
 | []=>0
 | d::ds=>rsz d+2+Kt ds
end
mutual
def rok:D->Prop
 | .tup ds=>Jv ds
 | .str x=>IsW x
 | .non=>True
 | _=>False
def Jv:List D->Prop
 | []=>True
 | d::ds=>rok d∧Jv ds
end
theorem D1 {a b:Str}(ha:PyData.strOk a=true)(hb:PyData.strOk b=true):PyData.strOk (a++b)=true:=by
 unfold PyData.strOk at ha hb ⊢
 rw [Str.cps_append,Array.all_append,ha,hb]
 rfl
theorem Ha (sep:Str)(hs:PyData.strOk sep=true):∀ ts:List Str,(∀ t∈ts,PyData.strOk t=true)->PyData.strOk (Str.join sep ts)=true
 | [],_=>(show PyData.strOk (Str.ofString "")=true by symm)
 | [x],h=>h x (.head _)
 | x::y::r,h=>by
  show PyData.strOk (x++sep++Str.join sep (y::r))=true
  exact D1 (D1 (h x (.head _)) hs) (Ha sep hs (y::r) λt ht=>h t (.tail _ ht))
mutual
theorem Js:∀ (d:D),rok d->(toPy d).showable=true∧(toPy d).hasDict=false∧(toPy d).shown.length≤rsz d∧PyData.strOk (toPy d).shown=true∧Ca d=true
 | .tup ds,h=>by
  obtain ⟨a,b,c,e,f⟩:=Ik ds (by simpa only [rok] using h)
  have hc:PyData.strOk (Str.ofString ", ")=true:=by symm
  have h0:PyData.strOk (Str.ofString "(")=true:=by symm
  have h1:PyData.strOk (Str.ofString ",)")=true:=by symm
  have h2:PyData.strOk (Str.ofString ")")=true:=by symm
  have l0:(Str.ofString "(").length=1:=by symm
  have l1:(Str.ofString ",)").length=2:=by symm
  have l2:(Str.ofString ")").length=1:=by symm
  have l3:(Str.ofString ", ").length=2:=by symm
  refine ⟨by simp only [toPy,PyData.showable,a],by simp only [toPy,PyData.hasDict,b],?_,?_,by simp only [Ca,f]⟩
  ·simp only [toPy,PyData.shown,rsz]
   unfold tupleText
   rw [Str.length_append,Str.length_append,l0]
   have j:=StrLaws.join_length_le (Str.ofString ", ") (PyData.shownAll (B4 ds))
   rw [l3] at j
   split
   ·rw [l1];ext
   ·rw [l2];ext
  ·simp only [toPy,PyData.shown]
   unfold tupleText
   refine D1 (D1 h0 (Ha _ hc _ e)) ?_
   split
   ·exact h1
   ·exact h2
 | .str x,h=>by
  obtain ⟨a,b⟩:=Kq (by simpa only [rok] using h)
  exact ⟨rfl,rfl,by simpa only [toPy,PyData.shown,rsz] using a,by simpa only [toPy,PyData.shown] using b,rfl⟩
 | .non,_=>⟨rfl,rfl,by symm,by symm,rfl⟩
 | .lst _,h=>by simp only [rok] at h
 | .dct _ _,h=>by simp only [rok] at h
 | .set _,h=>by simp only [rok] at h
 | .ref _,h=>by simp only [rok] at h
 | .bl _,h=>by simp only [rok] at h
 | .int _,h=>by simp only [rok] at h
theorem Ik:∀ (ds:List D),Jv ds->PyData.showableAll (B4 ds)=true∧PyData.hasDictAll (B4 ds)=false∧((PyData.shownAll (B4 ds)).map (·.length)).sum+(PyData.shownAll (B4 ds)).length*2≤Kt ds∧(∀ t∈PyData.shownAll (B4 ds),PyData.strOk t=true)∧CY ds=true
 | [],_=>⟨rfl,rfl,Ak _,(λ_ h=>nomatch h),rfl⟩
 | d::ds,h=>by
  have h':rok d∧Jv ds:=by simpa only [Jv] using h
  obtain ⟨a,b,c,e,f⟩:=Js d h'.1
  obtain ⟨a',b',c',e',f'⟩:=Ik ds h'.2
  refine ⟨by simp only [B4,PyData.showableAll,a,a',Bool.and_self],by simp only [B4,PyData.hasDictAll,b,b',Bool.or_self],?_,λt ht=>?_,by simp only [CY,f,f',Bool.and_self]⟩
  ·simp only [B4,PyData.shownAll,Bi,List.sum_cons,List.length_cons,Kt]
   ext
  ·simp only [B4,PyData.shownAll,AH] at ht
   rcases ht with rfl|ht
   ·exact e
   ·exact e' t ht
end
theorem Lq {mu:Sto}{d:D}(h:rok d)(hd:(toPy d).depth≤60)(hz:rsz d≤16777216):DN [d] mu=some (.str (toPy d).shown,mu):=by
 obtain ⟨a,b,c,e,f⟩:=Js d h
 have sd:seen mu d=d:=by cases d<;>first|rfl|(simp [rok] at h)
 unfold DN
 simp only [FA,sd,f,L0,a,b,e,Bool.not_false,Bool.true_and,Bool.and_true]
 rw [if_pos]
 rw [Ab,Al,Al,AR]
 ext
theorem Rc {mu:Sto}{s:Str}:neD (.str s) (.str s) mu=some (.bl false,mu):=by
 simp [neD,eqB,seen,Ca,toPy,PyData.eqv,PyData.depth]
theorem JF {ds:List D}:Jv ds ↔ ∀ d∈ds,rok d:=by
 induction ds with
 | nil=>simp [Jv]
 | cons d ds ih=>simp [Jv,ih]
theorem IZ {n:Nat}:∀ {ds:List D},(∀ d∈ds,rsz d≤n)->Kt ds≤ds.length*(n+2)
 | [],_=>AW _
 | d::ds,h=>by
  have:=IZ λd hd=>h d (.tail _ hd)
  have:=h d (.head _)
  simp only [Kt,List.length_cons,Nat.succ_mul]
  ext
end PV
namespace PV
open PySem L2 PyProof.Rows K1
variable {mu:Sto}
theorem JQ:∀ xs ys:List Str,(ET (xs.map D.str) (ys.map D.str)).isSome=true
 | [],[]=>rfl
 | [],_::_=>rfl
 | _::_,[]=>rfl
 | x::xs,y::ys=>by
  have ih:=JQ xs ys
  rw [Bi,Bi,ET]
  simp only [Ca,Bool.and_self,if_true]
  split
  ·exact ih
  ·rfl
theorem JR (ss:List Str):Ej (ss.map D.str)=true:=by
 induction ss with
 | nil=>rfl
 | cons x xs ih=>simp [Ej,Dv,ih]
theorem Ky {xs ys:List D}(h:xs.length+ys.length≤sizeLine):Ci (.tup xs) (.tup ys) mu=some (.tup (xs++ys),mu):=by
 simp only [Ci,h,if_true]
theorem NW {ds:List D}:Fm ds=true ↔ ∀ d∈ds,hsh d=true:=by
 induction ds with
 | nil=>simp [Fm]
 | cons d ds ih=>simp [Fm,ih]
theorem OC {n:Nat}{ds:List D}(h:∀ d∈ds,dpt d≤n):Hs ds≤n:=by
 induction ds with
 | nil=>simp [Hs]
 | cons d ds ih =>
  have a:=h d (.head _)
  have b:=ih λd hd=>h d (.tail _ hd)
  simp only [Hs]
  ext
def Hn (n:Nat)(d:D):Prop:=hsh d=true∧dpt d≤n
theorem Hn.tup {n:Nat}{ds:List D}(h:∀ d∈ds,Hn n d):Hn (n+1) (.tup ds):=by
 refine ⟨by unfold hsh;exact NW.mpr λd hd=>(h d hd).1,?_⟩
 have:=OC λd hd=>(h d hd).2
 unfold dpt
 ext
theorem Hn.up {n m:Nat}{d:D}(h:Hn n d)(l:n≤m):Hn m d:=⟨h.1,AM h.2 l⟩
theorem Hn.K {n:Nat}{d:D}(h:Hn n d)(l:n≤8):Fj d=true:=by
 unfold Fj
 rw [h.1,Bool.true_and,Al]
 exact AM h.2 l
theorem Hn.str (x:Str):Hn 1 (.str x):=⟨rfl,by simp [dpt]⟩
theorem Hn.strs (ss:List Str):Hn 2 (.tup (ss.map D.str)):=Hn.tup λd hd=>by
 obtain ⟨x,_,rfl⟩:=Aj.mp hd
 exact .str x
theorem Pu {ds es:List D}(hd:Hn 6 (.tup ds))(he:Hn 6 (.tup es)):eqD (.lst ds) (.lst es) mu=some (.bl (decide (ds=es)),mu):=by
 have p1:CY ds=true:=by have:=EO hd.1;simpa only [Ca] using this
 have p2:CY es=true:=by have:=EO he.1;simpa only [Ca] using this
 have q:=Fh hd.1 he.1
 have d1:=Gz hd.1
 have d2:=Gz he.1
 have:eqB mu (.lst ds) (.lst es)=some (decide (ds=es)):=by
  unfold eqB
  simp only [PV.seen,Ca,p1,p2,Bool.and_self,Bool.true_and]
  rw [if_pos]
  ·have e1:PyData.eqv (toPy (.lst ds)) (toPy (.lst es))=PyData.eqv (toPy (.tup ds)) (toPy (.tup es)):=by simp only [toPy,PyData.eqv]
   rw [e1,q]
   simp only [D.tup.injEq]
  ·have e1:(toPy (.lst ds)).depth=(toPy (.tup ds)).depth:=by simp only [toPy,PyData.depth]
   refine Br ?_
   show min (toPy (.lst ds)).depth (toPy (.lst es)).depth≤60
   rw [e1,d1]
   have:=hd.2
   ext
 unfold eqD
 rw [this]
 rfl
theorem JZ:∀ (n:Nat) (r q:List D),r.length=q.length->(CG (r.take n) (q.take n)=.lt->CG r q=.lt)∧(CG r q=.lt->CG (r.take n) (q.take n)=.lt∨CG (r.take n) (q.take n)=.eq)
 | 0,r,q,_=>⟨λh=>by simp [CG] at h,λ_=>.inr (by simp [CG])⟩
 | n+1,[],[],_=>⟨λh=>by simp [CG] at h,λh=>by simp [CG] at h⟩
 | n+1,[],y::q,h=>by simp at h
 | n+1,x::r,[],h=>by simp at h
 | n+1,x::r,y::q,h=>by
  have ih:=JZ n r q (by simpa using h)
  simp only [List.take_succ_cons,CG]
  cases B9 x y with
  | eq=>exact ih
  | lt=>exact ⟨λ_=>rfl,λ_=>.inl rfl⟩
  | gt=>exact ⟨λh=>(nomatch h),λh=>(nomatch h)⟩
theorem O5 {ss:List Str}{mu:Sto}(h:ss.length<64):G7 [.tup (ss.map D.str)] mu=some (.lst (Dx (ss.map D.str)),mu):=by
 have e:HM [.tup (ss.map D.str)] mu=some (.lst (Dx (ss.map D.str)),mu):=by simp only [HM,FA,Mt,FU,Ls h,if_true]
 unfold G7
 rw [e]
end PV
namespace PG
open PySem L2 PV PyProof.Rows K1
variable {mu:Sto}
theorem Pf {rs:List (List Str)}(h64:rs.length<4096)(hne:∀ r∈rs,r≠[]):Ds (rs.map rwD)=true:=by
 unfold Ds
 simp only [Ab,Al,Ae,Ay,Bool.or_eq_true,Ic]
 refine ⟨⟨⟨h64,λd hd=>?_⟩,λd hd e he=>?_⟩,.inr λd hd=>?_⟩
 ·obtain ⟨r,_,rfl⟩:=Aj.mp hd
  unfold rwD Dv
  exact JR r
 ·obtain ⟨r,_,rfl⟩:=Aj.mp hd
  obtain ⟨q,_,rfl⟩:=Aj.mp he
  unfold rwD ltB
  exact JQ r q
 ·obtain ⟨r,hr,rfl⟩:=Aj.mp hd
  cases r with
  | nil=>exact (hne _ hr rfl).elim
  | cons x xs =>
   have d1:=J9 xs
   simp only [rwD,Bi,tupS,Me,Bool.true_and,Al]
   ext
theorem Hn.row (r:List Str):Hn 2 (rwD r):=Hn.strs r
theorem Na {a b:List Str}:rwD a=rwD b ↔ a=b:=by
 constructor
 ·intro h
  have h':a.map D.str=b.map D.str:=by unfold rwD at h;injection h
  exact (List.map_inj_right (λx y e=>by injection e)).mp h'
 ·rintro rfl;rfl
theorem II {ts:List Tb}{x:Str}{t:Tb}(h:ts.find? (λt=>decide (t.nm=x))=some t):CB [.tup (ts.map tbD),.str x] mu=some (tbD t,mu):=by
 have lc:=Jo (m0:=mu) (tg:=gNm 0) (tt:=(tV (B0 eqD (B0 ixG (BS 0) (eC (.int 0))) (BS 1)))) (el:=BS 0) (ro:=[none,some (.str x)]) (mu:=mu) (λd=>match d with|.tup (.str y::_)=>decide (y=x)|_=>false) id (ts.map tbD) (λd hd=>by
  obtain ⟨t,_,rfl⟩:=Aj.mp hd
  refine ⟨_,rfl,?_,λ_=>rfl⟩
  simp! [tbD])
 have e:((ts.map tbD).filter (λd=>match d with|.tup (.str y::_)=>decide (y=x)|_=>false)).map id=(ts.filter (λt=>decide (t.nm=x))).map tbD:=by
  rw [List.map_id,List.filter_map]
  rfl
 obtain ⟨r,hr⟩:∃ r,ts.filter (λt=>decide (t.nm=x))=t::r:=by
  have:=List.head?_filter (p:=λt:Tb=>decide (t.nm=x)) (l:=ts)
  rw [h] at this
  cases q:ts.filter (λt=>decide (t.nm=x)) with
  | nil=>rw [q] at this;cases this
  | cons a r=>rw [q] at this;cases this;exact ⟨r,rfl⟩
 rw [e,hr,Bi] at lc
 simp! [CB,FY,lc]
theorem LJ {r:List Str}{j:Nat}(h:j≤r.length):slD (rwD r) none (some (j:Int)) mu=some (rwD (r.take j),mu):=by
 unfold rwD
 rw [QL,Ks (by rw [Ae];exact h),List.map_take]
theorem Ly (r:List Str):(toPy (rwD r)).depth≤60:=by
 have:=J9 r
 simp only [rwD,toPy,PyData.depth] at this ⊢
 ext
theorem Lk {m0:Sto}{p:List Str}{x c:Option D}(hp:p.length≤100):∀ (ss:List Str) (b:List D),b.length+ss.length≤sizeLine->cGo none m0 (gNm 1) tY (stL (B0 Ci (BS 0) (Dc (BR (BS 1) BW)))) [some (rwD p),x,c] (ss.map D.str) b mu=some (b++(ss.map λs=>p++[s]).map rwD,mu)
 | [],b,_=>by
  simp [cGo]
 | s::ss,b,h=>by
  rw [List.length_cons] at h
  have ih:=Lk (m0:=m0) (x:=x) (c:=c) hp ss (b++[rwD (p++[s])]) (by rw [An,List.length_singleton];ext)
  have tg:gNm 1 (.str s) [some (rwD p),x,c] mu=some ([some (rwD p),some (.str s),c],mu):=rfl
  have t:tY [some (rwD p),some (.str s),c] mu=some (true,mu):=rfl
  have za:Ci (.tup (p.map D.str)) (.tup [.str s]) mu=some (.tup (p.map D.str++[.str s]),mu):=Ky (by rw [AR,Ae,List.length_singleton];ext)
  have e2:stL (B0 Ci (BS 0) (Dc (BR (BS 1) BW))) b [some (rwD p),some (.str s),c] mu=some (b++[rwD (p++[s])],mu):=by
   have e:rwD (p++[s])=.tup (p.map D.str++[.str s]):=by unfold rwD;rw [Az];rfl
   have e':rwD p=.tup (p.map D.str):=rfl
   unfold stL
   rw [e,e']
   simp! [za]
   rw [if_pos (by ext)]
  rw [Bi]
  unfold cGo
  rw [tg,B7,t,B7,if_pos rfl,e2,B7,Dd,if_pos (show gOk none m0 mu from True.intro),ih]
  simp
noncomputable def CD (ps:List (List Str))(ss:List Str):List (List Str):=ps.flatMap λp=>ss.map λs=>p++[s]
theorem Jy {m0:Sto}{ss:List Str}{x y:Option D}:∀ (ps:List (List Str)) (b:List D),(∀ p∈ps,p.length≤100)->b.length+ps.length*ss.length≤sizeLine->cGo none m0 (gNm 0) tY (stI (CS (BS 2)) (gNm 1) tY (stL (B0 Ci (BS 0) (Dc (BR (BS 1) BW))))) [x,y,some (.lst (ss.map D.str))] (ps.map rwD) b mu=some (b++(CD ps ss).map rwD,mu)
 | [],b,_,_=>by simp [cGo,CD]
 | p::ps,b,hp,h=>by
  rw [List.length_cons,Nat.succ_mul] at h
  have e1:=Lk (m0:=mu) (mu:=mu) (p:=p) (x:=y) (c:=some (.lst (ss.map D.str))) (hp p (.head _)) ss b (by ext)
  have ih:=Jy (m0:=m0) (ss:=ss) (x:=x) (y:=y) ps (b++(ss.map λs=>p++[s]).map rwD) (λq hq=>hp q (.tail _ hq)) (by rw [An,Ae,Ae];ext)
  have tg:gNm 0 (rwD p) [x,y,some (.lst (ss.map D.str))] mu=some ([some (rwD p),y,some (.lst (ss.map D.str))],mu):=rfl
  have t:tY [some (rwD p),y,some (.lst (ss.map D.str))] mu=some (true,mu):=rfl
  have e2:stI (CS (BS 2)) (gNm 1) tY (stL (B0 Ci (BS 0) (Dc (BR (BS 1) BW)))) b [some (rwD p),y,some (.lst (ss.map D.str))] mu=some (b++(ss.map λs=>p++[s]).map rwD,mu):=by
   have iv:CS (BS 2) [some (rwD p),y,some (.lst (ss.map D.str))] mu=some ((ss.map D.str,none),mu):=rfl
   unfold PV.stI
   rw [iv,B7]
   exact e1
  rw [Bi]
  unfold cGo
  rw [tg,B7,t,B7,if_pos rfl,e2,B7,Dd,if_pos (show gOk none m0 mu from True.intro),ih]
  unfold CD
  simp
theorem Hg (ps:List (List Str))(ss:List Str):(CD ps ss).length=ps.length*ss.length:=by
 unfold CD
 induction ps with
 | nil=>simp
 | cons p ps ih=>simp [ih,Nat.succ_mul,Nat.add_comm]
theorem Tj {ts:List Tb}(h:MK (.tup (ts.map tbD))=true):∀ t∈ts,∀ p∈t.cs,∀ x∈p.2,IsW x:=by
 intro t ht p hp x hx
 have h':((EU 1 4 (.tup (ts.map tbD))&&(ts.map tbD).all GF)&&GY ((ts.map tbD).map Gf))=true:=h
 rw [Ab,Ab,Ay] at h'
 have:=h'.1.2 (tbD t) (Aj.mpr ⟨t,ht,rfl⟩)
 unfold GF tbD at this
 dsimp only at this
 rw [Ab,Ab] at this
 have h2:((EU 1 4 (.tup (t.cs.map clD))&&(t.cs.map clD).all GA)&&ndB ((t.cs.map clD).map Gf))=true:=this.1.2
 rw [Ab,Ab,Ay] at h2
 have h3:=h2.1.2 (clD p) (Aj.mpr ⟨p,hp,rfl⟩)
 unfold GA clD at h3
 dsimp only at h3
 rw [Ab] at h3
 have h4:=h3.2
 unfold E7 at h4
 rw [Ab,Ab] at h4
 have h5:(p.2.map D.str).all FV=true:=h4.2.1
 rw [Ay] at h5
 exact Hr.mp (h5 (.str x) (Aj.mpr ⟨x,hx,rfl⟩))
end PG
namespace PV
open PySem L2 PyProof.Rows K1
variable {mu:Sto}
theorem Le {g:Option Nat}{m0:Sto}{tg:Gx}{body:Sx}(Inv:Nat->Ro->Sto->Prop)(hg:∀ i ro m,Inv i ro m->gOk g m0 m):∀ (ds:List D) (i:Nat) (ro:Ro) (mu:Sto),Inv i ro mu->(∀ j d ro mu,ds[j]? = some d->Inv (i+j) ro mu->∃ ro1 m1 ro2 m2,tg d ro mu=some (ro1,m1)∧body ro1 m1=some ((.nx,ro2),m2)∧Inv (i+j+1) ro2 m2) ->
  ∃ ro' mu',DX g m0 tg body ds ro mu=some ((.nx,ro'),mu')∧Inv (i+ds.length) ro' mu'
 | [],i,ro,mu,h,_=>⟨ro,mu,rfl,h⟩
 | d::ds,i,ro,mu,h,st=>by
  obtain ⟨ro1,m1,ro2,m2,e1,e2,h2⟩:=st 0 d ro mu rfl h
  obtain ⟨ro',mu',e3,h3⟩:=Le (g:=g) (m0:=m0) (tg:=tg) (body:=body) Inv hg ds (i+1) ro2 m2 h2 λj d' ro mu ed hi=>by
   have:=st (j+1) d' ro mu (by simpa using ed) (by rw [show i+(j+1)=i+1+j by ext];exact hi)
   rw [show i+(j+1)+1=i+1+j+1 by ext] at this
   exact this
  refine ⟨ro',mu',?_,by rw [List.length_cons,show i+(ds.length+1)=i+1+ds.length by ext];exact h3⟩
  unfold DX
  rw [e1,B7,e2,B7]
  dsimp only
  rw [Dd,if_pos (hg _ _ _ h2),e3]
theorem F9 {o:MO}(h:Flat mu)(ho:Hj (mu.length+1) o=true):Flat (mu++[o]):=by
 intro j q hq
 rw [An,List.length_singleton]
 by_cases c:j<mu.length
 ·rw [Ai c] at hq
  exact LM (Nat.le_succ _) (h j q hq)
 ·rw [AX (by ext)] at hq
  cases e:j-mu.length with
  | zero=>rw [e] at hq;cases hq;exact ho
  | succ i=>rw [e] at hq;simp at hq
theorem Gi {o:MO}{i:Nat}(h:Flat mu)(ho:Hj mu.length o=true):Flat (mu.set i o):=by
 intro j q hq
 rw [Bb]
 rw [List.getElem?_set] at hq
 split at hq
 ·split at hq
  ·cases hq;exact ho
  ·cases hq
 ·exact h j q hq
theorem N3 (n:Nat)(ss:List Str):DB n (ss.map D.str)=true:=by
 induction ss with
 | nil=>rfl
 | cons x xs ih=>rw [Bi,DB,ih];rfl
def sS (v:List Str):List Str:=(Dx (v.map D.str)).map λd=>match d with
 | .str x=>x
 | _=>⟨#[]⟩
theorem NJ (v:List Str):(sS v).map D.str=Dx (v.map D.str):=by
 obtain ⟨ts,e,p⟩:=Gp (CF (v.map D.str))
 unfold sS
 rw [e,AV,AV]
 rfl
theorem IT (v:List Str):(sS v).Perm v:=by
 obtain ⟨ts,e,p⟩:=Gp (CF (v.map D.str))
 have:sS v=ts:=by
  unfold sS
  rw [e,AV]
  exact List.map_id' _
 rw [this]
 exact p
end PV
namespace PG
open PySem L2 PV PyProof.Rows K1
variable {mu:Sto}
theorem FC (n:Nat)(rs:List (List Str)):DB n (rs.map rwD)=true:=by
 induction rs with
 | nil=>rfl
 | cons x xs ih =>
  rw [Bi,DB,ih]
  show (DB n (x.map D.str)&&true)=true
  rw [N3]
  rfl
def prd (cs:List (List Str)):List (List Str):=cs.foldl CD [[]]
theorem MC (C L:List (List Str)):C.foldl CD L=L.flatMap λp=>(prd C).map (p++·):=by
 induction C generalizing L with
 | nil=>simp [prd]
 | cons s C ih =>
  have e:prd (s::C)=(CD [[]] s).flatMap λp=>(prd C).map (p++·):=ih _
  rw [List.foldl_cons,ih,e]
  unfold CD
  simp only [List.flatMap_assoc,List.map_flatMap,List.flatMap_cons,List.flatMap_nil,BA,List.flatMap_map,List.nil_append,AV]
  simp [Function.comp_def]
end PG
namespace PV
open PySem L2 PyProof.Rows K1
variable {mu:Sto}
theorem Uy {ds:List D}(h:ds.Pairwise λa b=>ltT a b=true):ds.Nodup:=by
 rw [AI]
 exact h.imp λ{a b} l e=>by subst e;have:=Gk a a l;rw [l] at this;cases this
theorem OJ {ds:List D}(ho:∀ d∈ds,Dv d=true)(nd:ds.Nodup):(Dx ds).Pairwise λa b=>ltT a b=true:=by
 have p:=CF ds
 have up:=G2 ds
 have ne:=AI.mp (p.nodup_iff.mpr nd)
 refine List.Pairwise.imp_of_mem (λ{a b} ha hb ⟨l,n⟩=>?_) (up.and ne)
 cases c:ltT a b with
 | true=>rfl
 | false =>
  unfold leT at l
  exact (n (lt_eq a b (ho a (p.mem_iff.mp ha)) (ho b (p.mem_iff.mp hb)) c (by simpa using l))).elim
theorem LZ:∀ (p a b:List D),CG (p++a) (p++b)=CG a b
 | [],a,b=>rfl
 | x::p,a,b=>by
  rw [List.cons_append,List.cons_append,CG,JC,LZ p a b]
  rfl
end PV
namespace PG
open PySem L2 PV PyProof.Rows K1
variable {mu:Sto}
theorem Qm (a b:List (List Str)):prd (a++b)=(prd a).flatMap λp=>(prd b).map (p++·):=by
 show (a++b).foldl CD [[]]=_
 rw [List.foldl_append]
 exact MC b _
theorem D2 (a:List (List Str))(s:List Str):prd (a++[s])=CD (prd a) s:=by
 show (a++[s]).foldl CD [[]]=_
 rw [List.foldl_append]
 rfl
theorem IX {ps:List (List Str)}{ss:List Str}{r:List Str}(h:r∈CD ps ss):∃ p x,p∈ps∧x∈ss∧r=p++[x]:=by
 unfold CD at h
 obtain ⟨q,hq,hp⟩:=List.mem_flatMap.mp h
 obtain ⟨s,hs,rfl⟩:=Aj.mp hp
 exact ⟨q,s,hq,hs,rfl⟩
theorem FL {P:List (List Str)->Prop}(h0:P [])(h1:∀ a s,P a->P (a++[s]))(cs:List (List Str)):P cs:=by
 have:∀ n (cs:List (List Str)),cs.length=n->P cs:=by
  intro n
  induction n with
  | zero=>intro cs h;rw [BI.mp h];exact h0
  | succ n ih =>
   intro cs h
   have ne:cs≠[]:=λe=>by rw [e] at h;simp at h
   rw [← List.dropLast_concat_getLast ne]
   exact h1 _ _ (ih _ (by rw [List.length_dropLast];ext))
 exact this _ cs rfl
theorem Et (cs:List (List Str)):∀ r∈prd cs,r.length=cs.length:=by
 refine FL (P:=λcs=>∀ r∈prd cs,r.length=cs.length) (λr hr=>?_) (λa s ih r hr=>?_) cs
 ·have:r∈([[]]:List (List Str)):=hr
  rw [Aq.mp this]
  rfl
 ·rw [D2] at hr
  obtain ⟨p,x,hp,_,rfl⟩:=IX hr
  rw [An,An,ih p hp]
  rfl
theorem Qa (cs:List (List Str)){Q:Str->Prop}(h:∀ ss∈cs,∀ x∈ss,Q x):∀ r∈prd cs,∀ x∈r,Q x:=by
 revert h
 refine FL (P:=λcs=>(∀ ss∈cs,∀ x∈ss,Q x)->∀ r∈prd cs,∀ x∈r,Q x) (λ_ r hr x hx=>?_) (λa s ih h r hr x hx=>?_) cs
 ·have:r∈([[]]:List (List Str)):=hr
  rw [Aq.mp this] at hx
  cases hx
 ·rw [D2] at hr
  obtain ⟨p,y,hp,hy,rfl⟩:=IX hr
  rcases AA.mp hx with hx|hx
  ·exact ih (λss hs=>h ss (AK _ hs)) p hp x hx
  ·rw [Aq.mp hx]
   exact h s (by simp) y hy
theorem EK (cs:List (List Str))(h:∀ ss∈cs,ss.length≤4):(prd cs).length≤4 ^ cs.length:=by
 revert h
 refine FL (P:=λcs=>(∀ ss∈cs,ss.length≤4)->(prd cs).length≤4 ^ cs.length) (λ_=>by simp [prd]) (λa s ih h=>?_) cs
 rw [D2,Hg,An,List.length_singleton,Nat.pow_succ]
 exact Nat.mul_le_mul (ih λss hs=>h ss (AK _ hs)) (h s (by simp))
theorem Nh:∀ (f g:List Str->List Str),(∀ v,(f v).Perm (g v))->∀ cs:List (List Str),(prd (cs.map f)).Perm (prd (cs.map g)):=λf g h cs=>by
 refine FL (P:=λcs=>(prd (cs.map f)).Perm (prd (cs.map g))) (A7 _) (λa s ih=>?_) cs
 rw [Az,Az,List.map_singleton,List.map_singleton,D2,D2]
 unfold CD
 refine (ih.flatMap_right _).trans ?_
 have:∀ (L:List (List Str)),(L.flatMap λp=>(f s).map λs=>p++[s]).Perm (L.flatMap λp=>(g s).map λs=>p++[s]):=by
  intro L
  induction L with
  | nil=>exact A7 _
  | cons p L ih=>rw [List.flatMap_cons,List.flatMap_cons];exact ((h s).map _).append ih
 exact this _
theorem Kx {a b:List Str}:ltT (rwD a) (rwD b)=true ↔ CG (a.map D.str) (b.map D.str)=.lt:=by simp [ltT,rwD,B9]
theorem M7 (cs:List (List Str))(h:∀ ss∈cs,(ss.map D.str).Pairwise λa b=>ltT a b=true):((prd cs).map rwD).Pairwise λa b=>ltT a b=true:=by
 revert h
 refine FL (P:=λcs=>(∀ ss∈cs,(ss.map D.str).Pairwise λa b=>ltT a b=true)->((prd cs).map rwD).Pairwise λa b=>ltT a b=true) (λ_=>List.pairwise_singleton _ _) (λa s ih h=>?_) cs
 have ih:=ih λss hs=>h ss (AK _ hs)
 have hs:=h s (by simp)
 have ln:=Et a
 rw [D2]
 have key:∀ L:List (List Str),(∀ p∈L,p.length=a.length)->(L.map rwD).Pairwise (λa b=>ltT a b=true)->((CD L s).map rwD).Pairwise λa b=>ltT a b=true:=by
  intro L
  induction L with
  | nil=>exact λ_ _=>.nil
  | cons p L ihL =>
   intro hl hp
   rw [Bi,List.pairwise_cons] at hp
   have e:CD (p::L) s=(s.map λx=>p++[x])++CD L s:=rfl
   rw [e,Az,List.pairwise_append]
   refine ⟨?_,ihL (λq hq=>hl q (.tail _ hq)) hp.2,λx hx y hy=>?_⟩
   ·rw [AV,Bo]
    rw [Bo] at hs
    refine hs.imp λ{x y} l=>?_
    show ltT (rwD (p++[x])) (rwD (p++[y]))=true
    rw [Kx,Az,Az,LZ]
    have l':EN x y=.lt:=by simpa [ltT,B9] using l
    show oTh (EN x y) .eq=.lt
    rw [l']
    rfl
   ·obtain ⟨r,hr,rfl⟩:=Aj.mp hx
    obtain ⟨x,_,rfl⟩:=Aj.mp hr
    obtain ⟨r',hr',rfl⟩:=Aj.mp hy
    obtain ⟨q,y,hq,_,rfl⟩:=IX hr'
    have l:=Kx.mp (hp.1 (rwD q) (Aj.mpr ⟨q,hq,rfl⟩))
    have pl:=hl p (.head _)
    have ql:=hl q (.tail _ hq)
    rw [Kx]
    refine (JZ p.length _ _ (by simp [pl,ql])).1 ?_
    rw [Az,Az,List.take_left' (by simp),List.take_left' (by simp [pl,ql])]
    exact l
 exact key _ ln ih
theorem OQ {vs:List (List Str)}(h:∀ v∈vs,v.Nodup):Dx ((prd vs).map rwD)=(prd (vs.map sS)).map rwD:=by
 refine (Gm ?_ ?_ ?_).symm
 ·intro d hd
  obtain ⟨r,_,rfl⟩:=Aj.mp hd
  unfold rwD Dv
  exact JR r
 ·have:=Nh sS id IT vs
  rw [List.map_id] at this
  exact this.map _
 ·refine (M7 _ λss hs=>?_).imp λ{a b} l=>?_
  ·obtain ⟨v,hv,rfl⟩:=Aj.mp hs
   rw [NJ]
   exact OJ (λd hd=>by obtain ⟨x,_,rfl⟩:=Aj.mp hd;rfl) (Es.mpr (h v hv))
  ·unfold leT
   rw [Gk a b l]
   rfl
theorem RZ {vs:List (List Str)}(h:∀ v∈vs,v.Nodup):((prd (vs.map sS)).map rwD).Nodup:=by
 refine Uy (M7 _ λss hs=>?_)
 obtain ⟨v,hv,rfl⟩:=Aj.mp hs
 rw [NJ]
 exact OJ (λd hd=>by obtain ⟨x,_,rfl⟩:=Aj.mp hd;rfl) (Es.mpr (h v hv))
end PG
namespace PV
open PySem L2 PyProof.Rows K1
variable {mu:Sto}
theorem QE {a:Ex}{r:Exs}{ro:Ro}{k:Nat}{ds ys:List D}{y:D}{m m1:Sto}(e1:a ro mu=some (.ref k,m))(h:m[k]? = some (.lst ds))(e2:r ro m=some ([y],m1))(h1:m1[k]? = some (.lst ds))(hy:FU m1 y=some ys)(hl:ds.length+ys.length≤sizeLine):Jg a r ro mu=some (.non,m1.set k (.lst (ds++ys))):=by
 unfold Jg
 rw [e1,B7]
 dsimp only
 have ok:CM m (.ref k)=true:=by simp only [CM,h]
 rw [if_pos ok,e2,B7]
 have s1:sq1 [y] m1=some ys:=hy
 rw [s1,h1]
 dsimp only
 rw [if_pos hl]
theorem Qp {es:List D}{k:Nat}(h:mu[k]? = some (.lst es))(ok:Ds es=true):G7 [.ref k] mu=some (.lst (Dx es),mu):=by
 have e1:HM [.ref k] mu=some (.lst (Dx es),mu):=by simp only [HM,FA,Mt,FU,CI,h,ok,if_true]
 unfold G7
 rw [e1]
end PV
namespace PG
open PySem L2 PV PyProof.Rows K1
variable {mu:Sto}
noncomputable def lsD (ss:List Str):D:=.lst (ss.map D.str)
theorem GO {cs:List (List Str)}(h4:cs.length≤4)(hs:∀ ss∈cs,ss.length≤4):DH [.lst (cs.map lsD)] mu=some (.lst ((prd cs).map rwD),mu):=by
 obtain ⟨ro',m',e,⟨y2,rfl⟩,rfl⟩:=D5 (m0:=mu) (tg:=gNm 2) (body:=(Cu (eCo (CS (BS 1)) 2 [2] (gNm 0) (tY) (stI (CS (BS 2)) (gNm 1) (tY) (stL (B0 Ci (BS 0) (Dc (BR (BS 1) BW))))) [] finL) (gNm 1))) (λi ro m=>(∃ y2,ro=[some (.lst (cs.map lsD)),some (.lst ((prd (cs.take i)).map rwD)),y2])∧m=mu) (cs.map lsD) 0 [some (.lst (cs.map lsD)),some (.lst [.tup []]),none] mu ⟨⟨none,rfl⟩,rfl⟩ λj d ro m ed ⟨⟨y2,er⟩,em⟩=>by
   subst er
   subst em
   rw [Ar] at ed
   cases q:cs[j]? with
   | none=>rw [q] at ed;cases ed
   | some ss =>
    rw [q] at ed
    have ed':lsD ss=d:=AB ed
    subst ed'
    have jl:j<cs.length:=(Ad.mp q).1
    have sl:=hs ss (Ag q)
    have pl:=EK (cs.take j) λss h=>hs ss (A8 h)
    have pw:4 ^ (cs.take j).length≤4 ^ 4:=BF (by decide) (by rw [AE];ext)
    have ml:(prd (cs.take j)).length*ss.length≤4 ^ 4*4:=Nat.mul_le_mul (by ext) sl
    have g:=Jy (m0:=m) (mu:=m) (ss:=ss) (x:=none) (y:=none) (prd (cs.take j)) [] (λp hp=>by rw [Et _ p hp,AE];ext) (by rw [AR,List.length_nil];ext)
    rw [List.nil_append] at g
    have et:prd (cs.take (j+1))=CD (prd (cs.take j)) ss:=by
     rw [List.take_add_one,q]
     exact D2 _ _
    rw [AU,et]
    refine ⟨_,m,[some (.lst (cs.map lsD)),some (.lst ((CD (prd (cs.take j)) ss).map rwD)),some (lsD ss)],m,rfl,?_,⟨_,rfl⟩,rfl⟩
    have co:eCo (CS (BS 1)) 2 [2] (gNm 0) (tY) (stI (CS (BS 2)) (gNm 1) (tY) (stL (B0 Ci (BS 0) (Dc (BR (BS 1) BW))))) [] finL [some (.lst (cs.map lsD)),some (.lst ((prd (cs.take j)).map rwD)),some (lsD ss)] m=some (.lst ((CD (prd (cs.take j)) ss).map rwD),m):=by
     have iv:CS (BS 1) [some (.lst (cs.map lsD)),some (.lst ((prd (cs.take j)).map rwD)),some (lsD ss)] m=some (((prd (cs.take j)).map rwD,none),m):=rfl
     have r:r0 2 [2] [some (.lst (cs.map lsD)),some (.lst ((prd (cs.take j)).map rwD)),some (lsD ss)]=[none,none,some (.lst (ss.map D.str))]:=rfl
     unfold eCo
     rw [iv,B7]
     dsimp only
     rw [r,g,B7]
     rfl
    simp! [co]
 rw [Ae,AU,List.take_length] at e
 simp! [DH,GD,e]
theorem Hz {qs:List (Str×List Str)}(h:∀ p∈qs,p.2.length≤4):Cs [.tup (qs.map clD)] mu=some (.lst (((qs.map (·.2)).map sS).map lsD),mu):=by
 have lc:=F1 (m0:=mu) (tg:=(gTp 2 (Cg (gNm 0) (Cg (gNm 1) Ec)))) (el:=(BX G7 (BR (BS 1) BW))) (ro:=[none,none]) (mu:=mu) (λd=>match d with|.tup [_,.tup vs]=>D.lst (Dx vs)|_=>.non) (qs.map clD) (λd hd=>by
  obtain ⟨p,hp,rfl⟩:=Aj.mp hd
  refine ⟨[some (.str p.1),some (.tup (p.2.map D.str))],rfl,?_⟩
  have z:=O5 (mu:=mu) (ss:=p.2) (by have:=h p hp;ext)
  simp! [z,clD])
 have em:(qs.map clD).map (λd=>match d with|.tup [_,.tup vs]=>D.lst (Dx vs)|_=>.non)=((qs.map (·.2)).map sS).map lsD:=by
  rw [AV,AV,AV]
  refine List.map_congr_left λp _=>?_
  show D.lst (Dx (p.2.map D.str))=D.lst ((sS p.2).map D.str)
  rw [NJ]
 rw [em] at lc
 simp! [Cs,DW,lc]
noncomputable def vsT (t:Tb):List (List Str):=t.cs.map (·.2)
def CN (t:Tb):List (List Str):=prd ((vsT t).map sS |>.take t.ks)
def Ct (t:Tb):List (List Str):=prd ((vsT t).map sS |>.drop t.ks)
def EJ (t:Tb):List (List Str):=prd ((vsT t).map sS)
theorem Li (t:Tb):EJ t=(CN t).flatMap λk=>(Ct t).map (k++·):=by
 unfold EJ CN Ct
 rw [← Qm,Bp]
theorem IF {t:Tb}:CB [.tup [tbD t],.str t.nm] mu=some (tbD t,mu):=II (ts:=[t]) (by simp)
theorem Jl (v:List Str):(sS v).length=v.length:=(IT v).length_eq
theorem HB {t:Tb}(ht:MP t):CQ [.tup [tbD t],.str t.nm] mu=some (.tup ((CN t).map rwD),mu):=by
 have i1:ixG (tbD t) (.int 1) mu=some (.tup (t.cs.map clD),mu):=Lb
 have i2:ixG (tbD t) (.int 2) mu=some (.int t.ks,mu):=Ja
 have ct:=Ks (xs:=t.cs.map clD) (j:=t.ks) (by rw [Ae];exact ht.k4)
 rw [← List.map_take] at ct
 have rv:=Hz (mu:=mu) (qs:=t.cs.take t.ks) λp hp=>(ht.vs p (A8 hp)).2
 have pr:=GO (mu:=mu) (cs:=((t.cs.take t.ks).map (·.2)).map sS) (by rw [Ae,Ae,AE];have:=ht.c4;ext) (λss hs=>by
  obtain ⟨v,hv,rfl⟩:=Aj.mp hs
  obtain ⟨p,hp,rfl⟩:=Aj.mp hv
  rw [Jl]
  exact (ht.vs p (A8 hp)).2)
 have tf:Fo [.lst ((prd (((t.cs.take t.ks).map (·.2)).map sS)).map rwD)] mu=some (.tup ((prd (((t.cs.take t.ks).map (·.2)).map sS)).map rwD),mu):=rfl
 have ek:prd (((t.cs.take t.ks).map (·.2)).map sS)=CN t:=by unfold CN vsT;rw [List.map_take,List.map_take]
 rw [ek] at pr tf
 simp! [CQ,GI,IF,i1,i2,ct,rv,pr,tf]
theorem Qt {k:List Str}{K:List (List Str)}(h:k∈K):Pe (rwD k) (.tup (K.map rwD)) mu=some (.bl false,mu):=by
 have hk:=Hn.row k
 have hK:Hn 3 (.tup (K.map rwD)):=Hn.tup λd hd=>by obtain ⟨r,_,rfl⟩:=Aj.mp hd;exact Hn.row r
 have p2:CY (K.map rwD)=true:=by have:=EO hK.1;simpa only [Ca] using this
 have e:inB mu (rwD k) (.tup (K.map rwD))=some true:=by
  have e0:inB mu (rwD k) (.tup (K.map rwD))=if Ca (rwD k)&&CY (K.map rwD)&&decide (min (PyData.depthAll (B4 (K.map rwD))) (toPy (rwD k)).depth≤60) then some ((B4 (K.map rwD)).any λy=>PyData.eqv y (toPy (rwD k))) else none:=rfl
  have rd:=Ly k
  rw [e0,if_pos (by rw [EO hk.1,p2];simp only [Bool.and_self,Bool.true_and,Al];ext)]
  congr 1
  rw [L9,List.any_eq_true]
  refine ⟨toPy (rwD k),Aj.mpr ⟨_,Aj.mpr ⟨k,h,rfl⟩,rfl⟩,?_⟩
  rw [Fh hk.1 hk.1]
  simp
 have:Nc (rwD k) (.tup (K.map rwD)) mu=some (.bl false,mu):=by
  unfold Nc
  rw [e]
  rfl
 unfold Pe
 rw [this]
theorem HF {t:Tb}(ht:MP t){k:List Str}(hk:k∈CN t):Dt [.tup [tbD t],.str t.nm,rwD k] mu=some (.tup (((Ct t).map (k++·)).map rwD),mu):=by
 have i1:ixG (tbD t) (.int 1) mu=some (.tup (t.cs.map clD),mu):=Lb
 have i2:ixG (tbD t) (.int 2) mu=some (.int t.ks,mu):=Ja
 have ct:=Ox (xs:=t.cs.map clD) (j:=t.ks) (by rw [Ae];exact ht.k4)
 rw [← List.map_drop] at ct
 have rv:=Hz (mu:=mu) (qs:=t.cs.drop t.ks) λp hp=>(ht.vs p (List.mem_of_mem_drop hp)).2
 have pr:=GO (mu:=mu) (cs:=((t.cs.drop t.ks).map (·.2)).map sS) (by rw [Ae,Ae,BD];have:=ht.c4;ext) (λss hs=>by
  obtain ⟨v,hv,rfl⟩:=Aj.mp hs
  obtain ⟨p,hp,rfl⟩:=Aj.mp hv
  rw [Jl]
  exact (ht.vs p (List.mem_of_mem_drop hp)).2)
 have ek:prd (((t.cs.drop t.ks).map (·.2)).map sS)=Ct t:=by unfold Ct vsT;rw [List.map_drop,List.map_drop]
 rw [ek] at pr
 have kl:k.length≤4:=by
  have:=Et _ k hk
  rw [AE,Ae] at this
  have h1:=ht.c4
  have h2:=ht.k4
  ext
 have lc:=F1 (m0:=mu) (tg:=gNm 0) (el:=(B0 Ci (BS 1) (BS 0))) (ro:=[none,some (rwD k)]) (mu:=mu) (λd=>match d with|.tup ds=>.tup (k.map D.str++ds)|_=>.non) ((Ct t).map rwD) (λd hd=>by
  obtain ⟨r,hr,rfl⟩:=Aj.mp hd
  refine ⟨_,rfl,?_⟩
  have rl:r.length≤4:=by
   have:=Et _ r hr
   rw [BD,Ae] at this
   have h1:=ht.c4
   have h2:(vsT t).length=t.cs.length:=Ae _
   ext
  have za:Ci (.tup (k.map D.str)) (.tup (r.map D.str)) mu=some (.tup (k.map D.str++r.map D.str),mu):=Ky (by rw [AR,Ae,Ae];ext)
  have e1:rwD k=.tup (k.map D.str):=rfl
  have e2:rwD r=.tup (r.map D.str):=rfl
  rw [e1,e2]
  simp! [za])
 have em:((Ct t).map rwD).map (λd=>match d with|.tup ds=>.tup (k.map D.str++ds)|_=>.non)=((Ct t).map (k++·)).map rwD:=by
  rw [AV,AV]
  refine List.map_congr_left λr _=>?_
  show D.tup (k.map D.str++r.map D.str)=D.tup ((k++r).map D.str)
  rw [Az]
 rw [em] at lc
 have rb:Df [tbD t,rwD k] mu=some (.tup (((Ct t).map (k++·)).map rwD),mu):=by
  have tf:Fo [.lst (((Ct t).map (k++·)).map rwD)] mu=some (.tup (((Ct t).map (k++·)).map rwD),mu):=rfl
  have e1:rwD k=.tup (k.map D.str):=rfl
  simp! [Df,Ew,i1,i2,ct,rv,pr,lc,tf]
 have nn:=Qt (mu:=mu) hk
 simp! [Dt,Fs,HB ht,nn,IF,rb]
theorem KA {t:Tb}{r:List Str}(h:t.ks≤r.length):Em [.tup [tbD t],.str t.nm,rwD r] mu=some (rwD (r.take t.ks),mu):=by
 have i2:ixG (tbD t) (.int 2) mu=some (.int t.ks,mu):=Ja
 have cr:=LJ (mu:=mu) h
 simp! [Em,G5,IF,i2,cr]
noncomputable def tpD (ss:List Str):D:=.tup (ss.map D.str)
def J1:Sx:=(sEx (Jg (BS 3) (BR (eLC (CS (BS 2)) 1 [4] (gNm 0) (tY) (B0 Ci (BS 1) (Dc (BR (BS 0) BW)))) BW)))
def NY:Sx:=(Cc (Cu (DA BW) (gNm 3)) (Cc (FT (CS (BS 1)) (gNm 4) J1) (Cu (BS 3) (gNm 1))))
theorem KW {g:Option Nat}{m0:Sto}{c:Nat}{lots f:D}{s:List Str}{x4:Option D}(hs:s.length≤4)(ps:List (List Str))(hp:∀ p∈ps,p.length≤4)(pl:ps.length≤1000)(hc:mu[c]? = some (.lst []))(hg:∀ m:Sto,(∀ j,j≠c->m[j]? = mu[j]?)->gOk g m0 m) :
  ∃ y4 m',DX g m0 (gNm 4) J1 (ps.map rwD) [some lots,some f,some (tpD s),some (.ref c),x4] mu=some ((.nx,[some lots,some f,some (tpD s),some (.ref c),y4]),m')∧m'[c]? = some (.lst ((CD ps s).map rwD))∧(∀ j,j≠c->m'[j]? = mu[j]?)∧m'.length=mu.length:=by
 obtain ⟨ro',m',e,⟨y4,rfl⟩,a1,a2,a3⟩:=Le (g:=g) (m0:=m0) (tg:=gNm 4) (body:=J1) (λi ro m=>(∃ y4,ro=[some lots,some f,some (tpD s),some (.ref c),y4])∧m[c]? = some (.lst ((CD (ps.take i) s).map rwD))∧(∀ j,j≠c->m[j]? = mu[j]?)∧m.length=mu.length) (λi ro m h=>hg m h.2.2.1) (ps.map rwD) 0 _ mu ⟨⟨x4,rfl⟩,hc,λ_ _=>rfl,rfl⟩ λj d ro m ed hi=>by
  obtain ⟨⟨y4,rfl⟩,a1,a2,a3⟩:=hi
  rw [Ar] at ed
  cases q:ps[j]? with
  | none=>rw [q] at ed;cases ed
  | some p =>
   rw [q] at ed
   have ed':rwD p=d:=AB ed
   subst ed'
   have pl4:=hp p (Ag q)
   have lc:=F1 (m0:=m) (tg:=gNm 0) (el:=(B0 Ci (BS 1) (Dc (BR (BS 0) BW)))) (ro:=[none,some (rwD p)]) (mu:=m) (λd=>.tup (p.map D.str++[d])) (s.map D.str) (λd hd=>by
    refine ⟨_,rfl,?_⟩
    have za:Ci (.tup (p.map D.str)) (.tup [d]) m=some (.tup (p.map D.str++[d]),m):=Ky (by rw [AR,Ae,List.length_singleton];ext)
    have e1:rwD p=.tup (p.map D.str):=rfl
    rw [e1]
    simp! [za])
   have em:(s.map D.str).map (λd=>D.tup (p.map D.str++[d]))=(s.map λx=>p++[x]).map rwD:=by
    rw [AV,AV]
    refine List.map_congr_left λx _=>?_
    show D.tup (p.map D.str++[.str x])=D.tup ((p++[x]).map D.str)
    rw [Az]
    rfl
   rw [em] at lc
   have el:eLC (CS (BS 2)) 1 [4] (gNm 0) (tY) (B0 Ci (BS 1) (Dc (BR (BS 0) BW))) [some lots,some f,some (tpD s),some (.ref c),some (rwD p)] m=some (.lst ((s.map λx=>p++[x]).map rwD),m):=by
    have w:Iz m (tpD s)=some ((s.map D.str,none),m):=rfl
    simp! [w,lc]
   have e2:(BR (eLC (CS (BS 2)) 1 [4] (gNm 0) (tY) (B0 Ci (BS 1) (Dc (BR (BS 0) BW)))) BW) [some lots,some f,some (tpD s),some (.ref c),some (rwD p)] m=some ([.lst ((s.map λx=>p++[x]).map rwD)],m):=by
    generalize eLC (CS (BS 2)) 1 [4] (gNm 0) (tY) (B0 Ci (BS 1) (Dc (BR (BS 0) BW)))=E at el
    simp! [el]
   have tl:(CD (ps.take j) s).length≤1000*4:=by
    rw [Hg]
    exact Nat.mul_le_mul (by rw [AE];ext) hs
   rw [AU] at a1
   have ex:=QE (mu:=m) (a:=BS 3) (ro:=[some lots,some f,some (tpD s),some (.ref c),some (rwD p)]) (k:=c) rfl a1 e2 a1 (ys:=(s.map λx=>p++[x]).map rwD) rfl (by rw [AR,Ae,Ae,Ae];ext)
   have et:CD (ps.take (0+j+1)) s=CD (ps.take j) s++s.map λx=>p++[x]:=by
    rw [AU,List.take_add_one,q]
    unfold CD
    rw [List.flatMap_append]
    simp
   refine ⟨_,m,_,m.set c (.lst ((CD (ps.take j) s).map rwD++(s.map λx=>p++[x]).map rwD)),rfl,?_,⟨some (rwD p),rfl⟩,?_,λi hi=>?_,?_⟩
   ·unfold J1
    generalize hE:Jg (BS 3) (BR (eLC (CS (BS 2)) 1 [4] (gNm 0) (tY) (B0 Ci (BS 1) (Dc (BR (BS 0) BW)))) BW)=E at ex
    have ex':E [some lots,some f,some (tpD s),some (.ref c),some (rwD p)] m=_:=ex
    rw [RK]
    show bM (E [some lots,some f,some (tpD s),some (.ref c),some (rwD p)] m) _=_
    rw [ex',B7]
    rfl
   ·rw [Dz a1,et,Az]
   ·rw [Aw (Ne.symm hi)]
    exact a2 i hi
   ·rw [Bb,a3]
 rw [Ae,AU,List.take_length] at a1
 exact ⟨y4,m',e,a1,a2,a3⟩
theorem Lg {vs:List (List Str)}(h0:vs≠[])(h4:vs.length≤4)(hv:∀ v∈vs,v.length≤4)(hn:∀ v∈vs,v.Nodup)(hfl:Flat mu):Dr [.lst (vs.map tpD)] mu=some (.lst ((prd (vs.map sS)).map rwD),mu):=by
 obtain ⟨ro',m',e,⟨f,y2,y3,y4,rfl,hf⟩,a2,a3⟩:=D5 (m0:=mu) (tg:=gNm 2) (body:=NY) (λi ro m=>(∃ f y2 y3 y4,ro=[some (.lst (vs.map tpD)),some f,y2,y3,y4]∧((i=0∧f=.lst [.tup []])∨∃ c,f=.ref c∧m[c]? = some (.lst ((prd (vs.take i)).map rwD))))∧(∀ j,j<mu.length->m[j]? = mu[j]?)∧mu.length≤m.length) (vs.map tpD) 0 [some (.lst (vs.map tpD)),some (.lst [.tup []]),none,none,none] mu ⟨⟨_,_,_,_,rfl,.inl ⟨rfl,rfl⟩⟩,λ_ _=>rfl,Ak _⟩ λj d ro m ed hi=>by
  obtain ⟨⟨f,y2,y3,y4,rfl,hf⟩,a2,a3⟩:=hi
  rw [Ar] at ed
  cases q:vs[j]? with
  | none=>rw [q] at ed;cases ed
  | some s =>
   rw [q] at ed
   have ed':tpD s=d:=AB ed
   subst ed'
   have jl:j<vs.length:=(Ad.mp q).1
   have sl:=hv s (Ag q)
   have pz:=EK (vs.take j) λss h=>hv ss (A8 h)
   have pw:4 ^ (vs.take j).length≤4 ^ 4:=BF (by decide) (by rw [AE];ext)
   have pl:∀ p∈prd (vs.take j),p.length≤4:=λp hp=>by rw [Et _ p hp,AE];ext
   have hc:(m++[MO.lst []])[m.length]? = some (.lst []):=by simp
   rw [AU] at hf
   obtain ⟨g,iv,hg⟩:∃ g,Iz (m++[MO.lst []]) f=some (((prd (vs.take j)).map rwD,g),m++[MO.lst []])∧∀ m1:Sto,(∀ i,i≠m.length->m1[i]? = (m++[MO.lst []])[i]?)->gOk g (m++[MO.lst []]) m1:=by
    rcases hf with ⟨rfl,rfl⟩|⟨c,rfl,hc⟩
    ·exact ⟨none,rfl,λ_ _=>True.intro⟩
    ·have cl:=(Ad.mp hc).1
     have hc':(m++[MO.lst []])[c]? = some (.lst ((prd (vs.take j)).map rwD)):=by rw [Ai cl];exact hc
     refine ⟨some c,?_,λm1 h=>(h c (by ext)).symm⟩
     show (match (m++[MO.lst []])[c]? with|some (.lst ds)=>_|_=>_)=_
     rw [hc']
   obtain ⟨z4,m1,e1,b1,b2,b3⟩:=KW (mu:=m++[MO.lst []]) (g:=g) (m0:=m++[MO.lst []]) (c:=m.length) (lots:=.lst (vs.map tpD)) (f:=f) (s:=s) (x4:=y4) sl (prd (vs.take j)) pl (by ext) hc hg
   rw [An,List.length_singleton] at b3
   refine ⟨_,m,[some (.lst (vs.map tpD)),some (.ref m.length),some (tpD s),some (.ref m.length),z4],m1,rfl,?_,⟨_,_,_,_,rfl,.inr ⟨m.length,rfl,?_⟩⟩,λi hi=>?_,by ext⟩
   ·unfold NY
    simp! [iv,e1]
   ·rw [b1,AU,List.take_add_one,q]
    exact congrArg (λx=>some (MO.lst (x.map rwD))) (D2 _ _).symm
   ·rw [b2 i (by ext),Ai (by ext),a2 i hi]
 rw [Ae,AU,List.take_length] at hf
 obtain ⟨c,rfl,hc⟩:∃ c,f=.ref c∧m'[c]? = some (.lst ((prd vs).map rwD)):=by
  rcases hf with ⟨z,_⟩|hf
  ·exact absurd (BI.mp z) h0
  ·exact hf
 have pz:=EK vs hv
 have pw:4 ^ vs.length≤4 ^ 4:=BF (by decide) h4
 have ok:Ds ((prd vs).map rwD)=true:=Pf (by ext) λr hr z=>by
  have:=Et _ r hr
  rw [z] at this
  exact h0 (BI.mp this.symm)
 have sr:=Qp hc ok
 rw [OQ hn] at sr
 have tk:m'.take mu.length=mu:=by
  apply BK
  intro i
  by_cases h:i<mu.length
  ·rw [Bh h,a2 i h]
  ·rw [List.getElem?_eq_none (by rw [AE];ext),List.getElem?_eq_none (by ext)]
 have ct:=Lm (mu:=mu) (m:=m') (d:=.lst ((prd (vs.map sS)).map rwD)) (by show DB 0 _=true;exact FC _ _) (by rw [tk];exact hfl)
 rw [tk] at ct
 unfold NY J1 at e
 simp! [Dr,GL,e,sr,ct]
end PG
namespace PV
open PySem L2 PyProof.Rows K1
variable {mu:Sto}
theorem Sq {a:Ex}{r:Exs}{ro:Ro}{k:Nat}{ds:List D}{y:D}{m:Sto}(e1:a ro mu=some (.ref k,m))(h:m[k]? = some (.lst ds))(e2:r ro m=some ([y],m))(hl:ds.length<sizeLine):Hw a r ro mu=some (.non,m.set k (.lst (ds++[y]))):=by
 unfold Hw
 rw [e1,B7]
 dsimp only
 have ok:CM m (.ref k)=true:=by simp only [CM,h]
 rw [if_pos ok,e2,B7,h]
 dsimp only [FA]
 rw [if_pos hl]
theorem TK {o:Ex}{a:Exs}{ro:Ro}{d:Nat}{ks ds:List D}{k y:D}{m2:Sto}(eo:o ro mu=some (.ref d,mu))(h:mu[d]? = some (.dct ks ds))(ea:a ro mu=some ([k,y],m2))(h2:m2[d]? = some (.dct ks ds))(hk:Fj k=true)(l:ks.length<sizeLine) :
  Mw o a ro mu=match DL k ks ds with
   | some v=>some (v,m2)
   | none=>some (y,m2.set d (.dct (ks++[k]) (ds++[y]))):=by
 unfold Mw
 rw [eo,B7,if_pos (show (DY mu (.ref d)).isSome=true by simp only [DY,h];rfl),ea,B7]
 unfold PQ
 dsimp only
 rw [h2]
 dsimp only
 rw [if_pos ⟨hk,l⟩]
 all_goals cases DL k ks ds<;>rfl
theorem Jx {n:Nat}:∀ {cs:List Nat},(∀ c∈cs,c<n)->DB n (cs.map D.ref)=true
 | [],_=>rfl
 | c::cs,h=>by
  rw [Bi,DB,Jx λc hc=>h c (.tail _ hc)]
  simp only [D6,Bool.and_true,Al]
  exact h c (.head _)
end PV
namespace PG
open PySem L2 PV PyProof.Rows K1
variable {mu:Sto}
def Iw:Sx:=(sEx (Hw (Mw (BS 9) (BR (eSl (BS 10) (pNo) (DZ (BS 5))) (BR (DA BW) BW))) (BR (BS 10) BW)))
structure Mv (dk n:Nat) (P ks:List (List Str)) (cs:List Nat) (m:Sto):Prop where
 at':m[dk]? = some (.dct (ks.map rwD) (cs.map D.ref))
 len:cs.length=ks.length
 kl:ks.length≤P.length
 nd:ks.Nodup
 cd:cs.Nodup
 lt:∀ c∈cs,dk<c∧c<m.length
 mem:∀ r∈P,r.take n∈ks
 row:∀ (j:Nat) k c,ks[j]? = some k->cs[j]? = some c->m[c]? = some (.lst ((P.filter (λr=>decide (r.take n=k))).map rwD))
theorem Lw {ks:List (List Str)}(h:ks.Nodup):(ks.map rwD).Nodup:=by
 rw [AI,Bo]
 exact (AI.mp h).imp λn e=>n (Na.mp e)
theorem R6 {dk n:Nat}{P:List (List Str)}(hP:∀ r∈P,n≤r.length)(hl:P.length≤1000)(hd:mu[dk]? = some (.dct [] []))(hfl:Flat mu){m0:Sto}{x0 x1 x2 x3 x4 x6 x7 x8 x10 x11 x12 x13:Option D} :
  ∃ y10 m' ks cs,DX none m0 (gNm 10) Iw (P.map rwD) [x0,x1,x2,x3,x4,some (.int n),x6,x7,x8,some (.ref dk),x10,x11,x12,x13] mu=some ((.nx,[x0,x1,x2,x3,x4,some (.int n),x6,x7,x8,some (.ref dk),y10,x11,x12,x13]),m')∧Mv dk n P ks cs m'∧(∀ j,j<dk->m'[j]? = mu[j]?)∧Flat m':=by
 obtain ⟨ro',m',e,⟨y10,rfl⟩,⟨ks,cs,b⟩,a2,a3⟩:=D5 (m0:=m0) (tg:=gNm 10) (body:=Iw) (λi ro m=>(∃ y10,ro=[x0,x1,x2,x3,x4,some (.int n),x6,x7,x8,some (.ref dk),y10,x11,x12,x13])∧(∃ ks cs,Mv dk n (P.take i) ks cs m)∧(∀ j,j<dk->m[j]? = mu[j]?)∧Flat m) (P.map rwD) 0 _ mu ⟨⟨x10,rfl⟩,⟨[],[],hd,rfl,Ak _,.nil,.nil,λc h=>(nomatch h),λr h=>(by simp at h),λj k c h=>(by simp at h)⟩,λ_ _=>rfl,hfl⟩ λj d ro m ed hi=>by
  obtain ⟨⟨y10,rfl⟩,⟨ks,cs,b⟩,a2,fl⟩:=hi
  rw [Ar] at ed
  cases q:P[j]? with
  | none=>rw [q] at ed;cases ed
  | some r =>
   rw [q] at ed
   have ed':rwD r=d:=AB ed
   subst ed'
   rw [AU] at b
   have rm:=hP r (Ag q)
   have jl:j<P.length:=(Ad.mp q).1
   have et:P.take (0+j+1)=P.take j++[r]:=by rw [AU,List.take_add_one,q];rfl
   have dl:dk<m.length:=(Ad.mp b.at').1
   have kl:ks.length≤1000:=by have:=b.kl;rw [AE] at this;ext
   have d1:(m++[MO.lst []])[dk]? = some (.dct (ks.map rwD) (cs.map D.ref)):=by rw [Ai dl];exact b.at'
   have new:(m++[MO.lst []])[m.length]? = some (.lst []):=by simp
   have cr:=LJ (mu:=m) rm
   have ea:(BR (eSl (BS 10) (pNo) (DZ (BS 5))) (BR (DA BW) BW)) [x0,x1,x2,x3,x4,some (.int n),x6,x7,x8,some (.ref dk),some (rwD r),x11,x12,x13] m=some ([rwD (r.take n),.ref m.length],m++[MO.lst []]):=by simp! [cr]
   have sd:=TK (mu:=m) (o:=BS 9) (ro:=[x0,x1,x2,x3,x4,some (.int n),x6,x7,x8,some (.ref dk),some (rwD r),x11,x12,x13]) (d:=dk) rfl b.at' ea d1 ((Hn.row _).K (by decide)) (by rw [Ae,AR];ext)
   have fl1:Flat (m++[MO.lst []]):=F9 fl rfl
   have go:∀ (c:Nat) (m2:Sto) (ds:List D),Mw (BS 9) (BR (eSl (BS 10) (pNo) (DZ (BS 5))) (BR (DA BW) BW)) [x0,x1,x2,x3,x4,some (.int n),x6,x7,x8,some (.ref dk),some (rwD r),x11,x12,x13] m=some (.ref c,m2)->m2[c]? = some (.lst ds)->ds.length<sizeLine->Iw [x0,x1,x2,x3,x4,some (.int n),x6,x7,x8,some (.ref dk),some (rwD r),x11,x12,x13] m=some ((.nx,[x0,x1,x2,x3,x4,some (.int n),x6,x7,x8,some (.ref dk),some (rwD r),x11,x12,x13]),m2.set c (.lst (ds++[rwD r]))):=λc m2 ds h1 h2 h3=>by
    have ap:=Sq (mu:=m) (r:=(BR (BS 10) BW)) h1 h2 (y:=rwD r) rfl h3
    unfold Iw
    rw [RK,ap,B7]
   by_cases hk:r.take n∈ks
   ·obtain ⟨i,ei⟩:=AO.mp hk
    have il:i<cs.length:=by rw [b.len];exact (Ad.mp ei).1
    obtain ⟨c,ec⟩:∃ c,cs[i]? = some c:=⟨cs[i],Am il⟩
    have cm:=b.lt c (Ag ec)
    have g:DL (rwD (r.take n)) (ks.map rwD) (cs.map D.ref)=some (.ref c):=by
     rw [E3 (Lw b.nd) (by rw [Ar,ei];rfl),Ar,ec]
     rfl
    rw [g] at sd
    have rc:=b.row i _ c ei ec
    have rc1:(m++[MO.lst []])[c]? = some (.lst (((P.take j).filter (λr'=>decide (r'.take n=r.take n))).map rwD)):=by rw [Ai cm.2];exact rc
    have fl2:((P.take j).filter (λr'=>decide (r'.take n=r.take n))).length≤1000:=AM (List.length_filter_le _ _) (by rw [AE];ext)
    refine ⟨_,m,_,_,rfl,go c _ _ sd rc1 (by rw [Ae,AR];ext),⟨_,rfl⟩,⟨ks,cs,?_⟩,λi' hi'=>?_,Gi fl1 ?_⟩
    ·rw [et]
     refine ⟨by rw [Aw (by ext)];exact d1,b.len,by rw [An];have:=b.kl;ext,b.nd,b.cd,λc' hc'=>?_,λr' hr'=>?_,λj' k' c' ek ec'=>?_⟩
     ·have:=b.lt c' hc'
      rw [Bb,An]
      exact ⟨this.1,by ext⟩
     ·rcases AA.mp hr' with h|h
      ·exact b.mem r' h
      ·rw [Aq.mp h];exact hk
     ·by_cases z:c'=c
      ·subst z
       have jj:j'=i:=by
        have h1:=(Ad.mp ec').1
        exact (List.getElem?_inj h1 b.cd).mp (by rw [ec',ec])
       subst jj
       cases ei.symm.trans ek
       rw [Dz rc1,List.filter_append,Az]
       simp
      ·have c'm:=b.lt c' (Ag ec')
       have kn:r.take n≠k':=λe=>by
        subst e
        have h1:=(Ad.mp ek).1
        have:j'=i:=(List.getElem?_inj h1 b.nd).mp (by rw [ek,ei])
        subst this
        exact z (AB (ec'.symm.trans ec))
       rw [Aw (Ne.symm z),Ai c'm.2,b.row j' k' c' ek ec',List.filter_append,List.filter_cons_of_neg (by simpa using kn)]
       simp
    ·rw [Aw (by ext),Ai (by ext),a2 i' hi']
    ·show DB _ (_++[rwD r])=true
     have:=FC (m++[MO.lst []]).length ((P.take j).filter (λr'=>decide (r'.take n=r.take n))++[r])
     rw [Az] at this
     exact this
   ·have g:DL (rwD (r.take n)) (ks.map rwD) (cs.map D.ref)=none:=Ea λh=>by
     obtain ⟨k,h1,h2⟩:=Aj.mp h
     rw [Na.mp h2] at h1
     exact hk h1
    rw [g] at sd
    have n2:((m++[MO.lst []]).set dk (.dct (ks.map rwD++[rwD (r.take n)]) (cs.map D.ref++[.ref m.length])))[m.length]? = some (.lst []):=by rw [Aw (by ext)];exact new
    have nf:(P.take j).filter (λr'=>decide (r'.take n=r.take n))=[]:=by
     rw [List.filter_eq_nil_iff]
     intro r' hr' z
     exact hk (by rw [← of_decide_eq_true z];exact b.mem r' hr')
    refine ⟨_,m,_,_,rfl,go m.length _ _ sd n2 (by rw [AR];decide),⟨_,rfl⟩,⟨ks++[r.take n],cs++[m.length],?_⟩,λi' hi'=>?_,Gi (Gi fl1 ?_) (by have:=FC ((m++[MO.lst []]).set dk (.dct (ks.map rwD++[rwD (r.take n)]) (cs.map D.ref++[.ref m.length]))).length [r];exact this)⟩
    ·rw [et]
     refine ⟨?_,by rw [An,An,b.len];rfl,by rw [An,An];exact Nat.add_le_add_right b.kl 1,?_,?_,λc' hc'=>?_,λr' hr'=>?_,λj' k' c' ek ec'=>?_⟩
     ·rw [Aw (by ext),Dz d1,Az,Az]
      rfl
     ·exact List.nodup_append.mpr ⟨b.nd,by simp,λx hx y hy e=>hk (by rw [← Aq.mp hy,← e];exact hx)⟩
     ·exact List.nodup_append.mpr ⟨b.cd,by simp,λx hx y hy e=>by have:=(b.lt x hx).2;rw [Aq.mp hy] at e;ext⟩
     ·rw [Bb,Bb,An,List.length_singleton]
      rcases AA.mp hc' with h|h
      ·have:=b.lt c' h;exact ⟨this.1,by ext⟩
      ·rw [Aq.mp h];exact ⟨dl,by ext⟩
     ·rcases AA.mp hr' with h|h
      ·exact AK _ (b.mem r' h)
      ·rw [Aq.mp h];simp
     ·by_cases z:j'<ks.length
      ·rw [Ai z] at ek
       rw [Ai (by rw [b.len];exact z)] at ec'
       have c'm:=b.lt c' (Ag ec')
       have kn:r.take n≠k':=λe=>hk (by rw [e];exact Ag ek)
       rw [Aw (by ext),Aw (by ext),Ai c'm.2,b.row j' k' c' ek ec',List.filter_append,List.filter_cons_of_neg (by simpa using kn)]
       simp
      ·rw [AX (by ext)] at ek
       rw [AX (by rw [b.len];ext),b.len] at ec'
       have z0:j'-ks.length=0:=by
        have:=(Ad.mp ek).1
        simp at this
        ext
       rw [z0] at ek ec'
       cases ek
       cases ec'
       rw [Dz n2,List.filter_append,nf]
       simp
    ·rw [Aw (by ext),Aw (by ext),Ai (by ext),a2 i' hi']
    ·simp only [Hj,Ab]
     refine ⟨?_,?_⟩
     ·have:=FC (m++[MO.lst []]).length (ks++[r.take n])
      rw [Az] at this
      exact this
     ·have:=Jx (n:=(m++[MO.lst []]).length) (cs:=cs++[m.length]) (λc hc=>by
       rw [An,List.length_singleton]
       rcases AA.mp hc with h|h
       ·have:=(b.lt c h).2;ext
       ·rw [Aq.mp h];ext)
      rw [Az] at this
      exact this
 rw [Ae,AU,List.take_length] at b
 exact ⟨y10,m',ks,cs,e,b,a2,a3⟩
end PG
namespace PV
open PySem L2 PyProof.Rows K1
variable {mu:Sto}
theorem My {α β:Type}{f:α->β}{l:List α}(h:(l.map f).Nodup):l.Nodup:=by
 rw [AI] at h ⊢
 exact (Bo.mp h).imp λh e=>h (congrArg f e)
theorem Se {n:Nat}{d:D}(h:Hn n d)(l:n≤60):(toPy d).depth≤60:=by rw [Gz h.1];exact AM h.2 l
theorem LK {a b:D}{ds es:List D}(ha:PV.seen mu a=.lst ds)(hb:PV.seen mu b=.lst es)(hd:Hn 6 (.tup ds))(he:Hn 6 (.tup es)):neD a b mu=some (.bl (!decide (ds=es)),mu):=by
 have:=Pu (mu:=mu) hd he
 have e:eqB mu a b=eqB mu (.lst ds) (.lst es):=by
  have s1:PV.seen mu (.lst ds)=.lst ds:=rfl
  have s2:PV.seen mu (.lst es)=.lst es:=rfl
  unfold eqB
  rw [ha,hb,s1,s2]
 unfold eqD at this
 unfold neD
 rw [e]
 cases q:eqB mu (.lst ds) (.lst es) with
 | none=>rw [q] at this;cases this
 | some b=>rw [q] at this;cases this;rfl
theorem Kb {k:Nat}{ds:List D}(h:mu[k]? = some (.lst ds)):PV.seen mu (.ref k)=.lst ds:=by simp only [PV.seen,h]
theorem Q9 {d:Nat}{ks ds xs:List D}{v:D}(h:mu[d]? = some (.dct ks ds))(hk:Fj (.tup xs)=true)(g:DL (.tup xs) ks ds=some v):ixG (.ref d) (.tup xs) mu=some (v,mu):=by
 have e:ixD (.ref d) (.tup xs) mu=none:=rfl
 unfold ixG
 rw [e]
 simp only [ixC,DY,h,hk,g,if_true,Option.map_some]
end PV
namespace PG
open PySem L2 PV PyProof.Rows K1
variable {mu:Sto}
theorem Hn.rows (rs:List (List Str)):Hn 6 (.tup (rs.map rwD)):=(Hn.tup λd hd=>by obtain ⟨r,_,rfl⟩:=Aj.mp hd;exact Hn.row r:Hn 3 _).up (by decide)
theorem UW {ts:List Tb}(h:MK (.tup (ts.map tbD))=true):∀ t∈ts,∀ p∈t.cs,p.2.Nodup:=by
 intro t ht p hp
 have h':((EU 1 4 (.tup (ts.map tbD))&&(ts.map tbD).all GF)&&GY ((ts.map tbD).map Gf))=true:=h
 rw [Ab,Ab,Ay] at h'
 have:=h'.1.2 (tbD t) (Aj.mpr ⟨t,ht,rfl⟩)
 unfold GF tbD at this
 dsimp only at this
 rw [Ab,Ab] at this
 have h2:((EU 1 4 (.tup (t.cs.map clD))&&(t.cs.map clD).all GA)&&ndB ((t.cs.map clD).map Gf))=true:=this.1.2
 rw [Ab,Ab,Ay] at h2
 have h3:=h2.1.2 (clD p) (Aj.mpr ⟨p,hp,rfl⟩)
 unfold GA clD at h3
 dsimp only at h3
 rw [Ab] at h3
 have h4:=h3.2
 unfold E7 at h4
 rw [Ab,Ab] at h4
 have h5:ndB (p.2.map D.str)=true:=h4.2.2
 unfold ndB at h5
 exact Es.mp (of_decide_eq_true h5)
theorem LI {r:List Str}(hw:∀ x∈r,IsW x):rok (rwD r):=by
 unfold rwD rok
 rw [JF]
 intro d hd
 obtain ⟨x,hx,rfl⟩:=Aj.mp hd
 exact hw x hx
theorem Lu {r:List Str}(hl:r.length≤4):rsz (rwD r)≤60:=by
 have:=IZ (n:=10) (ds:=r.map D.str) λd hd=>by
  obtain ⟨x,hx,rfl⟩:=Aj.mp hd
  exact Ak _
 rw [Ae] at this
 unfold rwD rsz
 ext
theorem NM {r:List Str}(hw:∀ x∈r,IsW x)(hl:r.length≤4):DN [rwD r] mu=some (.str (toPy (rwD r)).shown,mu):=Lq (LI hw) (Ly r) (by have:=Lu hl;ext)
theorem MZ {rs:List (List Str)}(hw:∀ r∈rs,∀ x∈r,IsW x)(hl:∀ r∈rs,r.length≤4)(l:rs.length≤1000):DN [.tup (rs.map rwD)] mu=some (.str (toPy (.tup (rs.map rwD))).shown,mu):=by
 refine Lq ?_ (Se (Hn.rows rs) (by decide)) ?_
 ·unfold rok
  rw [JF]
  intro d hd
  obtain ⟨r,hr,rfl⟩:=Aj.mp hd
  exact LI (hw r hr)
 ·have:=IZ (n:=60) (ds:=rs.map rwD) λd hd=>by
   obtain ⟨r,hr,rfl⟩:=Aj.mp hd
   exact Lu (hl r hr)
  rw [Ae] at this
  unfold rsz
  ext
structure TbW (t:Tb):Prop where
 ok:MP t
 w:∀ p∈t.cs,∀ x∈p.2,IsW x
 n:∀ p∈t.cs,p.2.Nodup
theorem Fq (t:Tb):(vsT t).length=t.cs.length:=Ae _
theorem TbW.v4 {t:Tb}(h:TbW t):∀ v∈vsT t,v.length≤4:=λv hv=>by
 obtain ⟨p,hp,rfl⟩:=Aj.mp hv
 exact (h.ok.vs p hp).2
theorem TbW.vn {t:Tb}(h:TbW t):∀ v∈vsT t,v.Nodup:=λv hv=>by
 obtain ⟨p,hp,rfl⟩:=Aj.mp hv
 exact h.n p hp
theorem TbW.sw {t:Tb}(h:TbW t):∀ ss∈(vsT t).map sS,∀ x∈ss,IsW x:=λss hs x hx=>by
 obtain ⟨v,hv,rfl⟩:=Aj.mp hs
 obtain ⟨p,hp,rfl⟩:=Aj.mp hv
 exact h.w p hp x ((IT _).mem_iff.mp hx)
theorem TbW.s4 {t:Tb}(h:TbW t):∀ ss∈(vsT t).map sS,ss.length≤4:=λss hs=>by
 obtain ⟨v,hv,rfl⟩:=Aj.mp hs
 rw [Jl]
 exact h.v4 v hv
theorem Jf {t:Tb}(h:TbW t){k:List Str}(hk:k∈CN t):k.length=t.ks:=by
 have:=Et _ k hk
 rw [AE,Ae,Fq] at this
 have:=h.ok.k4
 ext
theorem QQ {t:Tb}(h:TbW t){k:List Str}(hk:k∈CN t):∀ x∈k,IsW x:=Qa _ (λss hs=>h.sw ss (A8 hs)) k hk
theorem HX {t:Tb}(h:TbW t):(CN t).length≤256:=by
 have:=EK ((vsT t).map sS |>.take t.ks) λss hs=>h.s4 ss (A8 hs)
 have pw:4 ^ ((vsT t).map sS |>.take t.ks).length≤4 ^ 4:=BF (by decide) (by rw [AE,Ae,Fq];have:=h.ok.c4;ext)
 unfold CN
 ext
theorem J4 {t:Tb}(h:TbW t):(EJ t).length≤256:=by
 have:=EK ((vsT t).map sS) h.s4
 have pw:4 ^ ((vsT t).map sS).length≤4 ^ 4:=BF (by decide) (by rw [Ae,Fq];have:=h.ok.c4;ext)
 unfold EJ
 ext
theorem O0 {t:Tb}(h:TbW t):(CN t).Nodup:=by
 have:=RZ (vs:=(vsT t).take t.ks) λv hv=>h.vn v (A8 hv)
 rw [List.map_take] at this
 exact My this
theorem LY {t:Tb}(h:TbW t):Ct t≠[]:=by
 have key:∀ cs:List (List Str),(∀ s∈cs,s≠[])->prd cs≠[]:=λcs hc=>by
  have hc':∀ s∈cs,0<s.length:=λs hs=>List.length_pos_iff.mpr (hc s hs)
  have:0<(prd cs).length:=by
   revert hc'
   refine FL (P:=λcs=>(∀ s∈cs,0<s.length)->0<(prd cs).length) (λ_=>by simp [prd]) (λa s ih hc=>?_) cs
   rw [D2,Hg]
   exact Nat.mul_pos (ih λs hs=>hc s (AK _ hs)) (hc s (by simp))
  exact List.length_pos_iff.mp this
 refine key _ λs hs=>?_
 obtain ⟨v,hv,rfl⟩:=Aj.mp (List.mem_of_mem_drop hs)
 obtain ⟨p,hp,rfl⟩:=Aj.mp hv
 intro e
 have:=(h.ok.vs p hp).1
 have l:=Jl p.2
 rw [e] at l
 exact this (BI.mp l.symm)
theorem Pp {t:Tb}(h:TbW t){k:List Str}(hk:k∈CN t):(EJ t).filter (λr=>decide (r.take t.ks=k))=(Ct t).map (k++·):=by
 rw [Li]
 have key:∀ K:List (List Str),(∀ q∈K,q.length=t.ks)->K.Nodup->((K.flatMap λq=>(Ct t).map (q++·)).filter λr=>decide (r.take t.ks=k))=if k∈K then (Ct t).map (k++·) else []:=by
  intro K
  induction K with
  | nil=>intro _ _;simp
  | cons q K ih =>
   intro hl nd
   rw [Bt] at nd
   have ih:=ih (λq hq=>hl q (.tail _ hq)) nd.2
   have ql:=hl q (.head _)
   rw [List.flatMap_cons,List.filter_append,ih]
   have tk:∀ r:List Str,(q++r).take t.ks=q:=λr=>by rw [← ql];exact List.take_left
   by_cases c:q=k
   ·subst c
    rw [if_neg nd.1,BA,if_pos (by simp)]
    rw [List.filter_eq_self.mpr]
    intro r hr
    obtain ⟨s,_,rfl⟩:=Aj.mp hr
    simpa using tk s
   ·have f0:((Ct t).map (q++·)).filter (λr=>decide (r.take t.ks=k))=[]:=by
     rw [List.filter_eq_nil_iff]
     intro r hr z
     obtain ⟨s,_,rfl⟩:=Aj.mp hr
     have:=of_decide_eq_true z
     rw [tk] at this
     exact c this
    rw [f0,List.nil_append]
    by_cases m:k∈K
    ·rw [if_pos m,if_pos (.tail _ m)]
    ·rw [if_neg m,if_neg (λz=>(AH.mp z).elim (λe=>c e.symm) m)]
 rw [key _ (λq hq=>Jf h hq) (O0 h),if_pos hk]
def Il:Sx:=(Cc (Cu (BX Dt (BR (BS 8) (BR (BS 3) (BR (BS 12) BW)))) (gNm 13)) (Cc (sIf (tO (tNt (tV (Qk "tuple" (BS 13)))) (tV (B0 neD (BX IU (BR (BS 13) BW)) (B0 ixG (BS 9) (BS 12))))) (sRt (eC (.bl false))) (sNx)) (Cc (sIf (tNt (tV (BX Mm (BR (eLC (CS (BS 13)) 1 [8,3,12] (gNm 0) (tY) (B0 eqD (BX DN (BR (BX Em (BR (BS 1) (BR (BS 2) (BR (BS 0) BW)))) BW)) (BX DN (BR (BS 3) BW)))) BW)))) (sRt (eC (.bl false))) (sNx)) (sEx (Jg (BS 11) (BR (BX IU (BR (BS 13) BW)) BW))))))
def JS:Sx:=(Cc (Cu (eLC (CS (BS 4)) 2 [] (gTp 2 (Cg (gNm 0) (Cg (gNm 1) Ec))) (tY) (BS 1)) (gNm 6)) (Cc (Cu (BX Dr (BR (BS 6) BW)) (gNm 7)) (Cc (Cu (Dc (BR (Dc (BR (BS 3) (BR (BS 4) (BR (BS 5) BW)))) BW)) (gNm 8)) (Cc (Cu Lh (gNm 9)) (Cc (FT (CS (BS 7)) (gNm 10) Iw) (Cc (sIf (tV (B0 neD (BX DN (BR (BX CQ (BR (BS 8) (BR (BS 3) BW))) BW)) (BX DN (BR (BX Fo (BR (BX Dr (BR (eSl (BS 6) (pNo) (DZ (BS 5))) BW)) BW)) BW)))) (sRt (eC (.bl false))) (sNx)) (Cc (Cu (DA BW) (gNm 11)) (Cc (FT (CS (BX CQ (BR (BS 8) (BR (BS 3) BW)))) (gNm 12) Il) (sIf (tV (B0 neD (BS 11) (BS 7))) (sRt (eC (.bl false))) (sNx))))))))))
def LQ:Sx:=(Cc (Cu (BX Dl (BR (BS 0) (BR (BS 1) BW))) (gNm 2)) (FT (CS (BX CL (BR (BS 2) (BR (eC (.int 4)) (BR (eC (.int 4)) (BR (eC (.int 4)) BW)))))) (gTp 3 (Cg (gNm 3) (Cg (gNm 4) (Cg (gNm 5) Ec)))) JS))
theorem Sl {t:Tb}(h:TbW t){dk T:Nat}{ks:List (List Str)}{cs:List Nat}{k:List Str}{gs:List (List Str)}(hk:k∈CN t)(b:Mv dk t.ks (EJ t) ks cs mu)(hT:mu[T]? = some (.lst (gs.map rwD)))(hg:gs.length≤1000000){x0 x1 x2 x4 x5 x6 x7 x10 x13:Option D} :
  Il [x0,x1,x2,some (.str t.nm),x4,x5,x6,x7,some (.tup [tbD t]),some (.ref dk),x10,some (.ref T),some (rwD k),x13] mu=some ((.nx,[x0,x1,x2,some (.str t.nm),x4,x5,x6,x7,some (.tup [tbD t]),some (.ref dk),x10,some (.ref T),some (rwD k),some (.tup (((Ct t).map (k++·)).map rwD))]),mu.set T (.lst ((gs++(Ct t).map (k++·)).map rwD))):=by
 have rw1:=HF (mu:=mu) h.ok hk
 have kl:=Jf h hk
 have k4:k.length≤4:=by have:=h.ok.c4;have:=h.ok.k4;ext
 obtain ⟨r0,hr0⟩:=List.exists_mem_of_ne_nil _ (LY h)
 have km:k∈ks:=by
  have:=b.mem (k++r0) (by rw [Li];exact List.mem_flatMap.mpr ⟨k,hk,Aj.mpr ⟨r0,hr0,rfl⟩⟩)
  rw [← kl,List.take_left] at this
  exact this
 obtain ⟨i,ei⟩:=AO.mp km
 have il:i<cs.length:=by rw [b.len];exact (Ad.mp ei).1
 obtain ⟨c,ec⟩:∃ c,cs[i]? = some c:=⟨cs[i],Am il⟩
 have g:DL (rwD k) (ks.map rwD) (cs.map D.ref)=some (.ref c):=by
  rw [E3 (Lw b.nd) (by rw [Ar,ei];rfl),Ar,ec]
  rfl
 have ix:ixG (.ref dk) (rwD k) mu=some (.ref c,mu):=Q9 b.at' ((Hn.row k).K (by decide)) g
 have rc:=b.row i k c ei ec
 rw [Pp h hk] at rc
 have ne:neD (.lst (((Ct t).map (k++·)).map rwD)) (.ref c) mu=some (.bl false,mu):=by
  rw [LK (ds:=((Ct t).map (k++·)).map rwD) (es:=((Ct t).map (k++·)).map rwD) rfl (Kb rc) (Hn.rows _) (Hn.rows _)]
  simp
 have rp:=NM (mu:=mu) (QQ h hk) k4
 have lc:=Tg (m0:=mu) (tg:=gNm 0) (el:=(B0 eqD (BX DN (BR (BX Em (BR (BS 1) (BR (BS 2) (BR (BS 0) BW)))) BW)) (BX DN (BR (BS 3) BW)))) (ro:=[none,some (.tup [tbD t]),some (.str t.nm),some (rwD k)]) (mu:=mu) (λ_=>true) (((Ct t).map (k++·)).map rwD) (λd hd=>by
  obtain ⟨r,hr,rfl⟩:=Aj.mp hd
  obtain ⟨s,hs,rfl⟩:=Aj.mp hr
  refine ⟨_,rfl,?_⟩
  have ko:=KA (mu:=mu) (t:=t) (r:=k++s) (by rw [An];ext)
  rw [show (k++s).take t.ks=k by rw [← kl];exact List.take_left] at ko
  have eqs:=QM (mu:=mu) (i:=(toPy (rwD k)).shown) (j:=(toPy (rwD k)).shown)
  rw [Br rfl] at eqs
  simp! [ko,rp,eqs])
 have al:(((Ct t).map (k++·)).map rwD).all (λ_=>true)=true:=by simp
 have rl:(Ct t).length≤1000:=by
  have:=EK ((vsT t).map sS |>.drop t.ks) λss hs=>h.s4 ss (List.mem_of_mem_drop hs)
  have pw:4 ^ ((vsT t).map sS |>.drop t.ks).length≤4 ^ 4:=BF (by decide) (by rw [BD,Ae,Fq];have:=h.ok.c4;ext)
  unfold Ct
  ext
 have ex:=QE (mu:=mu) (a:=BS 11) (r:=(BR (BX IU (BR (BS 13) BW)) BW)) (ro:=[x0,x1,x2,some (.str t.nm),x4,x5,x6,x7,some (.tup [tbD t]),some (.ref dk),x10,some (.ref T),some (rwD k),some (.tup (((Ct t).map (k++·)).map rwD))]) (k:=T) (m:=mu) (m1:=mu) (y:=.lst (((Ct t).map (k++·)).map rwD)) rfl hT rfl hT (ys:=((Ct t).map (k++·)).map rwD) rfl (by rw [AR,Ae,Ae,Ae];ext)
 rw [← Az] at ex
 unfold Il
 generalize hE:Jg (BS 11) (BR (BX IU (BR (BS 13) BW)) BW)=E at ex
 have tt:("tuple"=="tuple")=true:=rfl
 simp! [rw1,tt,ix,ne,lc,al,ex]
theorem S2 {t:Tb}(h:TbW t){dk T:Nat}{ks:List (List Str)}{cs:List Nat}(b:Mv dk t.ks (EJ t) ks cs mu)(hT:mu[T]? = some (.lst []))(hd:dk≠T)(hc:∀ c∈cs,c≠T)(hfl:Flat mu){m0:Sto}{x0 x1 x2 x4 x5 x6 x7 x10 x12 x13:Option D} :
  ∃ y12 y13 m',DX none m0 (gNm 12) Il ((CN t).map rwD) [x0,x1,x2,some (.str t.nm),x4,x5,x6,x7,some (.tup [tbD t]),some (.ref dk),x10,some (.ref T),x12,x13] mu=some ((.nx,[x0,x1,x2,some (.str t.nm),x4,x5,x6,x7,some (.tup [tbD t]),some (.ref dk),x10,some (.ref T),y12,y13]),m')∧m'[T]? = some (.lst ((EJ t).map rwD))∧Flat m':=by
 have ksz:=HX h
 obtain ⟨ro',m',e,⟨y12,y13,rfl⟩,a1,a2,a3,a4⟩:=D5 (m0:=m0) (tg:=gNm 12) (body:=Il) (λi ro m=>(∃ y12 y13,ro=[x0,x1,x2,some (.str t.nm),x4,x5,x6,x7,some (.tup [tbD t]),some (.ref dk),x10,some (.ref T),y12,y13])∧m[T]? = some (.lst ((((CN t).take i).flatMap λk=>(Ct t).map (k++·)).map rwD))∧(∀ j,j≠T->m[j]? = mu[j]?)∧m.length=mu.length∧Flat m) ((CN t).map rwD) 0 _ mu ⟨⟨x12,x13,rfl⟩,hT,λ_ _=>rfl,rfl,hfl⟩ λj d ro m ed hi=>by
  obtain ⟨⟨y12,y13,rfl⟩,a1,a2,a3,a4⟩:=hi
  rw [Ar] at ed
  cases q:(CN t)[j]? with
  | none=>rw [q] at ed;cases ed
  | some k =>
   rw [q] at ed
   have ed':rwD k=d:=AB ed
   subst ed'
   rw [AU] at a1
   have b':Mv dk t.ks (EJ t) ks cs m:=⟨by rw [a2 dk hd];exact b.at',b.len,b.kl,b.nd,b.cd,λc hc'=>by rw [a3];exact b.lt c hc',b.mem,λj k c ek ec=>by rw [a2 c (hc c (Ag ec))];exact b.row j k c ek ec⟩
   have gl:(((CN t).take j).flatMap λk=>(Ct t).map (k++·)).length≤(EJ t).length:=by
    rw [Li]
    conv=>rhs;rw [← Bp j (CN t)]
    rw [List.flatMap_append,An]
    ext
   have az:=J4 h
   have st:=Sl (mu:=m) h (Ag q) b' a1 (by ext) (x0:=x0) (x1:=x1) (x2:=x2) (x4:=x4) (x5:=x5) (x6:=x6) (x7:=x7) (x10:=x10) (x13:=y13)
   have et:((CN t).take (0+j+1)).flatMap (λk=>(Ct t).map (k++·))=((CN t).take j).flatMap (λk=>(Ct t).map (k++·))++(Ct t).map (k++·):=by
    rw [AU,List.take_add_one,q,List.flatMap_append]
    simp
   refine ⟨_,m,_,_,rfl,st,⟨_,_,rfl⟩,by rw [Dz a1,et],λi hi=>by rw [Aw (Ne.symm hi)];exact a2 i hi,by rw [Bb,a3],Gi a4 ?_⟩
   show DB _ _=true
   exact FC _ _
 rw [Ae,AU,List.take_length,← Li] at a1
 exact ⟨y12,y13,m',e,a1,a4⟩
theorem RC {t:Tb}(h:TbW t)(hfl:Flat mu){x0 x1 x2 x6 x7 x8 x9 x10 x11 x12 x13:Option D} :
  ∃ y6 y7 y8 y9 y10 y11 y12 y13 m',JS [x0,x1,x2,some (.str t.nm),some (.tup (t.cs.map clD)),some (.int t.ks),x6,x7,x8,x9,x10,x11,x12,x13] mu=some ((.nx,[x0,x1,x2,some (.str t.nm),some (.tup (t.cs.map clD)),some (.int t.ks),y6,y7,y8,y9,y10,y11,y12,y13]),m')∧Flat m':=by
 have lc:=F1 (m0:=mu) (tg:=(gTp 2 (Cg (gNm 0) (Cg (gNm 1) Ec)))) (el:=BS 1) (ro:=[none,none]) (mu:=mu) (λd=>match d with|.tup [_,v]=>v|_=>.non) (t.cs.map clD) (λd hd=>by
  obtain ⟨p,hp,rfl⟩:=Aj.mp hd
  exact ⟨[some (.str p.1),some (.tup (p.2.map D.str))],rfl,rfl⟩)
 have em:(t.cs.map clD).map (λd=>match d with|.tup [_,v]=>v|_=>.non)=(vsT t).map tpD:=by
  unfold vsT
  rw [AV,AV]
  rfl
 rw [em] at lc
 have v0:vsT t≠[]:=λe=>by
  have:=Fq t
  rw [e] at this
  have:=h.ok.c1
  simp at *
  ext
 have v4:(vsT t).length≤4:=by rw [Fq];exact h.ok.c4
 have a1:=Lg (mu:=mu) v0 v4 h.v4 h.vn hfl
 have ea:prd ((vsT t).map sS)=EJ t:=rfl
 rw [ea] at a1
 have az:=J4 h
 have fl1:Flat (mu++[MO.dct [] []]):=F9 hfl rfl
 have hd:(mu++[MO.dct [] []])[mu.length]? = some (.dct [] []):=by simp
 have rl:∀ r∈EJ t,t.ks≤r.length:=λr hr=>by
  have:=Et _ r hr
  rw [Ae,Fq] at this
  have:=h.ok.k4
  ext
 obtain ⟨y10,m2,ks,cs,e2,b,b2,fl2⟩:=R6 (mu:=mu++[MO.dct [] []]) (dk:=mu.length) (n:=t.ks) (P:=EJ t) rl (by ext) hd fl1 (m0:=mu++[MO.dct [] []]) (x0:=x0) (x1:=x1) (x2:=x2) (x3:=some (.str t.nm)) (x4:=some (.tup (t.cs.map clD))) (x6:=some (.lst ((vsT t).map tpD))) (x7:=some (.lst ((EJ t).map rwD))) (x8:=some (.tup [tbD t])) (x10:=x10) (x11:=x11) (x12:=x12) (x13:=x13)
 have ct:=Ks (xs:=(vsT t).map tpD) (j:=t.ks) (by rw [Ae,Fq];exact h.ok.k4)
 rw [← List.map_take] at ct
 have t0:(vsT t).take t.ks≠[]:=λe=>by
  have:((vsT t).take t.ks).length=0:=by rw [e];rfl
  rw [AE] at this
  have:=h.ok.k1
  have:=List.length_pos_iff.mpr v0
  ext
 have a2:=Lg (mu:=m2) t0 (by rw [AE];ext) (λv hv=>h.v4 v (A8 hv)) (λv hv=>h.vn v (A8 hv)) fl2
 have ek:prd (((vsT t).take t.ks).map sS)=CN t:=by unfold CN;rw [List.map_take]
 rw [ek] at a2
 have kr:=HB (mu:=m2) h.ok
 have rp:=MZ (mu:=m2) (rs:=CN t) (λk hk=>QQ h hk) (λk hk=>by rw [Jf h hk];have:=h.ok.c4;have:=h.ok.k4;ext) (by have:=HX h;ext)
 have ns:=Rc (mu:=m2) (s:=(toPy (.tup ((CN t).map rwD))).shown)
 have fl3:Flat (m2++[MO.lst []]):=F9 fl2 rfl
 have hT:(m2++[MO.lst []])[m2.length]? = some (.lst []):=by simp
 have dl:mu.length<m2.length:=(Ad.mp b.at').1
 have b3:Mv mu.length t.ks (EJ t) ks cs (m2++[MO.lst []]):=⟨by rw [Ai dl];exact b.at',b.len,b.kl,b.nd,b.cd,λc hc=>by have:=b.lt c hc;rw [An];exact ⟨this.1,by ext⟩,b.mem,λj k c ek ec=>by rw [Ai (b.lt c (Ag ec)).2];exact b.row j k c ek ec⟩
 obtain ⟨y12,y13,m4,e4,c1,fl4⟩:=S2 (mu:=m2++[MO.lst []]) h b3 hT (by ext) (λc hc=>by have:=(b.lt c hc).2;ext) fl3 (m0:=m2++[MO.lst []]) (x0:=x0) (x1:=x1) (x2:=x2) (x4:=some (.tup (t.cs.map clD))) (x5:=some (.int t.ks)) (x6:=some (.lst ((vsT t).map tpD))) (x7:=some (.lst ((EJ t).map rwD))) (x10:=y10) (x12:=x12) (x13:=x13)
 have kr3:=HB (mu:=m2++[MO.lst []]) h.ok
 have ne:neD (.ref m2.length) (.lst ((EJ t).map rwD)) m4=some (.bl false,m4):=by
  rw [LK (ds:=(EJ t).map rwD) (es:=(EJ t).map rwD) (Kb c1) rfl (Hn.rows _) (Hn.rows _)]
  simp
 have tbe:D.tup [.str t.nm,.tup (t.cs.map clD),.int t.ks]=tbD t:=rfl
 refine ⟨some (.lst ((vsT t).map tpD)),some (.lst ((EJ t).map rwD)),some (.tup [tbD t]),some (.ref mu.length),y10,some (.ref m2.length),y12,y13,m4,?_,fl4⟩
 unfold JS
 simp! [lc,a1,tbe,e2,kr,ct,a2,rp,ns,kr3,e4,ne]
theorem QZ {i:Nat}{ns:List Int}{x2 x3 x4 x5 x6 x7 x8 x9 x10 x11 x12 x13:Option D}(hi:i<64)(hfl:Flat mu) :
  ∃ y2 y3 y4 y5 y6 y7 y8 y9 y10 y11 y12 y13 m',LQ [some (.lst (ns.map D.int)),some (.int i),x2,x3,x4,x5,x6,x7,x8,x9,x10,x11,x12,x13] mu=some ((.nx,[some (.lst (ns.map D.int)),some (.int i),y2,y3,y4,y5,y6,y7,y8,y9,y10,y11,y12,y13]),m')∧Flat m':=by
 obtain ⟨o,e1,h1⟩:=M8 (mu:=mu) (k:=i) (n:=2000) (ns:=ns) hi (by decide)
 have fl1:Flat (mu++[o]):=F9 hfl (by
  obtain ⟨_,_,_,h,_⟩:=h1
  rw [AX (Ak _),Nat.sub_self] at h
  cases h
  rfl)
 obtain ⟨_,m2,e2,f2,ds,rfl,sb,ok⟩:=K0 (n:=1900) (a:=4) (b:=4) (c:=4) (by decide) (by decide) (by decide) (by decide) (by decide) (by decide) fl1 (h1.mono (by decide))
 obtain ⟨ts,et,hS⟩:=P5 sb
 have ed:ds=ts.map tbD:=by injection et
 subst ed
 have hv:=Tj sb
 have hn:=UW sb
 have e2':CL [.ref mu.length,.int 4,.int 4,.int 4] (mu++[o])=some (.tup (ts.map tbD),m2):=e2
 have fl2:=f2.flat fl1
 obtain ⟨ro',m3,e3,⟨y3,y4,y5,y6,y7,y8,y9,y10,y11,y12,y13,rfl⟩,fl3⟩:=D5 (m0:=m2) (tg:=(gTp 3 (Cg (gNm 3) (Cg (gNm 4) (Cg (gNm 5) Ec))))) (body:=JS) (λ_ ro m=>(∃ y3 y4 y5 y6 y7 y8 y9 y10 y11 y12 y13,ro=[some (.lst (ns.map D.int)),some (.int i),some (.ref mu.length),y3,y4,y5,y6,y7,y8,y9,y10,y11,y12,y13])∧Flat m) (ts.map tbD) 0 [some (.lst (ns.map D.int)),some (.int i),some (.ref mu.length),x3,x4,x5,x6,x7,x8,x9,x10,x11,x12,x13] m2 ⟨⟨_,_,_,_,_,_,_,_,_,_,_,rfl⟩,fl2⟩ λj d ro m ed hi=>by
  obtain ⟨⟨y3,y4,y5,y6,y7,y8,y9,y10,y11,y12,y13,rfl⟩,fl⟩:=hi
  rw [Ar] at ed
  cases q:ts[j]? with
  | none=>rw [q] at ed;cases ed
  | some t =>
   rw [q] at ed
   have ed':tbD t=d:=AB ed
   subst ed'
   have tm:=Ag q
   obtain ⟨z6,z7,z8,z9,z10,z11,z12,z13,m',e,fl'⟩:=RC (mu:=m) (t:=t) ⟨hS.ok t tm,hv t tm,hn t tm⟩ fl (x0:=some (.lst (ns.map D.int))) (x1:=some (.int i)) (x2:=some (.ref mu.length)) (x6:=y6) (x7:=y7) (x8:=y8) (x9:=y9) (x10:=y10) (x11:=y11) (x12:=y12) (x13:=y13)
   exact ⟨_,m,_,m',rfl,e,⟨_,_,_,_,_,_,_,_,_,_,_,rfl⟩,fl'⟩
 refine ⟨some (.ref mu.length),y3,y4,y5,y6,y7,y8,y9,y10,y11,y12,y13,m3,?_,fl3⟩
 unfold LQ
 simp! [e1,e2',e3]
theorem Pt (ns:List Int):∃ mu',HN [.lst (ns.map .int)] []=some (.bl true,mu'):=by
 obtain ⟨N,hN,h2,h5⟩:∃ N:Nat,(if (if (ns.length:Int)<5 then (ns.length:Int) else 5) > 2 then (if (ns.length:Int)<5 then (ns.length:Int) else 5) else 2)=(N:Int)∧2≤N∧N≤5:=by
  refine ⟨(if (if (ns.length:Int)<5 then (ns.length:Int) else 5) > 2 then (if (ns.length:Int)<5 then (ns.length:Int) else 5) else 2).toNat,?_,?_,?_⟩<;>split<;>split<;>ext
 obtain ⟨ro',mu',e,⟨y1,y2,y3,y4,y5,y6,y7,y8,y9,y10,y11,y12,y13,rfl⟩,_⟩:=D5 (m0:=[]) (tg:=gNm 1) (body:=LQ) (λi ro m=>(∃ y1 y2 y3 y4 y5 y6 y7 y8 y9 y10 y11 y12 y13,ro=[some (.lst (ns.map D.int)),y1,y2,y3,y4,y5,y6,y7,y8,y9,y10,y11,y12,y13])∧Flat m) (Eh 0 N) 0 [some (.lst (ns.map D.int)),none,none,none,none,none,none,none,none,none,none,none,none,none] [] ⟨⟨_,_,_,_,_,_,_,_,_,_,_,_,_,rfl⟩,λj o h=>by simp at h⟩ λj d ro m ed ⟨⟨y1,y2,y3,y4,y5,y6,y7,y8,y9,y10,y11,y12,y13,er⟩,fl⟩=>by
   subst er
   obtain ⟨rfl,hj⟩:=OM ed
   obtain ⟨z2,z3,z4,z5,z6,z7,z8,z9,z10,z11,z12,z13,m',e,fl'⟩:=QZ (mu:=m) (i:=j) (ns:=ns) (x2:=y2) (x3:=y3) (x4:=y4) (x5:=y5) (x6:=y6) (x7:=y7) (x8:=y8) (x9:=y9) (x10:=y10) (x11:=y11) (x12:=y12) (x13:=y13) (by ext) fl
   exact ⟨_,m,_,m',rfl,e,⟨_,_,_,_,_,_,_,_,_,_,_,_,_,rfl⟩,fl'⟩
 refine ⟨mu',?_⟩
 have mn:JG [.int 5,.int (ns.length:Int)] []=some (.int (if (ns.length:Int)<5 then (ns.length:Int) else 5),[]):=rfl
 have mx:NI [.int 2,.int (if (ns.length:Int)<5 then (ns.length:Int) else 5)] []=some (.int N,[]):=by
  rw [← hN]
  rfl
 have rg:=PR (mu:=[]) (ro:=[some (.lst (ns.map D.int)),none,none,none,none,none,none,none,none,none,none,none,none,none]) (r:=(BR (BX NI (BR (eC (.int 2)) (BR (BX JG (BR (eC (.int 5)) (BR (BX FR (BR (BS 0) BW)) BW))) BW))) BW)) (n:=N) (m:=[]) (by simp! [Ae,mn,mx]) (by ext) (by rw [AR];ext)
 rw [Int.toNat_natCast] at rg
 unfold LQ JS Il Iw at e
 simp! [HN,Ow,rg,e]
end PG
namespace PG
open PySem L2 PV PyProof.Rows
@[elab_as_elim] theorem RF {P:List Value->Prop}(us:List Value)(hl:us.length=1)(h:∀ a0,P [a0]):P us:=by
 match us,hl with
 | [_],_=>exact h _
@[elab_as_elim] theorem L7 {P:List Value->Prop}(us:List Value)(hl:us.length=2)(h:∀ a0 a1,P [a0,a1]):P us:=by
 match us,hl with
 | [_,_],_=>exact h _ _
@[elab_as_elim] theorem Sv {P:List Value->Prop}(us:List Value)(hl:us.length=3)(h:∀ a0 a1 a2,P [a0,a1,a2]):P us:=by
 match us,hl with
 | [_,_,_],_=>exact h _ _ _
@[elab_as_elim] theorem Vs {P:List Value->Prop}(us:List Value)(hl:us.length=4)(h:∀ a0 a1 a2 a3,P [a0,a1,a2,a3]):P us:=by
 match us,hl with
 | [_,_,_,_],_=>exact h _ _ _ _
def FH (K:PySem.W.Frag)(x:Str)(st:Stmt):Prop:=∃ (f:Addr) (oc kV dc pm cd ct:Value) (od an:Option Addr) (sl:Array (Option Value)),PySem.W.nsIn K mainGlobals x=some (some (.ref f))∧K.lookup f=some ⟨oc,od,.func (PySem.W.fnOf x x (E8 st) (Dj st) (BY st) .none kV dc pm an cd ct),sl⟩∧PySem.W.codeIn K cd x=true∧PySem.W.keepIn K (.ref f)=true
theorem fh {K:PySem.W.Frag}{x:Str}{st:Stmt}{f:Addr}{oc kV dc pm cd ct:Value}{od an:Option Addr}{sl:Array (Option Value)}(a:PySem.W.nsIn K mainGlobals x=some (some (.ref f)))(l:K.lookup f=some ⟨oc,od,.func (PySem.W.fnOf x x (E8 st) (Dj st) (BY st) .none kV dc pm an cd ct),sl⟩)(c:PySem.W.codeIn K cd x=true)(k:PySem.W.keepIn K (.ref f)=true):FH K x st:=⟨f,oc,kV,dc,pm,cd,ct,od,an,sl,a,l,c,k⟩
theorem FH.go {K:PySem.W.Frag}{x:Str}{st:Stmt}{h:Heap}{mg:Str->Option Value}(H:FH K x st)(X:K.In h)(G:h.Ns mainGlobals mg):∃ f fd,Fun K x x st f fd∧mg x=some (.ref f):=by
 obtain ⟨_,_,_,_,_,_,_,_,_,_,a,l,c,k⟩:=H
 exact ⟨_,_,N1 l c k,PySem.W.mg_of X G a⟩
set_option maxHeartbeats 0 in
theorem all_mk {l:PySem.W.OpenLaw}{w:World}{K:PySem.W.Frag}{h:Heap}{mg:Str->Option Value}{fa:Addr}(X:K.In h)(G:h.Ns mainGlobals mg)(hfa:mg "law"=some (.ref fa))
  (h1:FH K "product" EA) (h2:FH K "table_of" Ed) (h3:FH K "rising_values" CO) (h4:FH K "key_of" Gb) (h5:FH K "keys_of" FJ) (h6:FH K "rows_beyond" De) (h7:FH K "rows_with" Ep) (h8:FH K "_law_hand" ER) (h9:FH K "_law_take" ES) (h10:FH K "_law_pick" E1) (h11:FH K "_law_words" DQ) (h12:FH K "_law_schema" Dy) (h13:FH K "_law_all" EM) (h14:FH K "law" Gh)
  (z1:PySem.W.nsIn K mainGlobals "all"=some none) (z2:PySem.W.nsIn K mainGlobals "int"=some none) (z3:PySem.W.nsIn K mainGlobals "isinstance"=some none) (z4:PySem.W.nsIn K mainGlobals "len"=some none) (z5:PySem.W.nsIn K mainGlobals "list"=some none) (z6:PySem.W.nsIn K mainGlobals "max"=some none) (z7:PySem.W.nsIn K mainGlobals "min"=some none) (z8:PySem.W.nsIn K mainGlobals "range"=some none) (z9:PySem.W.nsIn K mainGlobals "repr"=some none) (z10:PySem.W.nsIn K mainGlobals "sorted"=some none) (z11:PySem.W.nsIn K mainGlobals "tuple"=some none)
   :
  ∃ fd:FuncData,(∀ (s:Shared) (v:Value),BindsTo s fd ⟨[v],[]⟩ [("_law_script",v)])∧∀ base:Heap,K.In base->base.Ns mainGlobals mg->DJ l.prog w K mg base CX0 5 fa fd ["_law_script"] (spF ⟨K,l.prog,w⟩ HN 1):=by
 have T:Tx K mg:=⟨A9 X G z1,A9 X G z2,A9 X G z3,A9 X G z4,A9 X G z5,A9 X G z6,A9 X G z7,A9 X G z8,A9 X G z9,A9 X G z10,A9 X G z11⟩
 obtain ⟨_,_,kV,dc,pm,cd,ct,_,an,_,a,lk,c,k⟩:=h14
 cases hfa.symm.trans (PySem.W.mg_of X G a)
 refine ⟨PySem.W.fnOf "law" "law" (E8 Gh) (Dj Gh) (BY Gh) .none kV dc pm an cd ct,λs v=>.of_eq rfl,λbase _ _=>?_⟩
 obtain ⟨_,_,F,m⟩:=h1.go X G
 have C1:=DF (P:=l.prog) (w:=w) (base:=base) F m (KZ F T ) (F.binds λ_ _ _ _ _ _ us hl=>RF us hl λ_=>rfl)
 obtain ⟨_,_,F,m⟩:=h2.go X G
 have C2:=DF (P:=l.prog) (w:=w) (base:=base) F m (JL F T ) (F.binds λ_ _ _ _ _ _ us hl=>L7 us hl λ_ _=>rfl)
 obtain ⟨_,_,F,m⟩:=h3.go X G
 have C3:=DF (P:=l.prog) (w:=w) (base:=base) F m (Gq F T ) (F.binds λ_ _ _ _ _ _ us hl=>RF us hl λ_=>rfl)
 obtain ⟨_,_,F,m⟩:=h4.go X G
 have C4:=DF (P:=l.prog) (w:=w) (base:=base) F m (Ms F T C2) (F.binds λ_ _ _ _ _ _ us hl=>Sv us hl λ_ _ _=>rfl)
 obtain ⟨_,_,F,m⟩:=h5.go X G
 have C5:=DF (P:=l.prog) (w:=w) (base:=base) F m (KO F T C2 C1 C3) (F.binds λ_ _ _ _ _ _ us hl=>L7 us hl λ_ _=>rfl)
 obtain ⟨_,_,F,m⟩:=h6.go X G
 have C6:=DF (P:=l.prog) (w:=w) (base:=base) F m (Hy F T C1 C3) (F.binds λ_ _ _ _ _ _ us hl=>L7 us hl λ_ _=>rfl)
 obtain ⟨_,_,F,m⟩:=h7.go X G
 have C7:=DF (P:=l.prog) (w:=w) (base:=base) F m (IL F T C5 C6 C2) (F.binds λ_ _ _ _ _ _ us hl=>Sv us hl λ_ _ _=>rfl)
 obtain ⟨_,_,F,m⟩:=h8.go X G
 have C8:=DF (P:=l.prog) (w:=w) (base:=base) F m (Jw F T ) (F.binds λ_ _ _ _ _ _ us hl=>L7 us hl λ_ _=>rfl)
 obtain ⟨_,_,F,m⟩:=h9.go X G
 have C9:=DF (P:=l.prog) (w:=w) (base:=base) F m (Jt F T ) (F.binds λ_ _ _ _ _ _ us hl=>L7 us hl λ_ _=>rfl)
 obtain ⟨_,_,F,m⟩:=h10.go X G
 have C10:=DF (P:=l.prog) (w:=w) (base:=base) F m (JY F T C9) (F.binds λ_ _ _ _ _ _ us hl=>L7 us hl λ_ _=>rfl)
 obtain ⟨_,_,F,m⟩:=h11.go X G
 have C11:=DF (P:=l.prog) (w:=w) (base:=base) F m (IM F T C9 C10) (F.binds λ_ _ _ _ _ _ us hl=>Sv us hl λ_ _ _=>rfl)
 obtain ⟨_,_,F,m⟩:=h12.go X G
 have C12:=DF (P:=l.prog) (w:=w) (base:=base) F m (HG F T C11 C9) (F.binds λ_ _ _ _ _ _ us hl=>Vs us hl λ_ _ _ _=>rfl)
 obtain ⟨_,_,F,m⟩:=h13.go X G
 have C13:=DF (P:=l.prog) (w:=w) (base:=base) F m (KI F T ) (F.binds λ_ _ _ _ _ _ us hl=>RF us hl λ_=>rfl)
 exact S8 (N1 lk c k) T C8 C12 C13 C5 C7 C4
theorem Jq {K:Zc}{th:List Addr}{H:Hp}:∀ ns:List Int,RepL K th H (ns.map D.int) (ns.map V.int)
 | []=>.nil
 | i::ns=>.cons rfl (Jq ns)
theorem walk {l:PySem.W.OpenLaw}{q:Program}{loose:List Str}{XP:(Str->Option Value)->Heap->Prop}{YP:World->Heap->Prop}{d:DefRec}{K:Params->PySem.W.Frag}(hn:l.most=some 63)(hdf:d.params.defaults=[])
  (hY:∀ (w:World) (h:Heap),YP w h->(K w.params).In h)
  (F:∀ (w:World) (mg:Str->Option Value) (fa:Addr) (h:Heap),(K w.params).In h->h.Ns mainGlobals mg->mg d.name=some (.ref fa) ->
   ∃ fd:FuncData,(∀ (s:Shared) (u:Value),BindsTo s fd ⟨[u],[]⟩ [("_law_script",u)])∧∀ base:Heap,(K w.params).In base->base.Ns mainGlobals mg->DJ l.prog w (K w.params) mg base CX0 5 fa fd ["_law_script"] (spF ⟨K w.params,l.prog,w⟩ HN 1)) :
  PySem.W.WalkO q loose XP YP l.row.toRowW d [] (λf vs=>PySem.call f vs):=
 L2.Pk (n:=63) (k:=5) (x:="_law_script") (CX:=λ_=>CX0) (sp:=λw=>spF ⟨K w.params,l.prog,w⟩ HN 1) hn (by decide) hdf ⟨rfl,by decide,by decide,rfl⟩ hY F (λw H a ns hl _ hS=>by
  obtain ⟨mu',e⟩:=Pt ns
  refine ⟨[],[],[.lst (ns.map D.int)],⟨rfl,List.nodup_nil,λk a o e=>by simp at e⟩,.cons ?_ .nil,rfl,.bl true,mu',e,λth' H' _ _ v rv=>rv⟩
  unfold Rep
  refine ⟨a,ns.map V.int,rfl,?_,Jq ns,by rw [Ae];exact AM hl (by decide)⟩
  rcases hS with hS|hS
  ·exact .inl ⟨by simp,hS⟩
  ·exact .inr hS) λ_ _ _ _ _ z=>z
end PG
local macro_rules(kind:=Lean.Parser.Term.structInst)|s=>do
 let g:=s[2][0]
 let x:=g[10]
 let y:=x[1]
 if x[0][0].getId.eraseMacroScopes != `frame||y[2][2].getNumArgs<1 then Lean.Macro.throwUnsupported
 return s.setArg 2 (s[2].setArg 0 (g.setArg 10 (x.setArg 1 (y.setArg 2 (y[2].setArg 2 (Lean.mkIdent `none))))))
open PySem PySem.W PyProof.Rows
set_option maxRecDepth 100000 in
set_option maxHeartbeats 0 in
theorem PySem.Challenge.cw_lookback_k03_keys_and_rows_holds : PySem.Challenge.rw_lookback_k03_keys_and_rows.Holds := by
 w_on;o_law;k_head;(case hw=>w_witness2)
 k_fill
 refine PG.walk (l:=PySem.Challenge.rw_lookback_k03_keys_and_rows) rfl rfl (λw h Y=>PySem.W.kIn_of Y) ?F
 case F =>
  intro w mg fa h KX G hmg
  refine' PG.all_mk KX G hmg ?h1 ?h2 ?h3 ?h4 ?h5 ?h6 ?h7 ?h8 ?h9 ?h10 ?h11 ?h12 ?h13 ?h14 ?z1 ?z2 ?z3 ?z4 ?z5 ?z6 ?z7 ?z8 ?z9 ?z10 ?z11
  case h1|h2|h3|h4|h5|h6|h7|h8|h9|h10|h11|h12|h13|h14=>(refine' PG.fh ?a ?l ?c ?k;(case a=>k_is);(case l=>k_is);(case c=>k_is);(case k=>k_is))
  (case z1=>k_is);(case z2=>k_is);(case z3=>k_is);(case z4=>k_is);(case z5=>k_is);(case z6=>k_is)
  (case z7=>k_is);(case z8=>k_is);(case z9=>k_is);(case z10=>k_is);(case z11=>k_is)
