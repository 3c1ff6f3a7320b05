import PyProof.Rows.All
import Wide.All
import OpenK.AllK
import Wide.FinOn
import Lean
import PyProof.EqAt
import PyProof.EqKinds
import PyProof.TupleCall
import PyProof.NeKinds
import PySem.Syntax
import PySem.Builtin.Str.Common
import PyProof.ReprReads
import PyProof.StrLaws
import PyProof.ReprRoads
import PyProof.FitsInt
import KE.KIsAll
import PyProof.DictTable
import PyProof.Rows.SetFrom
import PyProof.SetRoads
import PyProof.ZipIter
import PyProof.StrWalks
import PyProof.EnumFor
import PyProof.EnumStmt
import PyProof.ListNew
import PyProof.CollectIter
import PyProof.Rows.SortWalk
import PySem.Challenge.RW_handpromise_k66_steps_traded
set_option genSizeOf false
set_option genInjectivity false
set_option bootstrap.genMatcherCode false
set_option Elab.async false
set_option linter.all false
def Aa:=@PySem.wpAny_bind
def Ab:=@PySem.Heap.get?_push_of_some
def Ac:=@PySem.wpAny_pure
def Ad:=@List.getElem?_eq_getElem.{0}
def Ae:=@List.getD_eq_getElem?_getD.{0}
def Af:=@List.size_toArray.{0}
def Ag:=@List.mem_cons_of_mem.{0}
def Ah:=@PySem.Heap.lt_size
def Ai:=@PySem.Heap.get?_push_size
def Aj:=@Nat.le_refl
def Ak:=@Option.some.inj.{0}
def Al:=@List.mem_cons_self.{0}
def Am:=@decide_eq_true
def An:=@List.mem_cons.{0}
def Ao:=@Nat.ne_of_lt
def Ap:=@List.getElem?_set_ne.{0}
def Aq:=@List.mem_append_right.{0}
def Ar:=@Nat.lt_of_lt_of_le
def As:=@decide_eq_false
def Au:=@List.getElem?_append_right.{0}
def Av:=@List.mem_singleton.{0}
def Aw:=@List.getElem?_eq_some_iff.{0}
def Ax:=@List.length_set.{0}
def Ay:=@List.map_append.{0,0}
def Az:=@List.getElem?_map.{0,0}
def A0:=@List.length_replicate.{0}
def A1:=@decide_eq_true_eq
def A2:=@List.length_take.{0}
def A3:=@List.map_map.{0,0,0}
def A4:=@Nat.le_trans
def A5:=@List.getElem_map.{0,0}
def A6:=@List.mem_map.{0,0}
def A7:=@PySem.F.called_set
def A8:=@List.zip_cons_cons.{0,0}
def A9:=@of_decide_eq_true
def Ba:=@List.getElem_mem.{0}
def Bb:=@beq_eq_false_iff_ne.{0}
def Bc:=@List.getElem?_append_left.{0}
def Bd:=@PySem.wpAny_setField_rec
def Be:=@List.not_mem_nil.{0}
def Bf:=@List.getElem?_set_self.{0}
def Bg:=@List.mem_append_left.{0}
def Bh:=@PySem.wpAny_callSpecial?_slot
def Bj:=@PyProof.Rows.F.plain_set_update_loop
def Bk:=@Option.map_eq_some_iff.{0,0}
def Bl:=@Nat.lt_irrefl
def Bm:=@beq_self_eq_true.{0}
def Bn:=@PySem.wpAny_field
def Bo:=@Array.length_toList.{0}
def Bp:=@PySem.wpAny_holding
def Bq:=@List.replicate_succ.{0}
def Br:=@List.drop_eq_getElem_cons.{0}
def Bs:=@List.mem_append.{0}
def Bt:=@PySem.wpAny_call_entry
def Bu:=@List.all_eq_true.{0}
def Bv:=@List.take_of_length_le.{0}
def Bw:=@PyProof.Rows.callWith_type1
def Bx:=@PyProof.Rows.slot_tuple_getitem
def Bz:=@PySem.wpAny_newObj_type
def B0:=@List.getElem_range
def B1:=@PySem.Heap.size_push
def B2:=@Int.toNat_of_nonneg
def B3:=@Nat.lt_succ_of_lt
def B4:=@PySem.wpAny_Call_Name_kw
def B5:=@Nat.zero_le
def B6:=@List.foldl_cons.{0,0}
def B7:=@List.length_drop.{0}
def B8:=@List.take_length.{0}
def B9:=@PySem.mem_of_lookup
def Ca:=@PyProof.Rows.F.entry_set_update_loop
def Cb:=@PySem.wpAny_truthy_bool
def Cc:=@List.flatten_cons.{0}
def Cd:=@List.append_assoc.{0}
def Ce:=@Int.toNat_natCast
def Cf:=@List.length_range
def Cg:=@Nat.ne_of_gt
def Ch:=@List.append_nil.{0}
def Ci:=@List.getElem?_replicate.{0}
def Cj:=@PySem.Around.under_plainId
def Ck:=@Bool.not_true
def Cm:=@List.mem_range
def Co:=@List.take_succ_eq_append_getElem.{0}
def Cp:=@List.zip_nil_left.{0,0}
def Cq:=@List.map_congr_left.{0,0}
def Cr:=@Bool.or_eq_true
def Cs:=@PySem.codeAny_builtin
def Cu:=@List.getElem?_eq_none.{0}
def Cv:=@List.length_filter_le.{0}
def Cw:=@PyProof.Rows.callWith_builtin1
def Cy:=@Nat.lt_succ_self
def Cz:=@List.filterMap_cons_none.{0,0}
def C0:=@PySem.wpAny_pyIter_list
def C1:=@List.nodup_cons.{0}
def C2:=@PySem.sizeLine_eq
def C3:=@PySem.F.slot_tuple_iterator_next
def C4:=@PySem.wpAny_seqItems
def C5:=@List.pairwise_cons.{0}
def C6:=@List.length_singleton.{0}
def C7:=@Array.getElem?_toList.{0}
def C8:=@Array.getElem?_eq_getElem.{0}
def C9:=@List.mem_filter.{0}
def Da:=@PySem.W.kia_one
def Db:=@Option.some.injEq.{0}
def Dc:=@List.getElem?_of_mem.{0}
def Dd:=@List.map_take.{0,0}
def De:=@PySem.AutoSeq1.wpAny_loadPart'
def Df:=@Nat.add_sub_cancel_left
def Dg:=@Bool.false_ne_true
def Dh:=@PySem.wpAny_mono
def Di:=@List.mem_filterMap.{0,0}
def Dj:=@PySem.Calls.spliced_cons
def Dk:=@List.length_append.{0}
def Dl:=@PySem.Heap.get?_update_other
def Dm:=@List.range_succ_eq_map
def Dn:=@Bool.eq_iff_iff
def Dp:=@List.map_drop.{0,0}
def Dq:=@PySem.F.slot_enumerate_next
def Dr:=@List.filterMap_append.{0,0}
def Ds:=@List.foldl_append.{0,0}
def Dt:=@Nat.le_succ
def Du:=@PySem.codeAny_mono
def Dv:=@PySem.wpAny_askSetting
def Dw:=@List.getElem?_zip_eq_some.{0,0}
def Dx:=@List.filterMap_cons.{0,0}
def Dy:=@List.toList_toArray.{0}
def Dz:=@PySem.F.args_tuple_add_2
def D1:=@PySem.wpAny_attempt
def D2:=@PySem.wpAny_passesOwn
def D3:=@Int.emod_lt_of_pos
def D4:=@PySem.F.entry_tuple_add
def D5:=@PySem.Calls.spliced_nil
def D6:=@PySem.F.slot_tuple_add
def D7:=@List.reverse_cons.{0}
def D8:=@Bool.not_eq_true'
def D9:=@PySem.wpAny_setState_of
theorem nf{p:Prop}(h:false=true):p:=absurd h Dg
def gS:=@List.getElem?_cons_succ.{0}
def gZ:=@List.getElem?_cons_zero.{0}
def lS:=@List.set_cons_succ.{0}
def lZ:=@List.set_cons_zero.{0}
def bF:=@Bool.false_eq_true
def lC:=@List.length_cons.{0}
def lN:=@List.length_nil.{0}
def lA:=@List.length_append.{0}
def mC:=@List.map_cons.{0,0}
def mN:=@List.map_nil.{0,0}
def lM:=@List.length_map.{0,0}
def mG:=@List.mem_of_getElem?.{0}
def bN:=@Bool.false_ne_true
def bA:=@Bool.and_eq_true
noncomputable section
set_option maxRecDepth 100000
namespace L2
open PySem PySem.Spec PyProof.Rows
abbrev Key:=Sum Int Str
def pI:Key->Value->Bool
 | .inl k,v=>Value.isInt k v
 | .inr x,v=>Value.isStrOf x v
def aMJ(w:World):Key->Int
 | .inl k=>hashInt k
 | .inr x=>hashStr w x
theorem keyIs_shape:∀{k:Key} {v:Value},pI k v=true->(∃i t,k=Sum.inl i/\v=Value.int i t)\/(∃x t,k=Sum.inr x/\v=Value.str x t)
 | .inl i,v,h=>by
  obtain⟨t,e⟩:=Value.isInt_shape (k:=i) (v:=v) h
  exact .inl ⟨i,t,rfl,e⟩
 | .inr x,v,h=>by
  obtain⟨t,e⟩:=Value.isStrOf_shape (x:=x) (v:=v) h
  exact .inr ⟨x,t,rfl,e⟩
theorem aBF(i:Int)(t:Tok):pI (.inl i) (.int i t)=true:=by simp[pI,Value.isInt]
theorem mW(x:Str)(t:Tok):pI (.inr x) (.str x t)=true:=by simp[pI,Value.isStrOf]
theorem aHo(a b:Int):decide ((Sum.inl a:Key)=Sum.inl b)=(a==b):=by
 by_cases e:a=b
 . subst e;simp
 . have h:¬ (Sum.inl a:Key)=Sum.inl b:=λq=>e (Sum.inl.inj q)
   rw[As h]
   exact(Bb.mpr e).symm
theorem aHp(a b:Str):decide ((Sum.inr a:Key)=Sum.inr b)=decide (a=b):=by
 by_cases e:a=b
 . subst e;simp
 . have h:¬ (Sum.inr a:Key)=Sum.inr b:=λq=>e (Sum.inr.inj q)
   rw[As h,As e]
theorem aHq(a:Int)(b:Str):decide ((Sum.inl a:Key)=Sum.inr b)=false:=As (λq=>nomatch q)
theorem aHr(a:Str)(b:Int):decide ((Sum.inr a:Key)=Sum.inl b)=false:=As (λq=>nomatch q)
def bS(prog:Program)(w:World):PySem.KeyKind prog w Key where
 is:=pI
 hash:=aMJ w
 inj:=λv a b ha hb=>by
  rcases keyIs_shape ha with⟨i,t,rfl,rfl⟩|⟨x,t,rfl,rfl⟩
  . rcases keyIs_shape hb with⟨j,u,rfl,e⟩|⟨y,u,rfl,e⟩
    . injection e with e1 _;rw[e1]
    . exact nomatch e
  . rcases keyIs_shape hb with⟨j,u,rfl,e⟩|⟨y,u,rfl,e⟩
    . exact nomatch e
    . injection e with e1 _;rw[e1]
 byValue:=λk v h=>by
  rcases keyIs_shape h with⟨i,t,rfl,rfl⟩|⟨x,t,rfl,rfl⟩ <;> rfl
 pyHash:=λhv h=>by
  rcases keyIs_shape hv with⟨i,t,rfl,rfl⟩|⟨x,t,rfl,rfl⟩
  . exact wpAny_pyHash_int h
  . exact wpAny_pyHash_str h
 eqBool:=λhu hv h=>by
  rcases keyIs_shape hu with⟨i,t,rfl,rfl⟩|⟨x,t,rfl,rfl⟩
  . rcases keyIs_shape hv with⟨j,u,rfl,rfl⟩|⟨y,u,rfl,rfl⟩
    . rw[aHo] at h;exact wpAny_eqBool_int h
    . rw[aHq] at h;exact SeqAt.EqAt.int_str i t y u _ _ _ _ h
  . rcases keyIs_shape hv with⟨j,u,rfl,rfl⟩|⟨y,u,rfl,rfl⟩
    . rw[aHr] at h;exact SeqAt.EqAt.str_int x t j u _ _ _ _ h
    . rw[aHp] at h;exact wpAny_eqBool_str h
 «strs»:=λk x t v h=>by
  rcases keyIs_shape h with⟨i,u,rfl,e⟩|⟨y,u,rfl,e⟩
  . exact nomatch e
  . injection e with e1 _
    subst e1
    cases v <;> rfl
theorem vZ(prog:Program)(w:World)(i:Int)(t:Tok):(bS prog w).is (.inl i) (.int i t)=true:=aBF i t
theorem wB(prog:Program)(w:World)(x:Str)(t:Tok):(bS prog w).is (.inr x) (.str x t)=true:=mW x t
end L2
namespace L2
open PySem PySem.Spec PyProof.Rows
inductive V where
 | non|bl (b:Bool)|int (i:Int)|str (x:Str)|byt (b:Array UInt8)|flt (b:UInt64)|ref (a:Addr)|ty (n:String)
 deriving DecidableEq
def bR:V->Value->Prop
 | .non,u=>u=Value.none
 | .bl b,u=>u=Value.bool b
 | .int i,u=>∃t,u=Value.int i t
 | .str x,u=>∃t,u=Value.str x t
 | .byt b,u=>∃t,u=Value.bytes b t
 | .flt b,u=>∃t,u=Value.float b t
 | .ref a,u=>u=Value.ref a
 | .ty n,u=>u=Value.type n
abbrev aU:List V->List Value->Prop:=Paired bR
theorem aU.length{xs:List V}{us:List Value}(r:aU xs us):xs.length=us.length:=Paired.length r
theorem aU.get:∀{xs:List V} {us:List Value} {i:Nat} {x:V},aU xs us->xs[i]? = some x->∃u,us[i]? = some u/\bR x u
 | _,_,_,_,.nil,e=>by simp at e
 | _,_,0,_,.cons r _,e=>by simp at e;subst e;exact⟨_,rfl,r⟩
 | _,_,i+1,x,.cons _ t,e=>by
  obtain⟨u,h1,h2⟩:=aU.get (i:=i) (x:=x) t (by simpa using e)
  exact⟨u,by simpa using h1,h2⟩
theorem aU.set{x:V}{u:Value}(r:bR x u):∀{xs:List V} {us:List Value} (i:Nat),aU xs us->aU (xs.set i x) (us.set i u)
 | _,_,_,.nil=>.nil
 | _,_,0,.cons _ t=>.cons r t
 | _,_,i+1,.cons q t=>.cons q (aU.set r i t)
theorem aU.append:∀{xs ys:List V} {us ws:List Value},aU xs us->aU ys ws->aU (xs++ys) (us++ws)
 | _,_,_,_,.nil,s=>s
 | _,_,_,_,.cons r t,s=>.cons r (aU.append t s)
theorem aU.take:∀{xs:List V} {us:List Value} (n:Nat),aU xs us->aU (xs.take n) (us.take n)
 | _,_,0,_=>.nil
 | _,_,_+1,.nil=>.nil
 | _,_,n+1,.cons r t=>.cons r (aU.take n t)
theorem aU.drop:∀{xs:List V} {us:List Value} (n:Nat),aU xs us->aU (xs.drop n) (us.drop n)
 | _,_,0,r=>r
 | _,_,_+1,.nil=>.nil
 | _,_,n+1,.cons _ t=>aU.drop n t
def aJP:Option V->Option Value->Prop
 | some v,some u=>bR v u
 | none,none=>True
 | _,_=>False
def KV{κ:Type}:List (κ×V)->List (κ×Value)->Prop:=Paired λ(p:κ×V) (q:κ×Value)=>p.1=q.1/\bR p.2 q.2
def kV:Key->V
 | .inl i=>.int i
 | .inr x=>.str x
inductive HO where
 | lst (xs:List V)
 | tup (xs:List V)
 | dK (kvs:List (Key×V))|dT (kvs:List (List Key×V))
 | set (S:Int->Bool) (n:Nat)
 | ins (C dx:Addr) (fs:List (Str×V))
 | own (x:Addr)
 | xd (fs:List (Str×V))
 | met (f x:Addr)
 | rng (lo hi:Int)
 | frz (o:Obj) (u:HO)
 | tbl (ps:Array Value)
 | ext (φ:Heap->Prop)
abbrev Hp:=Addr->Option HO
def upd(H:Hp)(a:Addr)(o:HO):Hp:=λb=>if b=a then some o else H b
theorem cV{H:Hp}{a:Addr}{o:HO}:upd H a o a=some o:=by unfold upd;rw[if_pos rfl]
theorem aZ{H:Hp}{a b:Addr}{o:HO}(h:b≠a):upd H a o b=H b:=by unfold upd;rw[if_neg h]
theorem bQ{H:Hp}{a b:Addr}{o:HO}(h:H a=some o)(h':H b=none):a≠b:=by
 intro e;subst e;rw[h] at h';cases h'
section
variable (P:Program) (w:World)
def fI(H:Hp)(h:Heap)(a:Addr):HO->Prop
 | .lst xs=>xs.length<=sizeLine/\∃(its:List Value) (n:Nat),aU xs its/\h.get? a=some { cls:=.type "list",data:=.seq its.toArray n }
 | .tup xs=>xs.length<=sizeLine/\∃its:List Value,aU xs its/\IsTup h a its.toArray
 | .dK kvs=>kvs.length<=sizeLine/\(a==sysModules)=false/\∃vs,KV kvs vs/\h.DictOf (bS P w) a vs
 | .dT kvs=>kvs.length<=sizeLine/\(a==sysModules)=false/\∃xs:List (List Key×Addr×Value),
  Paired (λ(p:List Key×V) (q:List Key×Addr×Value)=>p.1=q.1/\H q.2.1=some (.tup (p.1.map kV))/\bR p.2 q.2.2) kvs xs /\
  ∃o es ep,h.get? a=some o/\o.ExactDict/\o.data=.dict es ep/\es.toList=xs.map (entryOfKey (tupleKind (bS P w)))/\(xs.map (·.1)).Nodup
 | .set S n=>h.SetOf (intKind P w) a S n
 | .ins C dx fs=>H dx=some (.own a)/\fs.length<=1000/\dx≠a/\h.get? a=some (PySem.W.instObj C dx) /\
  ∃mA,h.Ns1 dx mA/\(∀f,aJP (fs.lookup f) (mA f))/\PySem.Within mA (fs.map (·.1))
 | .own _=>∃o,h.get? a=some o
 | .xd fs=>∃mA,h.Ns1 a mA/\∀f,aJP (fs.lookup f) (mA f)
 | .rng lo hi=>∃t u v,h.get? a=some { cls:=.type "range",data:=.fields #[.int lo t,.int hi u,.int 1 v] }
 | .frz o u=>h.get? a=some o/\fI H h a u
 | .tbl ps=>h.get? a=some { cls:=.none,data:=.fields ps }
 | .met f x=>h.get? a=some (PySem.W.methodObj (.ref f) (.ref x))
 | .ext φ=>φ h/\(∃o,h.get? a=some o)/\∀h1 h2:Heap,φ h1->(∀o,h1.get? a=some o->h2.get? a=some o)->φ h2
def HOk(H:Hp)(h:Heap):Prop:=∀a o,H a=some o->fI P w H h a o
end
section
variable {P:Program} {w:World} {H H':Hp} {h h':Heap} {a:Addr} {o:HO}
theorem fI.lt(x:fI P w H h a o):a<h.objs.size:=by
 cases o with
 | lst xs=>obtain⟨_,_,_,_,e⟩:=x;exact Ah e
 | tup xs=>obtain⟨_,_,_,p⟩:=x;exact p.lt
 | dK kvs=>obtain⟨_,_,_,_,o,_,_,e,_⟩:=x;exact Ah e
 | dT kvs=>obtain⟨_,_,_,_,o,_,_,e,_⟩:=x;exact Ah e
 | set S n=>obtain⟨o,_,_,_,e,_⟩:=x;exact Ah e
 | ins C dx fs=>obtain⟨_,_,_,e,_⟩:=x;exact Ah e
 | own y=>obtain⟨_,e⟩:=x;exact Ah e
 | xd fs=>obtain⟨_,⟨_,_,_,e,_⟩,_⟩:=x;exact Ah e
 | rng lo hi=>obtain⟨_,_,_,e⟩:=x;exact Ah e
 | frz ob u=>obtain⟨e,_⟩:=x;exact Ah e
 | tbl ps=>exact Ah (show h.get? a=some _ from x)
 | met f y=>exact Ah (show h.get? a=some _ from x)
 | ext φ=>obtain⟨_,⟨_,e⟩,_⟩:=x;exact Ah e
theorem Paired.mapP{α β:Type}{F G:α->β->Prop}:∀{l₁:List α} {l₂:List β},Paired F l₁ l₂->(∀a b,F a b->G a b)->Paired G l₁ l₂
 | _,_,.nil,_=>.nil
 | _,_,.cons r t,f=>.cons (f _ _ r) (Paired.mapP t f)
theorem fI.stay(x:fI P w H h a o)(k:∀b u,(b=a\/H b=some (.own a))->h.get? b=some u->h'.get? b=some u)
 (ho:∀b,H b=some (.own a)->H' b=some (.own a)) (ht:∀b xs,H b=some (.tup xs)->H' b=some (.tup xs)):fI P w H' h' a o:=by
 induction o with
 | lst xs=>obtain⟨z,its,n,r,e⟩:=x;exact⟨z,its,n,r,k _ _ (.inl rfl) e⟩
 | tup xs=>obtain⟨z,its,r,ob,e,c⟩:=x;exact⟨z,its,r,ob,k _ _ (.inl rfl) e,c⟩
 | dK kvs=>obtain⟨z,y,vs,r,ob,es,ep,e,c⟩:=x;exact⟨z,y,vs,r,ob,es,ep,k _ _ (.inl rfl) e,c⟩
 | dT kvs=>
  obtain⟨z,y,xs,r,ob,es,ep,e,c⟩:=x
  exact⟨z,y,xs,Paired.mapP r λp q z=>⟨z.1,ht _ _ z.2.1,z.2.2⟩,ob,es,ep,k _ _ (.inl rfl) e,c⟩
 | set S n=>obtain⟨ob,es,ep,t,e,c⟩:=x;exact⟨ob,es,ep,t,k _ _ (.inl rfl) e,c⟩
 | ins C dx fs=>
  obtain⟨d,z,ne,e,mA,⟨od,es,ep,e2,c⟩,r⟩:=x
  exact⟨ho _ d,z,ne,k _ _ (.inl rfl) e,mA,⟨od,es,ep,k _ _ (.inr d) e2,c⟩,r⟩
 | own y=>obtain⟨ob,e⟩:=x;exact⟨ob,k _ _ (.inl rfl) e⟩
 | xd fs=>obtain⟨mA,⟨od,es,ep,e,c⟩,r⟩:=x;exact⟨mA,⟨od,es,ep,k _ _ (.inl rfl) e,c⟩,r⟩
 | rng lo hi=>obtain⟨t,u,v,e⟩:=x;exact⟨t,u,v,k _ _ (.inl rfl) e⟩
 | frz ob u ih=>obtain⟨e,q⟩:=x;exact⟨k _ _ (.inl rfl) e,ih q⟩
 | tbl ps=>
  have e:h.get? a=some { cls:=.none,data:=.fields ps }:=x
  show h'.get? a=some { cls:=.none,data:=.fields ps }
  exact k a _ (.inl rfl) e
 | met f y=>
  have e:h.get? a=some (PySem.W.methodObj (.ref f) (.ref y)):=x
  show h'.get? a=some (PySem.W.methodObj (.ref f) (.ref y))
  exact k a _ (.inl rfl) e
 | ext φ=>obtain⟨p,⟨o,e⟩,st⟩:=x;exact⟨st _ _ p λo q=>k _ _ (.inl rfl) q,⟨o,k _ _ (.inl rfl) e⟩,st⟩
theorem HOk.lt(x:HOk P w H h)(e:H a=some o):a<h.objs.size:=(x a o e).lt
theorem HOk.fresh(x:HOk P w H h)(e:h.objs.size<=a):H a=none:=by
 cases q:H a with
 | none=>rfl
 | some u=>exact absurd (Ar (x.lt q) e) (Bl _)
theorem HOk.kept(x:HOk P w H h)(k:∀b u,h.get? b=some u->h'.get? b=some u):HOk P w H h':=λa o e=>
 (x a o e).stay (λb u _ q=>k b u q) (λ_ q=>q) λ_ _ q=>q
theorem HOk.laid(x:HOk P w H h)(k:∀b u,h.get? b=some u->h'.get? b=some u)(hp:h.objs.size<=a)(new:fI P w (upd H a o) h' a o):HOk P w (upd H a o) h':=λb u e=>by
 have hn:=x.fresh hp
 by_cases hb:b=a
 . subst hb;rw[cV] at e;cases e;exact new
 . rw[aZ hb] at e
   exact(x b u e).stay (λc v _ q=>k c v q) (λc q=>by rw[aZ (bQ q hn)];exact q) λc xs q=>by rw[aZ (bQ q hn)];exact q
end
def Rd(H:Hp)(a:Addr)(u:HO):Prop:=H a=some u\/∃o,H a=some (.frz o u)
theorem Rd.ok{P:Program}{w:World}{H:Hp}{h:Heap}{a:Addr}{u:HO}(r:Rd H a u)(x:HOk P w H h):fI P w H h a u:=by
 rcases r with r|⟨o,r⟩
 . exact x a u r
 . obtain⟨_,q⟩:=x a _ r
   exact q
def Mut:Option HO->Prop
 | some (.lst _)=>True
 | some (.dK _)=>True
 | some (.dT _)=>True
 | some (.set _ _)=>True
 | some (.ins _ _ _)=>True
 | some (.ext _)=>True
 | _=>False
section
variable {P:Program} {w:World} {H:Hp} {h h':Heap} {x e:Addr} {o':HO}
theorem HOk.write(ok:HOk P w H h)(mu:Mut (H x))(he:e=x\/H e=some (.own x))(k:∀b u,b≠e->h.get? b=some u->h'.get? b=some u)(heo:∃u,h'.get? e=some u)
 (new:fI P w (upd H x o') h' x o'):HOk P w (upd H x o') h':=λb u q=>by
 have nown:∀c y,H c=some (.own y)->c≠x:=λc y r z=>by subst z;rw[r] at mu;exact mu
 have ntup:∀c xs,H c=some (.tup xs)->c≠x:=λc xs r z=>by subst z;rw[r] at mu;exact mu
 by_cases hb:b=x
 . subst hb;rw[cV] at q;cases q;exact new
 . rw[aZ hb] at q
   by_cases hbe:b=e
   . have q':H b=some (.own x):=by
      rcases he with z|z
      . exact absurd (hbe.trans z) hb
      . rw[hbe];exact z
     rw[q] at q';cases q'
     obtain⟨v,hv⟩:=heo
     exact⟨v,by rw[hbe];exact hv⟩
   . refine(ok b u q).stay (λc v hc r=>k c v ?_ r) (λc r=>by rw[aZ (nown c b r)];exact r) λc xs r=>by rw[aZ (ntup c xs r)];exact r
     rcases hc with rfl|hc
     . exact hbe
     . rintro rfl
       rcases he with z|z
       . exact nown c b hc z
       . rw[hc] at z;cases z;exact hb rfl
end
structure Un (fs ex:List Addr) (H H':Hp) (h h':Heap):Prop where
 keep:∀b o,h.get? b=some o->H b=none->b∉fs->b∉ex->h'.get? b=some o
 slot:∀b o,h.get? b=some o->H b=none->b∈fs->b∉ex->∃sl,h'.get? b=some { o with slots:=sl }
 free:∀b o,h.get? b=some o->H b=none->b∉ex->H' b=none
 there:∀b o,h.get? b=some o->b∉ex->∃o',h'.get? b=some o'
 tups:∀b xs,H b=some (.tup xs)->H' b=some (.tup xs)
 frzs:∀b o u,H b=some (.frz o u)->H' b=some (.frz o u)
 tbls:∀b ps,H b=some (.tbl ps)->∃more,H' b=some (.tbl (ps++more))
section
variable {fs fs' ex ex':List Addr} {H H1 H2:Hp} {h h1 h2 h':Heap} {a x e:Addr} {o:HO}
theorem Un.any(u:Un fs ex H H1 h h1){b:Addr}{ob:Obj}(q:h.get? b=some ob)(n:H b=none)(hx:b∉ex):∃sl,h1.get? b=some { ob with slots:=sl }:=by
 by_cases hb:b∈fs
 . exact u.slot b ob q n hb hx
 . exact⟨ob.slots,u.keep b ob q n hb hx⟩
theorem Un.kept(k:∀b u,h.get? b=some u->h'.get? b=some u):Un fs ex H H h h':=
 ⟨λb ob q _ _ _=>k b ob q,λb ob q _ _ _=>⟨ob.slots,k b ob q⟩,λ_ _ _ n _=>n,λb ob q _=>⟨ob,k b ob q⟩,λ_ _ q=>q,λ_ _ _ q=>q,λ_ ps q=>⟨#[],by rw[q];simp⟩⟩
theorem Un.refl:Un fs ex H H h h:=Un.kept λ_ _ q=>q
theorem Un.laid(k:∀b u,h.get? b=some u->h'.get? b=some u)(hp:h.objs.size<=a)(hn:H a=none):Un fs ex H (upd H a o) h h' where
 keep:=λb u q _ _ _=>k b u q
 slot:=λb u q _ _ _=>⟨u.slots,k b u q⟩
 free:=λb u q n _=>by rw[aZ (Ao (Ar (Ah q) hp))];exact n
 there:=λb u q _=>⟨u,k b u q⟩
 tups:=λb xs q=>by rw[aZ (bQ q hn)];exact q
 frzs:=λb u xs q=>by rw[aZ (bQ q hn)];exact q
 tbls:=λb ps q=>⟨#[],by rw[aZ (bQ q hn),q];simp⟩
theorem Un.write(mu:Mut (H x))(he:e=x\/H e=some (.own x))(k:∀b u,b≠e->h.get? b=some u->h'.get? b=some u)(heo:∃u,h'.get? e=some u):Un fs ex H (upd H x o) h h':=by
 have hx:∀b,H b=none->b≠x:=λb n z=>by subst z;rw[n] at mu;exact mu
 have hb:∀b,H b=none->b≠e:=λb n z=>by
  subst z
  rcases he with r|r
  . exact hx b n r
  . rw[n] at r;cases r
 have hm:∀b u,H b=some u->¬ Mut (some u)->b≠x:=λb u q nm z=>by subst z;rw[q] at mu;exact nm mu
 refine⟨λb u q n _ _=>k b u (hb b n) q,λb u q n _ _=>⟨u.slots,k b u (hb b n) q⟩,λb u q n _=>by rw[aZ (hx b n)];exact n,λb u q _=>?_,
  λb xs q=>by rw[aZ (hm b _ q λz=>z)];exact q,λb u xs q=>by rw[aZ (hm b _ q λz=>z)];exact q,λb ps q=>⟨#[],by rw[aZ (hm b _ q λz=>z),q];simp⟩⟩
 by_cases hbe:b=e
 . subst hbe;exact heo
 . exact⟨u,k b u hbe q⟩
end
def trk(h:Heap)(H:Hp):List Addr:=(List.range h.objs.size).filter λa=>(H a).isSome
def tX(h:Heap)(H:Hp):Heap:=PySem.W.hideAll h (trk h H)
theorem aBG(h:Heap)(H:Hp):(tX h H).objs.size=h.objs.size:=PySem.W.hideAll_size _ _
theorem aCT{h:Heap}{H:Hp}{b:Addr}{o:Obj}(e:h.get? b=some o)(n:H b=none):(tX h H).get? b=some o:=
 PySem.W.hideAll_get _ e λhm=>by
  have q:(H b).isSome=true:=(C9.mp hm).2
  rw[n] at q;simp at q
theorem aFp{h:Heap}{H:Hp}{b:Addr}{o:Obj}(e:(tX h H).get? b=some o):h.get? b=some o/\H b=none:=by
 have e':h.get? b=some o:=PySem.W.of_hideAll (trk h H) e
 refine⟨e',?_⟩
 cases q:H b with
 | none=>rfl
 | some x=>
  have hm:b∈trk h H:=C9.mpr ⟨Cm.mpr (Ah e'),by simp[q]⟩
  have z:(tX h H).get? b=none:=PySem.W.hideAll_none (trk h H) hm
  rw[z] at e;cases e
def aFq(g h:Heap)(L:Addr):List (Addr×Obj):=(List.range h.objs.size).filterMap λa=>if a=L\/(g.get? a).isSome=true then none else (h.get? a).map λo=>(a,o)
def rest(g h:Heap)(L d:Addr):List (Addr×Obj):=(aFq g h L).filter λp=>decide (p.1≠d)
end L2
namespace L2
open PySem PySem.Spec PyProof.Rows
structure Mod (K:PySem.W.Frag) (mg:Str->Option Value) (base:Heap):Prop where
 kin:K.In base
 glob:base.Ns mainGlobals mg
 blt:∃mb,base.Ns builtinsNs mb/\∀x:Str,x ≠ "__name__" -> mb x=bootBuiltins x
 nolimit:base.NoLimit
set_option genInjectivity true in
structure Cx where
 prog:Program
 w:World
 K:PySem.W.Frag
 mg:Str->Option Value
 base:Heap
 A:Around
 N:List Str
 s₀:Shared
 H₀:Hp
 env:Env
 outer:List Env
 stack:List Env
 ex:List Addr
 fn:Str->Bool
 calm:Bool
 pn:List (Addr×Obj)
 xe:Value->Shared->Prop
def frs(l:List Env):List Addr:=l.filterMap (·.frame)
abbrev Cx.fs(X:Cx):List Addr:=frs X.outer
def Vis(sc:Scope)(x:Str):Prop:=sc.names.lookup x=some .local\/sc.names.lookup x=some .cell\/sc.names.lookup x=some .free
def Loc(sc:Scope)(x:Str):Prop:=sc.names.lookup x=some .local\/sc.names.lookup x=some .cell
def aMK(env:Env)(h:Heap)(m:Str->Option Value)(x:Str)(u:Value):Prop:=
 (env.kindOf x=some .local/\m x=some u)\/((env.kindOf x=some .cell\/env.kindOf x=some .free)/\∃c,env.cells.lookup x=some c/\h.IsCell c (some u))
structure Cx.Ok (X:Cx):Prop where
 mod:Mod X.K X.mg X.base
 kind:X.env.scope.kind=.function
 glob:X.env.globals=mainGlobals
 blt:X.env.builtins=builtinsNs
 above:X.s₀.heap.objs.size<=X.env.locals
 inj:∀x y c,X.env.cells.lookup x=some c->X.env.cells.lookup y=some c->x=y
 has:∀x,(X.env.kindOf x=some .cell\/X.env.kindOf x=some .free)->∃c,X.env.cells.lookup x=some c
 cab:∀x c,X.fn x=true->X.env.cells.lookup x=some c->X.s₀.heap.objs.size<=c
 hd:X.calm=true->X.A.handled=none
 frames:X.A.frames=some X.stack
 stk:X.stack=X.outer\/(X.stack=X.env::X.outer/\X.env.frame=some X.env.locals)
 exf:∀b∈X.ex,b≠X.env.locals/\∀x c,X.env.cells.lookup x=some c->c≠b
 bs:∀b o,X.base.get? b=some o->X.s₀.heap.get? b=some o/\X.H₀ b=none
 bsz:X.base.objs.size<=X.s₀.heap.objs.size
 noex:∀b o,X.base.get? b=some o->b∉X.ex
 exfs:∀b∈X.ex,b∉X.fs
 funs:X.s₀.heap.FunFrames X.base X.outer
 frf:∀b∈X.fs,X.H₀ b=none
structure Inv (X:Cx) (pins:List (Addr×Obj)) (σ:List (Option V)) (H:Hp) (s:Shared):Prop where
 ok:X.Ok
 os:s.os=X.s₀.os
 bare:AllBare s.gens
 base:Un X.fs X.ex X.H₀ H X.s₀.heap s.heap
 loc:∃m,s.heap.Ns X.env.locals m/\∀(i:Nat) (x:Str) (v:V),X.N[i]? = some x->σ[i]? = some (some v)->Vis X.env.scope x->∃u,bR v u/\aMK X.env s.heap m x u
 cell:∀x c,X.env.cells.lookup x=some c->∃v,s.heap.IsCell c v
 free:H X.env.locals=none
 freeC:∀x c,X.env.cells.lookup x=some c->H c=none
 pin:∀p∈X.pn++pins,s.heap.get? p.1=some p.2/\H p.1=none/\p.1≠X.env.locals/\p.1∉X.fs/\∀v,p.2.data≠.cell v
 hok:HOk X.prog X.w H s.heap
 len:σ.length=X.N.length
section
variable {X:Cx} {pins:List (Addr×Obj)} {σ:List (Option V)} {H H':Hp} {s:Shared} {h':Heap}
theorem Cx.Ok.nofr(ok:X.Ok){b:Addr}{o:Obj}(e:X.base.get? b=some o):b∉X.fs:=λhb=>by
 have:=(ok.funs.mem hb).1
 rw[e] at this;cases this
theorem Inv.bs(I:Inv X pins σ H s):∀b o,X.base.get? b=some o->s.heap.get? b=some o/\H b=none:=λb o e=>
 ⟨I.base.keep b o (I.ok.bs b o e).1 (I.ok.bs b o e).2 (I.ok.nofr e) (I.ok.noex b o e),I.base.free b o (I.ok.bs b o e).1 (I.ok.bs b o e).2 (I.ok.noex b o e)⟩
theorem Inv.bk(I:Inv X pins σ H s):∀b o,X.base.get? b=some o->s.heap.get? b=some o:=λb o e=>(I.bs b o e).1
theorem Inv.mod(I:Inv X pins σ H s):Mod X.K X.mg X.base:=I.ok.mod
theorem Inv.kIn(I:Inv X pins σ H s):X.K.In s.heap:=I.ok.mod.kin.keeps I.bk
theorem Inv.lt(I:Inv X pins σ H s):X.env.locals<s.heap.objs.size:=let ⟨_,hn,_⟩:=I.loc;hn.lt
theorem Inv.sz(I:Inv X pins σ H s):X.s₀.heap.objs.size<=s.heap.objs.size:=A4 I.ok.above (Nat.le_of_lt I.lt)
theorem Inv.nofs(I:Inv X pins σ H s){a:Addr}(h:s.heap.objs.size<=a):a∉X.fs:=λhb=>by
 obtain⟨_,o,ho,_⟩:=I.ok.funs.mem hb
 exact absurd (Ar (Ah ho) (A4 I.sz h)) (Bl _)
theorem Inv.cne(I:Inv X pins σ H s):∀x c,X.env.cells.lookup x=some c->c≠X.env.locals:=λx c e z=>by
 obtain⟨v,o,ho,hd⟩:=I.cell x c e
 obtain⟨m,⟨o',es,ep,ho',hd',_⟩,_⟩:=I.loc
 rw[z,ho'] at ho;cases ho;rw[hd'] at hd;cases hd
theorem Inv.funs(I:Inv X pins σ H s):s.heap.FunFrames X.base X.outer:=by
 have all:∀(l:List Env),(∀b∈frs l,b∈X.fs)->X.s₀.heap.FunFrames X.base l->s.heap.FunFrames X.base l:=by
  intro l
  induction l with
  | nil=>intro _ _;trivial
  | cons env r ih=>
   intro hs hl
   obtain⟨hk,⟨L,o,hf,hn,ho,hd⟩,hr⟩:=hl
   have hL:L∈X.fs:=hs L (by unfold frs;rw[Dx,hf];exact Al)
   obtain⟨sl,e⟩:=I.base.slot L o ho (I.ok.frf L hL) hL λz=>I.ok.exfs L z hL
   exact⟨hk,⟨L,_,hf,hn,e,hd⟩,ih (λb hb=>hs b (by unfold frs;rw[Dx,hf];exact Ag _ hb)) hr⟩
 exact all X.outer (λ_ hb=>hb) I.ok.funs
theorem Inv.stack(I:Inv X pins σ H s):s.heap.FunFrames X.base X.stack:=by
 rcases I.ok.stk with e|⟨e,hf⟩
 . rw[e];exact I.funs
 . rw[e]
   obtain⟨m,hn,_⟩:=I.loc
   refine .cons (by rw[I.ok.kind];decide) hf hn ?_ I.funs
   exact Heap.get?_none_of_le (A4 I.ok.bsz I.ok.above)
theorem Inv.stkSub(I:Inv X pins σ H s):∀b∈frs X.stack,b∈X.env.locals::X.fs:=λb hb=>by
 rcases I.ok.stk with e|⟨e,hf⟩
 . rw[e] at hb;exact Ag _ hb
 . rw[e] at hb
   unfold frs at hb
   rw[Dx,hf] at hb
   exact hb
theorem Inv.stkFree(I:Inv X pins σ H s):∀b∈frs X.stack,H b=none:=λb hb=>by
 rcases An.mp (I.stkSub b hb) with e|hb
 . rw[e];exact I.free
 . obtain⟨_,o,ho,_⟩:=I.ok.funs.mem hb
   exact I.base.free b o ho (I.ok.frf b hb) λz=>I.ok.exfs b z hb
theorem Inv.step{g':Array GenState}{t':Nat}{d':Drawn}{ch:List Addr}(I:Inv X pins σ H s)
 (hch:∀b∈ch,(b∈X.ex\/X.s₀.heap.objs.size<=b)/\b≠X.env.locals/\(∀x c,X.env.cells.lookup x=some c->c≠b)/\∀p∈X.pn++pins,p.1≠b)
 (keep:∀b o,b≠X.env.locals->b∉X.fs->b∉ch->s.heap.get? b=some o->H b=none->h'.get? b=some o)
 (slot:∀b o,b≠X.env.locals->b∈X.fs->b∉ch->s.heap.get? b=some o->H b=none->∃sl,h'.get? b=some { o with slots:=sl }) (free:∀b o,b∉ch->s.heap.get? b=some o->H b=none->H' b=none)
 (there:∀b o,b∉ch->s.heap.get? b=some o->∃o',h'.get? b=some o')
 (tups:∀b xs,H b=some (.tup xs)->H' b=some (.tup xs)) (frzs:∀b o u,H b=some (.frz o u)->H' b=some (.frz o u)) (tbls:∀b ps,H b=some (.tbl ps)->∃more,H' b=some (.tbl (ps++more)))
 (ns:∀m,s.heap.Ns X.env.locals m->h'.Ns X.env.locals m) (hok:HOk X.prog X.w H' h') (hg:AllBare g') :
 Inv X pins σ H' { s with heap:=h',gens:=g',drawn:=d',toks:=t' }:=by
 have neL:∀b o,X.s₀.heap.get? b=some o->b≠X.env.locals:=λb o e=>Ao (Ar (Ah e) I.ok.above)
 have neC:∀b o,X.s₀.heap.get? b=some o->b∉X.ex->b∉ch:=λb o e hx hb=>by
  rcases(hch b hb).1 with z|z
  . exact hx z
  . exact absurd (Ar (Ah e) z) (Bl _)
 have cellK:∀x c,X.env.cells.lookup x=some c->∀v,s.heap.IsCell c v->h'.IsCell c v:=λx c e v ⟨o,ho,hd⟩=>by
  have nch:c∉ch:=λz=>(hch c z).2.2.1 x c e rfl
  by_cases hc:c∈X.fs
  . obtain⟨sl,q⟩:=slot c o (I.cne x c e) hc nch ho (I.freeC x c e)
    exact⟨_,q,hd⟩
  . exact⟨o,keep c o (I.cne x c e) hc nch ho (I.freeC x c e),hd⟩
 refine⟨I.ok,I.os,hg,⟨λb o e n hb hx=>?_,λb o e n hb hx=>?_,λb o e n hx=>?_,λb o e hx=>?_,λb xs e=>tups b xs (I.base.tups b xs e),λb o xs e=>frzs b o xs (I.base.frzs b o xs e),λb ps e=>?_⟩,?_,λx c e=>?_,?_,λx c e=>?_,λp hp=>?_,hok,I.len⟩
 . exact keep b o (neL b o e) hb (neC b o e hx) (I.base.keep b o e n hb hx) (I.base.free b o e n hx)
 . obtain⟨sl,e1⟩:=I.base.slot b o e n hb hx
   obtain⟨sl',e2⟩:=slot b _ (neL b o e) hb (neC b o e hx) e1 (I.base.free b o e n hx)
   exact⟨sl',e2⟩
 . obtain⟨o',e1⟩:=I.base.there b o e hx
   exact free b o' (neC b o e hx) e1 (I.base.free b o e n hx)
 . obtain⟨o',e1⟩:=I.base.there b o e hx
   exact there b o' (neC b o e hx) e1
 . obtain⟨m1,e1⟩:=I.base.tbls b ps e
   obtain⟨m2,e2⟩:=tbls b _ e1
   exact⟨m1++m2,by rw[e2,Array.append_assoc]⟩
 . obtain⟨m,hn,hl⟩:=I.loc
   refine⟨m,ns m hn,λi x v e1 e2 e3=>?_⟩
   obtain⟨u,r,l⟩:=hl i x v e1 e2 e3
   refine⟨u,r,?_⟩
   rcases l with l|⟨k,c,e,z⟩
   . exact .inl l
   . exact .inr ⟨k,c,e,cellK x c e _ z⟩
 . obtain⟨v,z⟩:=I.cell x c e
   exact⟨v,cellK x c e v z⟩
 . obtain⟨m,⟨o,_,_,ho,_⟩,_⟩:=I.loc
   exact free _ o (λz=>(hch _ z).2.1 rfl) ho I.free
 . obtain⟨v,o,ho,hd⟩:=I.cell x c e
   exact free c o (λz=>(hch c z).2.2.1 x c e rfl) ho (I.freeC x c e)
 . obtain⟨e,n,ne,nf,d⟩:=I.pin p hp
   have nch:p.1∉ch:=λz=>(hch p.1 z).2.2.2 p hp rfl
   exact⟨keep p.1 p.2 ne nf nch e n,free p.1 p.2 nch e n,ne,nf,d⟩
theorem Inv.un{t':Nat}(I:Inv X pins σ H s)(u:Un X.fs [] H H' s.heap h')(hok:HOk X.prog X.w H' h'):Inv X pins σ H' { s with heap:=h',toks:=t' }:=by
 obtain⟨m,⟨o,es,ep,ho,r⟩,_⟩:=id I.loc
 obtain⟨sl,hL⟩:=u.any ho I.free (by simp)
 exact I.step (g':=s.gens) (d':=s.drawn) (ch:=[]) (λ_ z=>nomatch z) (λb o _ hb _ e n=>u.keep b o e n hb (by simp)) (λb o _ hb _ e n=>u.slot b o e n hb (by simp)) (λb o _ e n=>u.free b o e n (by simp)) (λb o _ e=>u.there b o e (by simp)) u.tups u.frzs u.tbls (λm' hm=>by
  obtain⟨o',es',ep',ho',r'⟩:=hm
  rw[ho] at ho';cases ho'
  exact⟨_,es',ep',hL,r'⟩) hok I.bare
theorem Inv.call{g':Array GenState}{t':Nat}{d':Drawn}{ch:List Addr}(I:Inv X pins σ H s)(u:Un (frs X.stack) ch H H' s.heap h')(hok:HOk X.prog X.w H' h')(hg:AllBare g')
 (hch:∀b∈ch,(b∈X.ex\/X.s₀.heap.objs.size<=b)/\b≠X.env.locals/\(∀x c,X.env.cells.lookup x=some c->c≠b)/\∀p∈X.pn++pins,p.1≠b) :
 Inv X pins σ H' { s with heap:=h',gens:=g',drawn:=d',toks:=t' }:=by
 obtain⟨m,⟨o,es,ep,ho,r⟩,_⟩:=id I.loc
 obtain⟨sl,hL⟩:=u.any ho I.free λz=>(hch _ z).2.1 rfl
 exact I.step (ch:=ch) hch (λb o hL hb hc e n=>u.keep b o e n (λz=>(An.mp (I.stkSub b z)).elim hL hb) hc) (λb o _ _ hc e n=>u.any e n hc) (λb o hc e n=>u.free b o e n hc) (λb o hc e=>u.there b o e hc) u.tups u.frzs u.tbls (λm' hm=>by
  obtain⟨o',es',ep',ho',r'⟩:=hm
  rw[ho] at ho';cases ho'
  exact⟨_,es',ep',hL,r'⟩) hok hg
theorem Inv.turned{t':Nat}{it:Addr}(I:Inv X pins σ H s)(k:∀b o,b≠it->s.heap.get? b=some o->h'.get? b=some o)(hn:H it=none)(hL:it≠X.env.locals)
 (h1:it∈X.ex\/X.s₀.heap.objs.size<=it) (h2:∀x c,X.env.cells.lookup x=some c->c≠it) (h3:∀p∈X.pn++pins,p.1≠it):Inv X pins σ H { s with heap:=h',toks:=t' }:=by
 have nit:∀b u,H b=some u->b≠it:=λb u e z=>by rw[z,hn] at e;cases e
 refine I.step (g':=s.gens) (d':=s.drawn) (ch:=[it]) (λb hb=>?_) (λb o _ _ hc e _=>k b o (λz=>hc (by simp[z])) e) (λb o _ _ hc e _=>⟨o.slots,k b o (λz=>hc (by simp[z])) e⟩) (λ_ _ _ _ n=>n)
  (λb o hc e=>⟨o,k b o (λz=>hc (by simp[z])) e⟩) (λ_ _ e=>e) (λ_ _ _ e=>e) (λb ps e=>⟨#[],by rw[e];simp⟩) (λm hm=>?_) (λb u e=>?_) I.bare
 . have e:b=it:=by simpa using hb
   subst e
   exact⟨h1,hL,h2,h3⟩
 . obtain⟨o,es,ep,ho,r⟩:=hm
   exact⟨o,es,ep,k _ o (Ne.symm hL) ho,r⟩
 . refine(I.hok b u e).stay (λc v hc q=>k c v ?_ q) (λ_ q=>q) λ_ _ q=>q
   rcases hc with z|z
   . rw[z];exact nit b u e
   . exact nit c _ z
theorem Inv.tok(I:Inv X pins σ H s)(t:Nat):Inv X pins σ H { s with toks:=t }:=I.un (h':=s.heap) (t':=t) Un.refl I.hok
theorem Inv.kept{t':Nat}(I:Inv X pins σ H s)(k:∀b u,s.heap.get? b=some u->h'.get? b=some u):Inv X pins σ H { s with heap:=h',toks:=t' }:=I.un (Un.kept k) (I.hok.kept k)
theorem Inv.laid{a:Addr}{o:HO}{t':Nat}(I:Inv X pins σ H s)(k:∀b u,s.heap.get? b=some u->h'.get? b=some u)(hp:s.heap.objs.size<=a)(new:fI X.prog X.w (upd H a o) h' a o) :
 Inv X pins σ (upd H a o) { s with heap:=h',toks:=t' }:=I.un (Un.laid k hp (I.hok.fresh hp)) (I.hok.laid k hp new)
theorem Inv.write{x e:Addr}{o:HO}{t':Nat}(I:Inv X pins σ H s)(mu:Mut (H x))(he:e=x\/H e=some (.own x))(k:∀b u,b≠e->s.heap.get? b=some u->h'.get? b=some u)(heo:∃u,h'.get? e=some u)
 (new:fI X.prog X.w (upd H x o) h' x o):Inv X pins σ (upd H x o) { s with heap:=h',toks:=t' }:=I.un (Un.write mu he k heo) (I.hok.write mu he k heo new)
theorem Inv.pins_of{pins':List (Addr×Obj)}(I:Inv X pins σ H s)(h:∀p∈pins',s.heap.get? p.1=some p.2/\H p.1=none/\p.1≠X.env.locals/\p.1∉X.fs/\∀v,p.2.data≠.cell v):Inv X pins' σ H s:=
 ⟨I.ok,I.os,I.bare,I.base,I.loc,I.cell,I.free,I.freeC,λp hp=>(Bs.mp hp).elim (λz=>I.pin p (Bg _ z)) (h p),I.hok,I.len⟩
theorem wC{N:List Str}(hN:N.Nodup){i j:Nat}{x:Str}(a:N[i]? = some x)(b:N[j]? = some x):i=j:=by
 obtain⟨h1,e1⟩:=Aw.mp a
 obtain⟨h2,e2⟩:=Aw.mp b
 exact(List.getElem_inj hN).mp (e1.trans e2.symm)
theorem sB{M:Model}{A:Around}{E:Value->Shared->Prop}{i:Nat}{x:Str}{v:V}{u:Value}{Q:Unit->Shared->Prop}(I:Inv X pins σ H s)(hN:X.N.Nodup)(hi:X.N[i]? = some x)(hx:Loc X.env.scope x)(r:bR v u)
 (h:∀s',Inv X pins (σ.set i (some v)) H s'->(∃a,Heap.SameBut a s.heap s'.heap/\(a=X.env.locals\/X.env.cells.lookup x=some a))->Q () s') (hf:X.fn x=true\/X.env.scope.names.lookup x=some .local:=by first|exact .inl rfl|exact .inr rfl|assumption):wpAny M A (storeName X.env x u) Q E s:=by
 obtain⟨m,hn,hl⟩:=id I.loc
 have hcls:(X.env.scope.kind==.class||(X.env.scope.kind==.module&&X.env.locals != X.env.globals))=false:=by rw[I.ok.kind];rfl
 have hiσ:i<σ.length:=by rw[I.len];exact(Aw.mp hi).1
 have cne:=I.cne
 have tracked:∀{a:Addr} {h':Heap},(∃o,s.heap.get? a=some o/\H a=none)->Heap.SameBut a s.heap h'->HOk X.prog X.w H h':=λ{a h'} ha hs b ob e=>by
  obtain⟨_,_,hfree⟩:=ha
  refine(I.hok b ob e).stay (λc w' hc q=>(hs.2 c ?_).trans q) (λ_ q=>q) λ_ _ q=>q
  rintro rfl
  rcases hc with rfl|hc
  . rw[hfree] at e;cases e
  . rw[hfree] at hc;cases hc
 rcases hx with hk|hk
 . refine wpAny_storeName_local hk hn (λh' hn' hs=>?_) hcls
   obtain⟨oL,_,_,hoL,_⟩:=id hn
   refine h _ ⟨I.ok,I.os,I.bare,⟨λb o e n hb hx=>?_,λb o e n hb hx=>?_,I.base.free,λb o e hx=>?_,I.base.tups,I.base.frzs,I.base.tbls⟩,⟨_,hn',λj y v' e1 e2 e3=>?_⟩,λy c e=>?_,I.free,I.freeC,λp hp=>?_,tracked ⟨oL,hoL,I.free⟩ hs,by simpa using I.len⟩ ⟨_,hs,.inl rfl⟩
   . exact(hs.2 b (Ao (Ar (Ah e) I.ok.above))).trans (I.base.keep b o e n hb hx)
   . obtain⟨sl,e1⟩:=I.base.slot b o e n hb hx
     exact⟨sl,(hs.2 b (Ao (Ar (Ah e) I.ok.above))).trans e1⟩
   . obtain⟨o',e1⟩:=I.base.there b o e hx
     exact⟨o',(hs.2 b (Ao (Ar (Ah e) I.ok.above))).trans e1⟩
   . by_cases hj:j=i
     . subst hj
       rw[hi] at e1;cases e1
       rw[Bf hiσ] at e2
       cases e2
       exact⟨u,r,.inl ⟨hk,by simp⟩⟩
     . rw[Ap (Ne.symm hj)] at e2
       obtain⟨u',r',q⟩:=hl j y v' e1 e2 e3
       refine⟨u',r',?_⟩
       rcases q with⟨k,e⟩|⟨k,c,e,z⟩
       . refine .inl ⟨k,?_⟩
         have:y≠x:=λe=>hj (wC hN e1 (e▸hi))
         simp[this,e]
       . exact .inr ⟨k,c,e,z.sameBut hs (cne y c e)⟩
   . obtain⟨w',z⟩:=I.cell y c e
     exact⟨w',z.sameBut hs (cne y c e)⟩
   . obtain⟨e,n,ne,nf,d⟩:=I.pin p hp
     exact⟨(hs.2 p.1 ne).trans e,n,ne,nf,d⟩
 . have hfn:X.fn x=true:=by
    rcases hf with z|z
    . exact z
    . rw[z] at hk;cases hk
   obtain⟨c,hc⟩:=I.ok.has x (.inl hk)
   obtain⟨w',z⟩:=I.cell x c hc
   refine wpAny_storeName_cell I.ok.kind hk hc z (λh' hc' hs=>?_)
   obtain⟨oc,hoc,hocd⟩:=id z
   refine h { s with heap:=h' } ⟨I.ok,I.os,I.bare,⟨λb o e n hb hx=>?_,λb o e n hb hx=>?_,I.base.free,λb o e hx=>?_,I.base.tups,I.base.frzs,I.base.tbls⟩,⟨m,hn.sameBut hs (Ne.symm (cne x c hc)),λj y v' e1 e2 e3=>?_⟩,λy c' e=>?_,I.free,I.freeC,λp hp=>?_,tracked ⟨oc,hoc,I.freeC x c hc⟩ hs,by simpa using I.len⟩ ⟨c,hs,.inr hc⟩
   . exact(hs.2 b (Ao (Ar (Ah e) (I.ok.cab x c hfn hc)))).trans (I.base.keep b o e n hb hx)
   . obtain⟨sl,e1⟩:=I.base.slot b o e n hb hx
     exact⟨sl,(hs.2 b (Ao (Ar (Ah e) (I.ok.cab x c hfn hc)))).trans e1⟩
   . obtain⟨o',e1⟩:=I.base.there b o e hx
     exact⟨o',(hs.2 b (Ao (Ar (Ah e) (I.ok.cab x c hfn hc)))).trans e1⟩
   . by_cases hj:j=i
     . subst hj
       rw[hi] at e1;cases e1
       rw[Bf hiσ] at e2
       cases e2
       exact⟨u,r,.inr ⟨.inl hk,c,hc,hc'⟩⟩
     . rw[Ap (Ne.symm hj)] at e2
       obtain⟨u',r',q⟩:=hl j y v' e1 e2 e3
       refine⟨u',r',?_⟩
       rcases q with q|⟨k,c',e,z'⟩
       . exact .inl q
       . refine .inr ⟨k,c',e,z'.sameBut hs ?_⟩
         rintro rfl
         exact hj (wC hN e1 (I.ok.inj _ _ _ e hc▸hi))
   . by_cases hcc:c'=c
     . subst hcc;exact⟨_,hc'⟩
     . obtain⟨w2,z2⟩:=I.cell y c' e
       exact⟨w2,z2.sameBut hs hcc⟩
   . obtain⟨e,n,ne,nf,d⟩:=I.pin p hp
     refine⟨(hs.2 p.1 ?_).trans e,n,ne,nf,d⟩
     intro q
     rw[q,hoc] at e
     have q':oc=p.2:=Ak e
     exact d w' (by rw[<-q'];exact hocd)
theorem wD{M:Model}{A:Around}{E:Value->Shared->Prop}{i:Nat}{x:Str}{v:V}{u:Value}{Q:Unit->Shared->Prop}(I:Inv X pins σ H s)(hN:X.N.Nodup)(hi:X.N[i]? = some x)(hx:Loc X.env.scope x)(r:bR v u)
 (h:∀s',Inv X pins (σ.set i (some v)) H s'->Q () s') (hf:X.fn x=true\/X.env.scope.names.lookup x=some .local:=by first|exact .inl rfl|exact .inr rfl|assumption):wpAny M A (storeName X.env x u) Q E s:=
 sB I hN hi hx r (λs' I' _=>h s' I') hf
theorem Inv.call'{s':Shared}{ch:List Addr}(I:Inv X pins σ H s)(ho:s'.os=s.os)(u:Un (frs X.stack) ch H H' s.heap s'.heap)(hok:HOk X.prog X.w H' s'.heap)(hg:AllBare s'.gens)
 (hch:∀b∈ch,(b∈X.ex\/X.s₀.heap.objs.size<=b)/\b≠X.env.locals/\(∀x c,X.env.cells.lookup x=some c->c≠b)/\∀p∈X.pn++pins,p.1≠b):Inv X pins σ H' s':=by
 obtain⟨h',g',d',t',o'⟩:=s'
 have e:o'=s.os:=ho
 subst e
 exact I.call (g':=g') (t':=t') (d':=d') u hok hg hch
end
abbrev XK:=Value->Option Addr->Hp->Prop
abbrev St:=List (Option V)
abbrev VK:=V->Hp->Prop
abbrev TE:=St->Hp->VK->Prop
abbrev TT:=St->Hp->(Bool->Hp->Prop)->Prop
abbrev TA:=St->Hp->(List V->Hp->Prop)->Prop
structure Ends where
 nx:St->Hp->Prop
 rt:VK
 bk:St->Hp->Prop:=λ_ _=>False
 ct:St->Hp->Prop:=λ_ _=>False
abbrev TS:=Ends->St->Hp->Prop
def EP(X:Cx)(pins:List (Addr×Obj))(σ:St)(Q:VK)(u:Value)(s':Shared):Prop:=∃v H',Inv X pins σ H' s'/\bR v u/\Q v H'
def TP(X:Cx)(pins:List (Addr×Obj))(σ:St)(Q:Bool->Hp->Prop)(b:Bool)(s':Shared):Prop:=∃H',Inv X pins σ H' s'/\Q b H'
def AP(X:Cx)(pins:List (Addr×Obj))(σ:St)(Q:List V->Hp->Prop)(us:List Value)(s':Shared):Prop:=∃vs H',Inv X pins σ H' s'/\aU vs us/\Q vs H'
def SP(X:Cx)(pins:List (Addr×Obj))(D:Ends)(f:Flow)(s':Shared):Prop:=
 match f with
 | .next=>∃σ' H',Inv X pins σ' H' s'/\D.nx σ' H'
 | .brk=>∃σ' H',Inv X pins σ' H' s'/\D.bk σ' H'
 | .cont=>∃σ' H',Inv X pins σ' H' s'/\D.ct σ' H'
 | .ret u=>∃v σ' H',Inv X pins σ' H' s'/\bR v u/\D.rt v H'
def PE(X:Cx)(e:Expr)(t:TE):Prop:=
 ∀(pins:List (Addr×Obj)) (s:Shared) (σ:St) (H:Hp) (Q:VK),Inv X pins σ H s->t σ H Q->wpAny (model X.prog X.w) X.A (eval e X.env) (EP X pins σ Q) X.xe s
def PT(X:Cx)(e:Expr)(t:TT):Prop:=
 ∀(pins:List (Addr×Obj)) (s:Shared) (σ:St) (H:Hp) (Q:Bool->Hp->Prop),Inv X pins σ H s->t σ H Q->wpAny (model X.prog X.w) X.A (isTrue e X.env (eval e X.env)) (TP X pins σ Q) X.xe s
def PW(X:Cx)(e:Expr)(t:TT):Prop:=
 ∀(whole:Sem Value) (pins:List (Addr×Obj)) (s:Shared) (σ:St) (H:Hp) (Q:Bool->Hp->Prop),Inv X pins σ H s->t σ H Q->wpAny (model X.prog X.w) X.A (isTrue e X.env whole) (TP X pins σ Q) X.xe s
theorem PW.pt{X:Cx}{e:Expr}{t:TT}(h:PW X e t):PT X e t:=h _
def PA(X:Cx)(es:List Expr)(t:TA):Prop:=
 ∀(pos:Pos) (pins:List (Addr×Obj)) (s:Shared) (σ:St) (H:Hp) (Q:List V->Hp->Prop),Inv X pins σ H s->t σ H Q->wpAny (model X.prog X.w) X.A (spliced (backTo pos (starEach es X.env))) (AP X pins σ Q) X.xe s
def PS(X:Cx)(st:Stmt)(t:TS):Prop:=
 ∀(pins:List (Addr×Obj)) (s:Shared) (σ:St) (H:Hp) (D:Ends),Inv X pins σ H s->t D σ H->wpAny (model X.prog X.w) X.A (exec st X.env) (SP X pins D) X.xe s
def PSs(X:Cx)(st:List Stmt)(t:TS):Prop:=
 ∀(pins:List (Addr×Obj)) (s:Shared) (σ:St) (H:Hp) (D:Ends),Inv X pins σ H s->t D σ H->wpAny (model X.prog X.w) X.A (execs st X.env) (SP X pins D) X.xe s
theorem thn{α:Type}{t:Sem α}{Q Q':α->Shared->Prop}{M:Model}{A:Around}{E:Value->Shared->Prop}{s:Shared}(h:wpAny M A t Q E s)(hQ:∀a s,Q a s->Q' a s):wpAny M A t Q' E s:=Dh h hQ λ_ _ x=>x
end L2
namespace L2
open PySem PySem.Spec PyProof.Rows
section
variable {X:Cx}
def aHs(i:Nat):TE:=λσ H Q=>∃v,σ[i]? = some (some v)/\Q v H
def tC(v:V):TE:=λ_ H Q=>Q v H
theorem yX{i:Nat}{x:Str}{pos:Pos}(hN:X.N[i]? = some x)(hv:Vis X.env.scope x)(hd:(x==("__debug__" : Str))=false:=by decide)(hcd:(x==("__classdict__" : Str))=false:=by decide):PE X (.Name x pos) (aHs i):=by
 intro pins s σ H Q I h
 obtain⟨v,e,h⟩:=h
 obtain⟨m,hn,hl⟩:=I.loc
 obtain⟨u,r,l⟩:=hl i x v hN e hv
 have fin:EP X pins σ Q u s:=⟨v,H,I,r,h⟩
 rcases l with⟨hk,hm⟩|⟨hk,c,hc,hcell⟩
 . exact wpAny_Name (wpAny_loadName_local I.ok.kind hk hn hm fin) hd
 . rcases hk with hk|hk
   . exact wpAny_Name (wpAny_loadName_cell I.ok.kind hk hc hcell fin) hd
   . exact wpAny_Name (wpAny_loadName_free I.ok.kind hk hc hcell fin hcd) hd
theorem aHt{i j pos}:PE X (.Constant (.int i) j pos) (tC (.int i)):=λ_ _ _ H _ I h=>wpAny_Constant_int ⟨.int i,H,I.tok _,⟨_,rfl⟩,h⟩
theorem aJQ{b j pos}:PE X (.Constant (.bool b) j pos) (tC (.bl b)):=λ_ _ _ H _ I h=>Constant_bool ⟨.bl b,H,I,rfl,h⟩
theorem aHu{j pos}:PE X (.Constant .none j pos) (tC .non):=λ_ _ _ H _ I h=>Constant_none ⟨.non,H,I,rfl,h⟩
theorem aHv{x j pos}:PE X (.Constant (.str x) j pos) (tC (.str x)):=λ_ _ _ H _ I h=>Calls.Constant_str ⟨.str x,H,I.tok _,⟨_,rfl⟩,h⟩
def Gl(X:Cx)(x:Str):Prop:=X.env.kindOf x=some .globalImplicit
theorem tY{E:Value->Shared->Prop}{pins:List (Addr×Obj)}{s:Shared}{σ:St}{H:Hp}{x:Str}{u:Value}{pos:Pos}{Q:Value->Shared->Prop}(I:Inv X pins σ H s)(hg:Gl X x)(hm:X.mg x=some u)(h:Q u s)
 (hd:(x==("__debug__" : Str))=false:=by decide):wpAny (model X.prog X.w) X.A (eval (.Name x pos) X.env) Q E s:=
 Calls.Name_function_global I.ok.kind hg (Calls.loadGlobal_global (by rw[I.ok.glob];exact I.mod.glob.keeps I.bk) hm h) hd
theorem fL{E:Value->Shared->Prop}{pins:List (Addr×Obj)}{s:Shared}{σ:St}{H:Hp}{x:Str}{u:Value}{pos:Pos}{Q:Value->Shared->Prop}(I:Inv X pins σ H s)(hg:Gl X x)(hm:X.mg x=none)(hv:bootBuiltins x=some u)(h:Q u s)
 (hn:x ≠ "__name__" := by decide) (hd:(x==("__debug__" : Str))=false:=by decide):wpAny (model X.prog X.w) X.A (eval (.Name x pos) X.env) Q E s:=by
 obtain⟨mb,h1,h2⟩:=I.mod.blt
 exact Calls.Name_function_global I.ok.kind hg (Calls.loadGlobal_builtin (by rw[I.ok.glob];exact I.mod.glob.keeps I.bk) hm (by rw[I.ok.blt];exact h1.keeps I.bk) ((h2 x hn).trans hv) h) hd
theorem aAI{x:Str}{v:V}{u:Value}{pos:Pos}(hg:Gl X x)(hm:X.mg x=some u)(r:bR v u)(hd:(x==("__debug__" : Str))=false:=by decide):PE X (.Name x pos) (tC v):=
 λ_ _ _ H _ I h=>tY I hg hm ⟨v,H,I,r,h⟩ hd
variable {a b:Expr} {ta tb:TE} {pos:Pos}
variable {tA tB':TT} {rest:List Expr}
def aML(t u:TT):TT:=λσ H Q=>t σ H λc H1=>if c=true then u σ H1 Q else Q false H1
def tOr(t u:TT):TT:=λσ H Q=>t σ H λc H1=>if c=true then Q true H1 else u σ H1 Q
def aMM(t:TT):TT:=λσ H Q=>t σ H λc H1=>Q (!c) H1
theorem aFr(ha:PT X a tA):PW X (.BoolOp .And [a] pos) tA:=by
 intro wh pins s σ H Q I h
 refine isTrue_and (thn (ha pins s σ H Q I h) λc s1 e=>?_)
 cases c with
 | true=>exact isTrue_and_nil e
 | false=>exact e
theorem aHw(ha:PT X a tA):PW X (.BoolOp .Or [a] pos) tA:=by
 intro wh pins s σ H Q I h
 refine isTrue_or (thn (ha pins s σ H Q I h) λc s1 e=>?_)
 cases c with
 | false=>exact isTrue_or_nil e
 | true=>exact e
theorem aHx(ha:PT X a tA)(hb:PW X (.BoolOp .And (b::rest) pos) tB'):PW X (.BoolOp .And (a::b::rest) pos) (aML tA tB'):=by
 intro wh pins s σ H Q I h
 refine isTrue_and (thn (ha pins s σ H _ I h) λc s1 ⟨H1,I1,q1⟩=>?_)
 cases c with
 | true=>exact hb wh pins s1 σ H1 Q I1 q1
 | false=>exact⟨H1,I1,q1⟩
theorem aJR(ha:PT X a tA)(hb:PW X (.BoolOp .Or (b::rest) pos) tB'):PW X (.BoolOp .Or (a::b::rest) pos) (tOr tA tB'):=by
 intro wh pins s σ H Q I h
 refine isTrue_or (thn (ha pins s σ H _ I h) λc s1 ⟨H1,I1,q1⟩=>?_)
 cases c with
 | true=>exact⟨H1,I1,q1⟩
 | false=>exact hb wh pins s1 σ H1 Q I1 q1
theorem aHy(ha:PT X a tA):PT X (.UnaryOp .Not a pos) (aMM tA):=by
 intro pins s σ H Q I h
 exact isTrue_not (ha pins s σ H (λc H1=>Q (!c) H1) I h)
def aJS(ta tb:TE):TE:=λσ H Q=>ta σ H λx H1=>∃c,x=.bl c/\if c=true then tb σ H1 Q else Q (.bl false) H1
def aMN(ta tb:TE):TE:=λσ H Q=>ta σ H λx H1=>∃c,x=.bl c/\if c=true then Q (.bl true) H1 else tb σ H1 Q
theorem aCU{op}{t:TE}(h:PE X a t):PE X (.BoolOp op [a] pos) t:=λpins s σ H Q I hw=>BoolOp_one (h pins s σ H Q I hw)
theorem aHz(ha:PE X a ta)(hb:PE X (.BoolOp .And (b::rest) pos) tb):PE X (.BoolOp .And (a::b::rest) pos) (aJS ta tb):=by
 intro pins s σ H Q I h
 refine BoolOp_and (thn (ha pins s σ H _ I h) λv s1 ⟨x,H1,I1,r1,q1⟩=>?_)
 obtain⟨c,rfl,q1⟩:=q1
 cases r1
 refine Cb ?_
 cases c with
 | true=>exact hb pins s1 σ H1 Q I1 q1
 | false=>exact⟨.bl false,H1,I1,rfl,q1⟩
theorem aJT(ha:PE X a ta)(hb:PE X (.BoolOp .Or (b::rest) pos) tb):PE X (.BoolOp .Or (a::b::rest) pos) (aMN ta tb):=by
 intro pins s σ H Q I h
 refine BoolOp_or (thn (ha pins s σ H _ I h) λv s1 ⟨x,H1,I1,r1,q1⟩=>?_)
 obtain⟨c,rfl,q1⟩:=q1
 cases r1
 refine Cb ?_
 cases c with
 | false=>exact hb pins s1 σ H1 Q I1 q1
 | true=>exact⟨.bl true,H1,I1,rfl,q1⟩
def tIf(t:TT)(ta tb:TE):TE:=λσ H Q=>t σ H λc H1=>if c=true then ta σ H1 Q else tb σ H1 Q
theorem aCV{c:Expr}(hc:PT X c tA)(ha:PE X a ta)(hb:PE X b tb):PE X (.IfExp c a b pos) (tIf tA ta tb):=by
 intro pins s σ H Q I h
 refine wpAny_IfExp (thn (hc pins s σ H _ I h) λd s1 ⟨H1,I1,q1⟩=>?_)
 cases d with
 | true=>exact ha pins s1 σ H1 Q I1 q1
 | false=>exact hb pins s1 σ H1 Q I1 q1
end
end L2
namespace L2
open PySem PySem.Spec PyProof.Rows
def SqL(K:PySem.W.Frag)(H:Hp)(a:Addr)(xs:List V):Prop:=
 Rd H a (.lst xs) \/
  ∃(o:Obj) (its:Array Value) (n:Nat),K.lookup a=some o/\o.cls=.type "list" /\ o.dict=none/\o.data=.seq its n/\its.size<=sizeLine/\aU xs its.toList
def SqT(K:PySem.W.Frag)(H:Hp)(a:Addr)(xs:List V):Prop:=
 Rd H a (.tup xs) \/
  ∃(o:Obj) (its:Array Value) (n:Nat),K.lookup a=some o/\o.cls=.type "tuple" /\ o.data=.seq its n/\its.size<=sizeLine/\aU xs its.toList
def aMO:Value->Option V
 | .none=>some .non
 | .bool b=>some (.bl b)
 | .int i _=>some (.int i)
 | .str x _=>some (.str x)
 | .bytes b _=>some (.byt b)
 | .float b _=>some (.flt b)
 | .ref a=>some (.ref a)
 | .type n=>some (.ty n)
 | _=>none
theorem bR.abs{x:V}{u:Value}(r:bR x u):aMO u=some x:=by
 cases x with
 | non=>cases r;rfl
 | bl _=>cases r;rfl
 | int _=>obtain⟨t,rfl⟩:=r;rfl
 | str _=>obtain⟨t,rfl⟩:=r;rfl
 | byt _=>obtain⟨t,rfl⟩:=r;rfl
 | flt _=>obtain⟨t,rfl⟩:=r;rfl
 | ref _=>cases r;rfl
 | ty _=>cases r;rfl
theorem bR.inj{x y:V}{u:Value}(r:bR x u)(q:bR y u):x=y:=Ak (r.abs.symm.trans q.abs)
theorem aU.inj:∀{xs ys:List V} {us:List Value},aU xs us->aU ys us->xs=ys
 | _,_,_,.nil,.nil=>rfl
 | _,_,_,.cons r t,.cons r' t'=>by rw[r.inj r',aU.inj t t']
section
variable {X:Cx} {pins:List (Addr×Obj)} {σ:St} {H:Hp} {s:Shared} {a:Addr} {xs ys:List V}
theorem SqL.of{K:PySem.W.Frag}(h:H a=some (.lst xs)):SqL K H a xs:=.inl (.inl h)
theorem SqT.of{K:PySem.W.Frag}(h:H a=some (.tup xs)):SqT K H a xs:=.inl (.inl h)
theorem Inv.list(I:Inv X pins σ H s)(h:SqL X.K H a xs):∃its:List Value,aU xs its/\PlainL s.heap a its.toArray/\xs.length<=sizeLine:=by
 rcases h with h|⟨o,its,n,hk,hc,hd,hs,hz,r⟩
 . obtain⟨z,its,n,r,e⟩:=h.ok I.hok
   exact⟨its,r,⟨_,n,e,rfl,rfl,rfl⟩,z⟩
 . refine⟨its.toList,r,⟨o,n,I.kIn a o hk,hc,hd,by simpa using hs⟩,?_⟩
   have e:=r.length
   simp only[Bo] at e
   omega
theorem Inv.tuple(I:Inv X pins σ H s)(h:SqT X.K H a xs):∃its:List Value,aU xs its/\IsTup s.heap a its.toArray/\xs.length<=sizeLine:=by
 rcases h with h|⟨o,its,n,hk,hc,hs,hz,r⟩
 . obtain⟨z,its,r,p⟩:=h.ok I.hok
   exact⟨its,r,p,z⟩
 . refine⟨its.toList,r,⟨o,I.kIn a o hk,hc,n,by simpa using hs⟩,?_⟩
   have e:=r.length
   simp only[Bo] at e
   omega
theorem Inv.list_inj(I:Inv X pins σ H s)(h:SqL X.K H a xs)(h':SqL X.K H a ys):xs=ys:=by
 obtain⟨its,r,⟨o,n,e,_,_,d⟩,_⟩:=I.list h
 obtain⟨its',r',⟨o',n',e',_,_,d'⟩,_⟩:=I.list h'
 rw[e] at e';cases e'
 rw[d] at d'
 injection d' with d1 _
 have:its=its':=by simpa using congrArg Array.toList d1
 subst this
 exact r.inj r'
theorem Inv.tuple_inj(I:Inv X pins σ H s)(h:SqT X.K H a xs)(h':SqT X.K H a ys):xs=ys:=by
 obtain⟨its,r,⟨o,e,_,n,d⟩,_⟩:=I.tuple h
 obtain⟨its',r',⟨o',e',_,n',d'⟩,_⟩:=I.tuple h'
 rw[e] at e';cases e'
 rw[d] at d'
 injection d' with d1 _
 have:its=its':=by simpa using congrArg Array.toList d1
 subst this
 exact r.inj r'
end
abbrev Cx.wish(X:Cx)(E:Value->Shared->Prop):Cx:={ X with xe:=E }
abbrev Cx.nox(X:Cx):Cx:=X.wish λ_ _=>False
theorem Cx.Ok.wish{X:Cx}(ok:X.Ok)(E:Value->Shared->Prop):(X.wish E).Ok:=
 ⟨ok.mod,ok.kind,ok.glob,ok.blt,ok.above,ok.inj,ok.has,ok.cab,ok.hd,ok.frames,ok.stk,ok.exf,ok.bs,ok.bsz,ok.noex,ok.exfs,ok.funs,ok.frf⟩
theorem Cx.Ok.unwish{X:Cx}{E:Value->Shared->Prop}(ok:(X.wish E).Ok):X.Ok:=
 ⟨ok.mod,ok.kind,ok.glob,ok.blt,ok.above,ok.inj,ok.has,ok.cab,ok.hd,ok.frames,ok.stk,ok.exf,ok.bs,ok.bsz,ok.noex,ok.exfs,ok.funs,ok.frf⟩
section
variable {X:Cx} {pins:List (Addr×Obj)} {σ:St} {H:Hp} {s:Shared} {E:Value->Shared->Prop}
theorem Inv.wish(I:Inv X pins σ H s)(E:Value->Shared->Prop):Inv (X.wish E) pins σ H s:=⟨I.ok.wish E,I.os,I.bare,I.base,I.loc,I.cell,I.free,I.freeC,I.pin,I.hok,I.len⟩
theorem Inv.unwish(I:Inv (X.wish E) pins σ H s):Inv X pins σ H s:=⟨I.ok.unwish,I.os,I.bare,I.base,I.loc,I.cell,I.free,I.freeC,I.pin,I.hok,I.len⟩
theorem SP.unwish{D:Ends}{f:Flow}{s':Shared}(h:SP (X.wish E) pins D f s'):SP X pins D f s':=by
 cases f with
 | next=>obtain⟨σ',H',I,q⟩:=h;exact⟨σ',H',I.unwish,q⟩
 | brk=>obtain⟨σ',H',I,q⟩:=h;exact⟨σ',H',I.unwish,q⟩
 | cont=>obtain⟨σ',H',I,q⟩:=h;exact⟨σ',H',I.unwish,q⟩
 | ret u=>obtain⟨v,σ',H',I,r,q⟩:=h;exact⟨v,σ',H',I.unwish,r,q⟩
theorem PSs.nox{st:List Stmt}{t:TS}(h:PSs X.nox st t):PSs X st t:=λpins s σ H D I hw=>
 Dh (h pins s σ H D (I.wish _) hw) (λ_ _ q=>q.unwish) λ_ _ z=>False.elim z
end
section
variable {X:Cx} {st:Stmt} {rest:List Stmt} {t u:TS} {e:Expr} {te:TE} {pos:Pos}
def aGM:TS:=λD σ H=>D.nx σ H
def aMP(t u:TS):TS:=λD σ H=>t { D with nx:=u D } σ H
theorem aFs:PSs X [] aGM:=λ_ _ σ H _ I h=>wpAny_execs_nil ⟨σ,H,I,h⟩
theorem aCW(h1:PS X st t)(h2:PSs X rest u):PSs X (st::rest) (aMP t u):=by
 intro pins s σ H D I h
 refine wpAny_execs_cons (thn (h1 pins s σ H { D with nx:=u D } I h) λf s1 q=>?_)
 cases f with
 | next=>
  obtain⟨σ',H',I',q⟩:=q
  exact h2 pins s1 σ' H' D I' q
 | ret v=>exact q
 | brk=>exact q
 | cont=>exact q
def aHA:TS:=λD σ H=>D.bk σ H
def aJU:TS:=λD σ H=>D.ct σ H
theorem aFt:PS X (.Pass pos) aGM:=λ_ _ σ H _ I h=>wpAny_Pass ⟨σ,H,I,h⟩
theorem aCX:PS X (.Break pos) aHA:=λ_ _ σ H _ I h=>wpAny_Break ⟨σ,H,I,h⟩
theorem wF:PS X (.Continue pos) aJU:=λ_ _ σ H _ I h=>wpAny_Continue ⟨σ,H,I,h⟩
theorem Inv.quiet{pins:List (Addr×Obj)}{σ:St}{H:Hp}{s:Shared}(I:Inv X pins σ H s):interactive X.env=false:=by simp[interactive,I.ok.kind]
def aJV(te:TE):TS:=λD σ H=>te σ H λ_ H1=>D.nx σ H1
theorem tZ(he:PE X e te)(hs:swapsWith e none pos.line X.env=pure false:=by rfl):PS X (.Expr e pos) (aJV te):=by
 intro pins s σ H D I h
 exact wpAny_Expr_any (thn (he pins s σ H _ I h) λv s1 ⟨x,H1,I1,r1,q1⟩=>⟨σ,H1,I1,q1⟩) I.quiet hs
def aMQ(te:TE):TS:=λD σ H=>te σ H D.rt
theorem aCY(he:PE X e te):PS X (.Return (some e) pos) (aMQ te):=by
 intro pins s σ H D I h
 exact wpAny_Return_some (thn (he pins s σ H _ I h) λv s1 ⟨x,H1,I1,r1,q1⟩=>⟨x,σ,H1,I1,r1,q1⟩)
def aJW:TS:=λD _ H=>D.rt .non H
theorem aFu:PS X (.Return none pos) aJW:=λ_ _ σ H _ I h=>wpAny_Return_none ⟨.non,σ,H,I,rfl,h⟩
def aMR(c:TT)(t u:TS):TS:=λD σ H=>c σ H λb H1=>if b=true then t D σ H1 else u D σ H1
theorem aJX{c:Expr}{a b:List Stmt}{tc:TT}(hc:PT X c tc)(ha:PSs X a t)(hb:PSs X b u):PS X (.If c a b pos) (aMR tc t u):=by
 intro pins s σ H D I h
 refine wpAny_If (thn (hc pins s σ H _ I h) λd s1 ⟨H1,I1,q1⟩=>?_)
 cases d with
 | true=>exact ha pins s1 σ H1 D I1 q1
 | false=>exact hb pins s1 σ H1 D I1 q1
def aHB:TS:=λ_ _ _=>False
theorem aCZ:PS X st aHB:=λ_ _ _ _ _ _ h=>h.elim
end
abbrev TG:=V->St->Hp->(St->Hp->Prop)->Prop
abbrev TGs:=List V->St->Hp->(St->Hp->Prop)->Prop
def PG(X:Cx)(target:Expr)(t:TG):Prop:=
 ∀(pins:List (Addr×Obj)) (s:Shared) (σ:St) (H:Hp) (v:V) (u:Value) (Q:St->Hp->Prop),Inv X pins σ H s->bR v u->t v σ H Q ->
  wpAny (model X.prog X.w) X.A (assign target X.env u) (λ_ s'=>∃σ' H',Inv X pins σ' H' s'/\Q σ' H') X.xe s
def PGs(X:Cx)(ts:List Expr)(t:TGs):Prop:=
 ∀(pins:List (Addr×Obj)) (s:Shared) (σ:St) (H:Hp) (vs:List V) (us:List Value) (Q:St->Hp->Prop),Inv X pins σ H s->aU vs us->t vs σ H Q ->
  wpAny (model X.prog X.w) X.A (assignInOrder ((assignEach ts X.env).map (·.2)) us) (λ_ s'=>∃σ' H',Inv X pins σ' H' s'/\Q σ' H') X.xe s
abbrev aHC:=V->V->V->Hp->(Hp->Prop)->Prop
def aJY(X:Cx)(t:aHC):Prop:=
 ∀(pins:List (Addr×Obj)) (s:Shared) (σ:St) (H:Hp) (o i v:V) (ov iv u:Value) (Q:Hp->Prop),Inv X pins σ H s->bR o ov->bR i iv->bR v u->t o i v H Q ->
  wpAny (model X.prog X.w) X.A (setItem ov iv u) (λ_ s'=>∃H',Inv X pins σ H' s'/\Q H') X.xe s
section
variable {X:Cx} {pos:Pos}
def sC(i:Nat):TG:=λv σ H Q=>Q (σ.set i (some v)) H
theorem aAJ{i:Nat}{x:Str}(hN:X.N.Nodup)(hi:X.N[i]? = some x)(hx:Loc X.env.scope x)(hf:X.fn x=true\/X.env.scope.names.lookup x=some .local:=by first|exact .inl rfl|exact .inr rfl|assumption):PG X (.Name x pos) (sC i):=by
 intro pins s σ H v u Q I r h
 exact wpAny_assign_Name (wD I hN hi hx r (λs' I'=>⟨_,H,I',h⟩) hf)
def aJZ:TGs:=λvs σ H Q=>vs=[]/\Q σ H
def aGN(t:TG)(u:TGs):TGs:=λvs σ H Q=>∃v r,vs=v::r/\t v σ H λσ' H'=>u r σ' H' Q
theorem aFv:PGs X [] aJZ:=by
 intro pins s σ H vs us Q I r h
 obtain⟨e,h⟩:=h
 subst e
 cases r
 exact assignInOrder_nil ⟨σ,H,I,h⟩
theorem aDa{e:Expr}{es:List Expr}{t:TG}{u:TGs}(h1:PG X e t)(h2:PGs X es u)
 (hs:(assignEach (e::es) X.env).map (·.2)=assign e X.env::(assignEach es X.env).map (·.2):=by rfl):PGs X (e::es) (aGN t u):=by
 intro pins s σ H vs us Q I r h
 obtain⟨v,vr,e1,h⟩:=h
 subst e1
 cases r with
 | cons r rr=>
  rw[hs]
  refine assignInOrder_cons (thn (h1 pins s σ H _ _ _ I r h) λ_ s1 ⟨σ1,H1,I1,q1⟩=>?_)
  exact h2 pins s1 σ1 H1 _ _ Q I1 rr q1
def aKa(K:PySem.W.Frag)(n:Nat)(t:TGs):TG:=λv σ H Q=>∃a xs,v=.ref a/\SqT K H a xs/\xs.length=n/\t xs σ H Q
theorem aHD{es:List Expr}{k:Nat}{t:TGs}{n:Nat}(hc:X.calm=true)(h:PGs X es t)
 (hn:(assignEach es X.env).length=n:=by rfl) (hst:(assignEach es X.env).findIdx? (·.1)=none:=by rfl):PG X (.Tuple es k pos) (aKa X.K n t):=by
 intro pins s σ H v u Q I r hw
 obtain⟨a,xs,e1,hq,hl,hw⟩:=hw
 subst e1
 cases r
 obtain⟨its,rv,ht,hz⟩:=I.tuple hq
 refine assign_Tuple_tuple (I.ok.hd hc) ht (by simp[hn,<-hl,rv.length]) hst λh' hx=>?_
 have I1:Inv X pins σ H { s with heap:=h' }:=I.kept (t':=s.toks) λb o e=>hx b o (Ao (Ah e)) e
 exact h pins _ σ H xs _ Q I1 (by simpa using rv) hw
def aMS(to ti:TE)(t:aHC):TG:=λv σ H Q=>to σ H λo H1=>ti σ H1 λi H2=>t o i v H2 λH3=>Q σ H3
theorem aHE{o i:Expr}{to ti:TE}{t:aHC}(ho:PE X o to)(hi:PE X i ti)(hs:aJY X t)
 (ha:∀v,assign (.Subscript o i pos) X.env v=(do
  let ov<-holding [v] (eval o X.env)
  let iv<-holding [v,ov] (eval i X.env)
  standAt pos
  holding [v,ov,iv] (setItem ov iv v)
  release [v,ov,iv] []):=by intro _;rfl):PG X (.Subscript o i pos) (aMS to ti t):=by
 intro pins s σ H v u Q I r h
 rw[ha]
 refine Aa (Bp (thn (ho pins s σ H _ I h) λov s1 ⟨x,H1,I1,r1,q1⟩=>?_))
 refine Aa (Bp (thn (hi pins s1 σ H1 _ I1 q1) λiv s2 ⟨y,H2,I2,r2,q2⟩=>?_))
 refine Aa (wpAny_standAt (Aa (Bp (thn (hs pins s2 σ H2 x y v ov iv u _ I2 r1 r2 r q2) λ_ s3 ⟨H3,I3,q3⟩=>?_))))
 exact wpAny_release ⟨σ,H3,I3,q3⟩
def aHF(te:TE)(g:TG):TS:=λD σ H=>te σ H λx H1=>g x σ H1 D.nx
theorem yY{tg e:Expr}{te:TE}{g:TG}(he:PE X e te)(hg:PG X tg g)(hs:swapsWithSole [tg] e pos.line X.env=pure false:=by rfl)(hw:swappedStores [tg] e X.env=pure none:=by rfl)
 (h1:(assignEach [tg] X.env).map (·.2)=[assign tg X.env]:=by rfl):PS X (.Assign [tg] e pos) (aHF te g):=by
 intro pins s σ H D I h
 refine wpAny_Assign_stores (thn (he pins s σ H _ I h) λv s1 ⟨x,H1,I1,r1,q1⟩=>?_) hs hw
 rw[h1]
 exact thn (hg pins s1 σ H1 x v _ I1 r1 q1) λ_ s2 q=>q
theorem yZ{i:Nat}{x:Str}{e:Expr}{te:TE}{pos':Pos}(hN:X.N.Nodup)(hi:X.N[i]? = some x)(hx:Loc X.env.scope x)(he:PE X e te)(hs:swapsWith e (some (.Name x pos')) pos.line X.env=pure false:=by rfl)(hf:X.fn x=true\/X.env.scope.names.lookup x=some .local:=by first|exact .inl rfl|exact .inr rfl|assumption) :
 PS X (.Assign [.Name x pos'] e pos) (aHF te (sC i)):=by
 intro pins s σ H D I h
 refine wpAny_Assign_Name (thn (he pins s σ H _ I h) λv s1 ⟨y,H1,I1,r1,q1⟩=>?_) hs
 exact wD I1 hN hi hx r1 (λs2 I2=>⟨_,H1,I2,q1⟩) hf
end
section
variable {X:Cx} {pos:Pos}
end
structure It where
 go:Nat->Hp->Prop
 yld:Nat->Hp->V->Hp->Prop
 stop:Nat->Hp->Prop
def lO(X:Cx)(pins:List (Addr×Obj))(H:Hp)(b:Addr):Prop:=
 H b=none/\b≠X.env.locals/\b∉X.fs/\(b∈X.ex\/X.s₀.heap.objs.size<=b)/\(∀x c,X.env.cells.lookup x=some c->c≠b)/\∀p∈X.pn++pins,p.1≠b
theorem Inv.fpOk{X:Cx}{pins:List (Addr×Obj)}{σ:St}{H H':Hp}{s:Shared}{b:Addr}(I:Inv X pins σ H s)(hb:s.heap.objs.size<=b)(hn:H' b=none):lO X pins H' b:=by
 refine⟨hn,Cg (Ar I.lt hb),I.nofs hb,.inr (A4 I.sz hb),λx c e z=>?_,λp hp z=>?_⟩
 . obtain⟨v,q⟩:=I.cell x c e
   exact absurd (Ar q.lt (by rw[z];exact hb)) (Bl _)
 . exact absurd (Ar (Ah (I.pin p hp).1) (by rw[z];exact hb)) (Bl _)
structure wG (P:Program) (w:World) (K:PySem.W.Frag) (tg:Expr) (J:It) (fp:List Addr) (it:Addr) (tn:Nat->Heap->Prop):Prop where
 mem:it∈fp
 obj:∀i h,tn i h->∀b∈fp,∃o,h.get? b=some o/\∀v,o.data≠.cell v
 keep:∀i h h',tn i h->(∀b∈fp,∀o,h.get? b=some o->h'.get? b=some o)->tn i h'
 item:∀(X:Cx),X.prog=P->X.w=w->X.K=K->X.calm=true->∀(i:Nat) (pins:List (Addr×Obj)) (s:Shared) (σ:St) (H:Hp) (E:Value->Shared->Prop),Inv X pins σ H s->(∀b∈fp,lO X pins H b)->tn i s.heap->J.go i H ->
  wpAny (model P w) X.A (pyNext (.ref it)) (λr s1=>∃u,r=some u /\
   wpAny (model P w) X.A (letOwnedTupleGo tg (.ref it) u) (λ_ s2=>∃x H',Inv X pins σ H' s2/\bR x u/\J.yld i H x H'/\tn (i+1) s2.heap/\∀b∈fp,H' b=none) E s1) E s
 done:∀(X:Cx),X.prog=P->X.w=w->X.K=K->X.calm=true->∀(i:Nat) (pins:List (Addr×Obj)) (s:Shared) (σ:St) (H:Hp) (E:Value->Shared->Prop),Inv X pins σ H s->(∀b∈fp,lO X pins H b)->tn i s.heap->J.stop i H ->
  wpAny (model P w) X.A (pyNext (.ref it)) (λr s1=>r=none/\Inv X pins σ H s1) E s
 self:∀(A:Around) (i:Nat) (s:Shared) (Q:Value->Shared->Prop) (E:Value->Shared->Prop),tn i s.heap->Q (.ref it) s->wpAny (model P w) A (pyIter (.ref it)) Q E s
abbrev TI:=St->Hp->(It->Hp->Prop)->Prop
def PIE(X:Cx)(pins:List (Addr×Obj))(σ:St)(tg:Expr)(R:It->Hp->Prop)(itv:Value)(s2:Shared):Prop:=
 ∃(it:Addr) (fp:List Addr) (tn:Nat->Heap->Prop) (J:It) (H':Hp),itv=.ref it/\Inv X pins σ H' s2/\wG X.prog X.w X.K tg J fp it tn/\tn 0 s2.heap/\(∀b∈fp,lO X pins H' b)/\R J H'
def PI(X:Cx)(tg iter:Expr)(wi:TI):Prop:=
 ∀(pins:List (Addr×Obj)) (s:Shared) (σ:St) (H:Hp) (R:It->Hp->Prop),Inv X pins σ H s->wi σ H R ->
  wpAny (model X.prog X.w) X.A (eval iter X.env) (λv s1=>wpAny (model X.prog X.w) X.A (pyIter v) (PIE X pins σ tg R) X.xe s1) X.xe s
theorem pJ{M:Model}{A:Around}{E:Value->Shared->Prop}{s:Shared}{tg:Expr}{it:Addr}{u:Value}{o:Obj}{n:String}{vs:Array Value}{Q:Unit->Shared->Prop}(ho:s.heap.get? it=some o)(hc:o.cls=.type n)(hd:o.data=.fields vs)
 (hn:["enumerate", "zip", "dict_itemiterator", "dict_reverseitemiterator", "odict_iterator", "itertools.zip_longest", "itertools.pairwise"].contains n=false) (hQ:Q () s):wpAny M A (letOwnedTupleGo tg (.ref it) u) Q E s:=by
 unfold letOwnedTupleGo
 cases tg <;> first
  | exact Ac hQ
  | (cases u <;> first
   | exact Ac hQ
   | (refine Aa (wpAny_load ho ?_)
      rw[hc,hd]
      show wpAny M A (if (["enumerate", "zip", "dict_itemiterator", "dict_reverseitemiterator", "odict_iterator", "itertools.zip_longest", "itertools.pairwise"].contains n&&vs[0]?==some (rawInt _))=true then _ else _) Q E s
      rw[if_neg (by intro h;rw[hn,Bool.false_and] at h;cases h)]
      exact Ac hQ))
def Itl(K:PySem.W.Frag)(a:Addr):It:=
 ⟨λi H=>∃xs x,SqL K H a xs/\xs[i]? = some x,λi H x H'=>H'=H/\∀xs,SqL K H a xs->xs[i]? = some x,λi H=>∃xs,SqL K H a xs/\xs.length<=i⟩
def Itt(K:PySem.W.Frag)(a:Addr):It:=
 ⟨λi H=>∃xs x,SqT K H a xs/\xs[i]? = some x,λi H x H'=>H'=H/\∀xs,SqT K H a xs->xs[i]? = some x,λi H=>∃xs,SqT K H a xs/\xs.length<=i⟩
def Itr(lo:Int)(n:Nat):It:=⟨λi _=>i<n,λi H x H'=>H'=H/\x=.int (lo+i),λi _=>n<=i⟩
theorem aBH{P:Program}{w:World}{K:PySem.W.Frag}{tg:Expr}(a it:Addr):wG P w K tg (Itl K a) [it] it (λi h=>h.IsListIter it a i) where
 mem:=by simp
 obj:=λi h st b hb=>by
  have e:b=it:=by simpa using hb
  subst e
  obtain⟨o,e,c,d⟩:=st
  exact⟨o,e,λv z=>by rw[d] at z;cases z⟩
 keep:=λi h h' st k=>st.at λo e=>k it (by simp) o e
 item:=by
  intro X hP hw hK hc i pins s σ H E I hf st hg
  subst hP hw hK
  obtain⟨xs,x,hq,hx⟩:=hg
  obtain⟨its,rv,p,hz⟩:=I.list hq
  obtain⟨u,hu,ru⟩:=rv.get hx
  obtain⟨f0,f1,f2,f3,f4,f5⟩:=hf it (by simp)
  refine wpAny_pyNext_list_item st p.isList (x:=u) (by simpa using hu) λh' st' sb=>?_
  have I1:Inv X pins σ H { s with heap:=h' }:=I.turned (t':=s.toks) (λb o hb e=>(sb.2 b hb).trans e) f0 f1 f3 f4 f5
  obtain⟨o,e,c,d⟩:=id st'
  exact⟨u,rfl,pJ (s:={ s with heap:=h' }) e c d (by decide) ⟨x,H,I1,ru,⟨rfl,λys hy=>by rw[I.list_inj hy hq];exact hx⟩,st',λb hb=>(hf b hb).1⟩⟩
 done:=by
  intro X hP hw hK hc i pins s σ H E I hf st hg
  subst hP hw hK
  obtain⟨xs,hq,hx⟩:=hg
  obtain⟨its,rv,p,hz⟩:=I.list hq
  obtain⟨f0,f1,f2,f3,f4,f5⟩:=hf it (by simp)
  have hl:=rv.length
  exact wpAny_pyNext_list_end (I.ok.hd hc) st p.isList (by simp;omega) λh' eb=>⟨rfl,I.turned (t':=s.toks) (λb o hb e=>eb b o hb e) f0 f1 f3 f4 f5⟩
 self:=λ_ _ _ _ _ st h=>wpAny_pyIter_listiter st h
theorem zA{P:Program}{w:World}{K:PySem.W.Frag}{tg:Expr}(a it:Addr):wG P w K tg (Itt K a) [it] it (λi h=>h.IsTupleIter it a i) where
 mem:=by simp
 obj:=λi h st b hb=>by
  have e:b=it:=by simpa using hb
  subst e
  obtain⟨o,e,c,d⟩:=st
  exact⟨o,e,λv z=>by rw[d] at z;cases z⟩
 keep:=λi h h' st k=>st.at λo e=>k it (by simp) o e
 item:=by
  intro X hP hw hK hc i pins s σ H E I hf st hg
  subst hP hw hK
  obtain⟨xs,x,hq,hx⟩:=hg
  obtain⟨its,rv,p,hz⟩:=I.tuple hq
  obtain⟨u,hu,ru⟩:=rv.get hx
  obtain⟨f0,f1,f2,f3,f4,f5⟩:=hf it (by simp)
  refine wpAny_pyNext_tuple_item st (show s.heap.IsTuple a its.toArray from p) (x:=u) (by simpa using hu) λh' st' sb=>?_
  have I1:Inv X pins σ H { s with heap:=h' }:=I.turned (t':=s.toks) (λb o hb e=>(sb.2 b hb).trans e) f0 f1 f3 f4 f5
  obtain⟨o,e,c,d⟩:=id st'
  exact⟨u,rfl,pJ (s:={ s with heap:=h' }) e c d (by decide) ⟨x,H,I1,ru,⟨rfl,λys hy=>by rw[I.tuple_inj hy hq];exact hx⟩,st',λb hb=>(hf b hb).1⟩⟩
 done:=by
  intro X hP hw hK hc i pins s σ H E I hf st hg
  subst hP hw hK
  obtain⟨xs,hq,hx⟩:=hg
  obtain⟨its,rv,p,hz⟩:=I.tuple hq
  obtain⟨f0,f1,f2,f3,f4,f5⟩:=hf it (by simp)
  have hl:=rv.length
  exact wpAny_pyNext_tuple_end (I.ok.hd hc) st (show s.heap.IsTuple a its.toArray from p) (by simp;omega) λh' eb=>⟨rfl,I.turned (t':=s.toks) (λb o hb e=>eb b o hb e) f0 f1 f3 f4 f5⟩
 self:=λ_ _ _ _ _ st h=>wpAny_pyIter_tupleiter st h
theorem zB{P:Program}{w:World}{K:PySem.W.Frag}{tg:Expr}(it:Addr)(lo:Int)(n:Nat):wG P w K tg (Itr lo n) [it] it (λi h=>IsRangeIter h it (lo+(i:Nat)*1) ((n:Int)-(i:Nat)) 1) where
 mem:=by simp
 obj:=λi h st b hb=>by
  have e:b=it:=by simpa using hb
  subst e
  exact⟨_,st,λv z=>by
   have z':Data.fields _=Data.cell v:=z
   cases z'⟩
 keep:=λi h h' st k=>k it (by simp) _ st
 item:=by
  intro X hP hw hK hc i pins s σ H E I hf st hg
  subst hP hw hK
  obtain⟨f0,f1,f2,f3,f4,f5⟩:=hf it (by simp)
  have W:=Walks.range (prog:=X.prog) (w:=X.w) (I.ok.hd hc) it lo 1 n
  refine W.item i s _ _ hg st λv h' tk hv st' kk=>?_
  obtain⟨t,rfl⟩:=hv
  have I1:Inv X pins σ H { s with heap:=h',toks:=tk }:=I.turned (λb o hb e=>kk b o (by simpa using hb) e) f0 f1 f3 f4 f5
  refine⟨_,rfl,pJ (s:={ s with heap:=h',toks:=tk }) (n:= "range_iterator") st' rfl rfl (by decide) ⟨.int (lo+i),H,I1,⟨t,?_⟩,⟨rfl,rfl⟩,st',λb hb=>(hf b hb).1⟩⟩
  rw[Int.mul_one]
 done:=by
  intro X hP hw hK hc i pins s σ H E I hf st hg
  subst hP hw hK
  obtain⟨f0,f1,f2,f3,f4,f5⟩:=hf it (by simp)
  exact wpAny_pyNext_range_end (I.ok.hd hc) st (by have:n<=i:=hg;omega) λh' eb=>⟨rfl,I.turned (t':=s.toks) (λb o hb e=>eb b o hb e) f0 f1 f3 f4 f5⟩
 self:=λ_ _ _ _ _ st h=>wpAny_pyIter_rangeiter st h
end L2
namespace L2
open PySem PySem.Spec PyProof.Rows
section
variable {X:Cx} {tg:Expr}
theorem wH{pins:List (Addr×Obj)}{σ:St}{H:Hp}{s:Shared}{R:It->Hp->Prop}{E:Value->Shared->Prop}{lo hi:Int}{t u v:Tok}{tk:Nat}(I:Inv X pins σ H s)(h1:-(2 ^ 62)<=lo)(h2:lo<2 ^ 62)(h3:-(2 ^ 62)<=hi)(h4:hi<2 ^ 62)
 (q:R (Itr lo (hi-lo).toNat) H):wpAny (model X.prog X.w) X.A (pyIter (.ref s.heap.objs.size)) (PIE X pins σ tg R) E { s with heap:=s.heap.push { cls:=.type "range",data:=.fields #[.int lo t,.int hi u,.int 1 v] },toks:=tk }:=by
 refine wpAny_pyIter_range (IsRange.new ..) (small_one h1 h2 h3 h4) ?_
 have I1:Inv X pins σ H { s with heap:=s.heap.push { cls:=.type "range",data:=.fields #[.int lo t,.int hi u,.int 1 v] },toks:=tk }:=I.kept λb o e=>Ab _ e
 refine⟨(s.heap.push { cls:=.type "range",data:=.fields #[.int lo t,.int hi u,.int 1 v] }).objs.size,[(s.heap.push { cls:=.type "range",data:=.fields #[.int lo t,.int hi u,.int 1 v] }).objs.size],_,_,H,rfl,
  I1.kept (t':=tk) λb o e=>Ab _ e,zB _ lo (hi-lo).toNat,?_,λb hb=>?_,q⟩
 . have e1:lo+((0:Nat):Int)*1=lo:=by simp
   have e2:(((hi-lo).toNat:Nat):Int)-((0:Nat):Int)=Builtin.Range.rangeSize lo hi 1:=by rw[rangeSize_one];split <;> omega
   show IsRangeIter _ _ (lo+((0:Nat):Int)*1) ((((hi-lo).toNat:Nat):Int)-((0:Nat):Int)) 1
   rw[e1,e2]
   exact Ai _ rfl
 . have e:b=(s.heap.push { cls:=.type "range",data:=.fields #[.int lo t,.int hi u,.int 1 v] }).objs.size:=by simpa using hb
   subst e
   exact I1.fpOk (Aj _) (I1.hok.fresh (Aj _))
def aKb(ta:TA):TI:=λσ H R=>ta σ H λvs H1=>∃j:Int,vs=[.int j]/\-(2 ^ 62)<=j/\j<2 ^ 62/\R (Itr 0 j.toNat) H1
def aKc(ta:TA):TI:=λσ H R=>ta σ H λvs H1=>∃i j:Int,vs=[.int i,.int j]/\(-(2 ^ 62)<=i/\i<2 ^ 62/\-(2 ^ 62)<=j/\j<2 ^ 62)/\R (Itr i (j-i).toNat) H1
theorem aBI{a:Expr}{ta:TA}{p pos:Pos}(hg:Gl X "range")(hm:X.mg "range" = none)(ha:PA X [a] ta)(hs:starEach [a] X.env=[(false,eval a X.env)]:=by rfl):PI X tg (.Call (.Name "range" p) [a] [] pos) (aKb ta):=by
 intro pins s σ H R I h
 refine Call_ (fL I hg hm boot_range (Bw (thn (ha pos pins s σ H _ I h) λus s1 ⟨vs,H1,I1,r1,q1⟩=>?_) hs rfl))
 obtain⟨j,e,q1,q2,q⟩:=q1
 subst e
 cases r1 with
 | cons r rr=>
  cases rr
  obtain⟨t,rfl⟩:=r
  exact call_range_1 (wH I1 (by omega) (by omega) q1 q2 (by simpa using q))
theorem aBJ{a b:Expr}{ta:TA}{p pos:Pos}(hg:Gl X "range")(hm:X.mg "range" = none)(ha:PA X [a,b] ta)(hs:starEach [a,b] X.env=[(false,eval a X.env),(false,eval b X.env)]:=by rfl)(hs2:starEach [b] X.env=[(false,eval b X.env)]:=by rfl) :
 PI X tg (.Call (.Name "range" p) [a,b] [] pos) (aKc ta):=by
 intro pins s σ H R I h
 refine Call_ (fL I hg hm boot_range (Bw (thn (ha pos pins s σ H _ I h) λus s1 ⟨vs,H1,I1,r1,q1⟩=>?_) (by rw[hs,hs2]) (by rw[hs2];rfl)))
 obtain⟨i,j,e,⟨q1,q2,q3,q4⟩,q⟩:=q1
 subst e
 cases r1 with
 | cons r rr=>
  cases rr with
  | cons r' rr=>
   cases rr
   obtain⟨t,rfl⟩:=r
   obtain⟨t',rfl⟩:=r'
   exact call_range_2 (wH I1 q1 q2 q3 q4 q)
def aMT(wi:TI)(g:TG)(tb:TS):TS:=λD σ H=>wi σ H λJ H1=>∃W:Nat->Nat->St->Hp->Prop,(∃m,W 0 m σ H1)/\∀i m σ H,W i m σ H ->
 (J.stop i H/\D.nx σ H)\/(J.go i H/\∃N:St->Hp->Prop,(∀σ' H',N σ' H'->∃m',m'<m/\W (i+1) m' σ' H')/\∀x H',J.yld i H x H'->g x σ H' λσ2 H2=>tb { D with nx:=N,ct:=N,bk:=D.nx } σ2 H2)
def pK(fp:List Addr)(h:Heap):List (Addr×Obj):=fp.filterMap λb=>(h.get? b).map λo=>(b,o)
theorem iH{fp:List Addr}{h:Heap}{b:Addr}{o:Obj}(hb:b∈fp)(e:h.get? b=some o):(b,o)∈pK fp h:=Di.mpr ⟨b,hb,by rw[e];rfl⟩
theorem aBK{fp:List Addr}{h:Heap}{p:Addr×Obj}(hp:p∈pK fp h):p.1∈fp/\h.get? p.1=some p.2:=by
 obtain⟨b,hb,e⟩:=Di.mp hp
 cases q:h.get? b with
 | none=>rw[q] at e;cases e
 | some o=>
  rw[q] at e
  have e':(b,o)=p:=Ak e
  subst e'
  exact⟨hb,q⟩
theorem Inv.pinned{pins:List (Addr×Obj)}{σ:St}{H:Hp}{s:Shared}{fp:List Addr}(I:Inv X pins σ H s)(hf:∀b∈fp,lO X pins H b)(ho:∀b∈fp,∃o,s.heap.get? b=some o/\∀v,o.data≠.cell v):Inv X (pins++pK fp s.heap) σ H s:=
 I.pins_of λp hp=>(Bs.mp hp).elim (λz=>I.pin p (Aq _ z)) λz=>by
  obtain⟨hb,e⟩:=aBK z
  obtain⟨f0,f1,f2,_⟩:=hf p.1 hb
  obtain⟨o,e',d⟩:=ho p.1 hb
  rw[e] at e';cases e'
  exact⟨e,f0,f1,f2,d⟩
theorem Inv.unpinned{pins pl:List (Addr×Obj)}{σ:St}{H:Hp}{s:Shared}(I:Inv X (pins++pl) σ H s):Inv X pins σ H s:=I.pins_of λp hp=>I.pin p (Aq _ (Bg _ hp))
theorem aHG{iter:Expr}{body:List Stmt}{wi:TI}{g:TG}{tb:TS}{pos:Pos}(hp:PassesOwn (model X.prog X.w) X.A X.env X.xe)(hc:X.calm=true)(hi:PI X tg iter wi)(hg:PG X tg g)(hb:PSs X body tb)
 (hs:∀x,foldedSetIterable iter X.env x=pure x:=by intro _;rfl):PS X (.For tg iter body [] pos) (aMT wi g tb):=by
 intro pins s σ H D I h
 refine wpAny_For (thn (hi pins s σ H _ I h) λv s1 h1=>thn h1 λitv s2 h2=>?_) hs
 obtain⟨it,fp,tn,J,H2,e,I2,T,st2,f2,W,⟨m0,w0⟩,turn⟩:=h2
 subst e
 have stat:∀{H':Hp},(∀b∈fp,H' b=none)->∀b∈fp,lO X pins H' b:=λhn b hb=>⟨hn b hb,(f2 b hb).2⟩
 refine codeAny_forLoop_any (λn s'=>∃i σ' H',Inv X pins σ' H' s'/\tn i s'.heap/\(∀b∈fp,H' b=none)/\W i n σ' H') ?_ m0 ⟨0,σ,H2,I2,st2,λb hb=>(f2 b hb).1,w0⟩
 rintro n s3 ⟨i,σ3,H3,I3,st3,fr3,w3⟩
 rcases turn i n σ3 H3 w3 with⟨stop,qn⟩|⟨go,N,hN,step⟩
 . refine D2 hp (thn (T.done X rfl rfl rfl hc i pins s3 σ3 H3 X.xe I3 (stat fr3) st3 stop) λr s4 ⟨hr,I4⟩=>?_)
   subst hr
   exact wpAny_execs_nil ⟨σ3,H3,I4,qn⟩
 . refine D2 hp (thn (T.item X rfl rfl rfl hc i pins s3 σ3 H3 X.xe I3 (stat fr3) st3 go) λr s4 ⟨u,hr,h4⟩=>?_)
   subst hr
   refine D2 hp (thn h4 λ_ s5 ⟨x,H5,I5,r5,y5,st5,fr5⟩=>?_)
   have I5':=I5.pinned (stat fr5) (T.obj _ _ st5)
   refine D2 hp (thn (hg _ s5 σ3 H5 x u _ I5' r5 (step x H5 y5)) λ_ s6 ⟨σ6,H6,I6,q6⟩=>?_)
   refine D2 hp (thn (hb _ s6 σ6 H6 _ I6 q6) λf s7 q7=>?_)
   have again:∀{σ7:St} {H7:Hp},Inv X (pins++pK fp s5.heap) σ7 H7 s7->N σ7 H7->∃m,m<n/\∃i σ' H',Inv X pins σ' H' s7/\tn i s7.heap/\(∀b∈fp,H' b=none)/\W i m σ' H':=λ{σ7 H7} I7 n7=>by
    obtain⟨m',hm,w7⟩:=hN σ7 H7 n7
    refine⟨m',hm,i+1,σ7,H7,I7.unpinned,T.keep _ _ _ st5 λb hb o e=>(I7.pin (b,o) (Aq _ (Aq _ (iH hb e)))).1,λb hb=>?_,w7⟩
    obtain⟨o,e,d⟩:=T.obj _ _ st5 b hb
    exact(I7.pin (b,o) (Aq _ (Aq _ (iH hb e)))).2.1
   cases f with
   | next=>obtain⟨σ7,H7,I7,n7⟩:=q7;exact again I7 n7
   | cont=>obtain⟨σ7,H7,I7,n7⟩:=q7;exact again I7 n7
   | brk=>obtain⟨σ7,H7,I7,q7⟩:=q7;exact⟨σ7,H7,I7.unpinned,q7⟩
   | ret v=>obtain⟨x7,σ7,H7,I7,r7,q7⟩:=q7;exact⟨x7,σ7,H7,I7.unpinned,r7,q7⟩
end
end L2
namespace L2
open PySem PySem.Spec PyProof.Rows
abbrev R2:=V->V->Hp->VK->Prop
def OpR(X:Cx)(f:Value->Value->Sem Value)(r:R2):Prop:=
 ∀(pins:List (Addr×Obj)) (s:Shared) (σ:St) (H:Hp) (x y:V) (v u:Value) (Q:VK),Inv X pins σ H s->bR x v->bR y u->r x y H Q ->
  wpAny (model X.prog X.w) X.A (f v u) (EP X pins σ Q) X.xe s
def UnR(X:Cx)(f:Value->Sem Value)(r:V->Hp->VK->Prop):Prop:=
 ∀(pins:List (Addr×Obj)) (s:Shared) (σ:St) (H:Hp) (x:V) (v:Value) (Q:VK),Inv X pins σ H s->bR x v->r x H Q ->
  wpAny (model X.prog X.w) X.A (f v) (EP X pins σ Q) X.xe s
def gA(X:Cx)(f:Value)(r:List V->Hp->VK->Prop):Prop:=
 ∀(pins:List (Addr×Obj)) (s:Shared) (σ:St) (H:Hp) (xs:List V) (us:List Value) (Q:VK),Inv X pins σ H s->aU xs us->r xs H Q ->
  wpAny (model X.prog X.w) X.A (call f us) (EP X pins σ Q) X.xe s
def aMU(X:Cx)(r:V->Hp->(Bool->Hp->Prop)->Prop):Prop:=
 ∀(pins:List (Addr×Obj)) (s:Shared) (σ:St) (H:Hp) (x:V) (v:Value) (Q:Bool->Hp->Prop),Inv X pins σ H s->bR x v->r x H Q ->
  wpAny (model X.prog X.w) X.A (truthy v) (TP X pins σ Q) X.xe s
def tOp(r:R2)(ta tb:TE):TE:=λσ H Q=>ta σ H λx H1=>tb σ H1 λy H2=>r x y H2 Q
def tUn(r:V->Hp->VK->Prop)(ta:TE):TE:=λσ H Q=>ta σ H λx H1=>r x H1 Q
def rI(C:Int->Int->Prop)(g:Int->Int->V):R2:=λx y H Q=>∃i j,x=.int i/\y=.int j/\C i j/\Q (g i j) H
def rI0(g:Int->Int->V):R2:=λx y H Q=>∃i j,x=.int i/\y=.int j/\Q (g i j) H
def rU(g:Int->V):V->Hp->VK->Prop:=λx H Q=>∃i,x=.int i/\Q (g i) H
section
variable {X:Cx} {a b c:Expr} {ta tb tc:TE} {pos:Pos}
theorem aKd(ha:PE X a ta)(hb:PE X b tb){pins:List (Addr×Obj)}{s:Shared}{σ:St}{H:Hp}{R:V->V->Hp->Prop}(I:Inv X pins σ H s)
 (h:ta σ H λx H1=>tb σ H1 λy H2=>R x y H2) {Q:Value->Shared->Prop} {f:Value->Value->Sem Value}
 (hf:∀v u s2 x y H2,Inv X pins σ H2 s2->bR x v->bR y u->R x y H2->wpAny (model X.prog X.w) X.A (f v u) Q X.xe s2) :
 wpAny (model X.prog X.w) X.A (eval a X.env) (λv s₁=>wpAny (model X.prog X.w) X.A (eval b X.env) (λu s₂=>wpAny (model X.prog X.w) X.A (f v u) Q X.xe s₂) X.xe s₁) X.xe s:=by
 refine thn (ha pins s σ H _ I h) λv s1 ⟨x,H1,I1,r1,q1⟩=>?_
 refine thn (hb pins s1 σ H1 _ I1 q1) λu s2 ⟨y,H2,I2,r2,q2⟩=>?_
 exact hf v u s2 x y H2 I2 r1 r2 q2
theorem aKe{op:UnaryOp}{r:V->Hp->VK->Prop}(ho:UnR X (unaryOp op) r)(ha:PE X a ta):PE X (.UnaryOp op a pos) (tUn r ta):=by
 intro pins s σ H Q I h
 exact UnaryOp_ (thn (ha pins s σ H _ I h) λv s1 ⟨x,H1,I1,r1,q1⟩=>ho pins s1 σ H1 x v Q I1 r1 q1)
theorem opI{f:Value->Value->Sem Value}{C:Int->Int->Prop}{g:Int->Int->Int}
 (rule:∀(i j:Int) (t u:Tok) (s:Shared) (Q:Value->Shared->Prop) (E:Value->Shared->Prop),C i j->Q (.int (g i j) s.toks) { s with toks:=s.toks+1 }->wpAny (model X.prog X.w) X.A (f (.int i t) (.int j u)) Q E s) :
 OpR X f (rI C λi j=>.int (g i j)):=by
 intro pins s σ H x y v u Q I rx ry h
 obtain⟨i,j,rfl,rfl,hc,q⟩:=h
 obtain⟨t,rfl⟩:=rx
 obtain⟨t',rfl⟩:=ry
 exact rule i j t t' s _ _ hc ⟨.int (g i j),H,I.tok _,⟨_,rfl⟩,q⟩
theorem aKf{f:Value->Value->Sem Value}{g:Int->Int->Int}
 (rule:∀(i j:Int) (t u:Tok) (s:Shared) (Q:Value->Shared->Prop) (E:Value->Shared->Prop),Q (.int (g i j) s.toks) { s with toks:=s.toks+1 }->wpAny (model X.prog X.w) X.A (f (.int i t) (.int j u)) Q E s) :
 OpR X f (rI0 λi j=>.int (g i j)):=by
 intro pins s σ H x y v u Q I rx ry h
 obtain⟨i,j,rfl,rfl,q⟩:=h
 obtain⟨t,rfl⟩:=rx
 obtain⟨t',rfl⟩:=ry
 exact rule i j t t' s _ _ ⟨.int (g i j),H,I.tok _,⟨_,rfl⟩,q⟩
theorem aFw{f:Value->Value->Sem Value}{g:Int->Int->Bool}
 (rule:∀(i j:Int) (t u:Tok) (s:Shared) (Q:Value->Shared->Prop) (E:Value->Shared->Prop),Q (.bool (g i j)) s->wpAny (model X.prog X.w) X.A (f (.int i t) (.int j u)) Q E s) :
 OpR X f (rI0 λi j=>.bl (g i j)):=by
 intro pins s σ H x y v u Q I rx ry h
 obtain⟨i,j,rfl,rfl,q⟩:=h
 obtain⟨t,rfl⟩:=rx
 obtain⟨t',rfl⟩:=ry
 exact rule i j t t' s _ _ ⟨.bl (g i j),H,I,rfl,q⟩
def aMV(i j:Int):Prop:=0<j/\j<1073741824
def aMW(i j:Int):Prop:=0<=j/\j<=1000000/\i.natAbs<2 ^ 64
def aHH(i j:Int):Prop:=(-(2 ^ 64)<i/\i<2 ^ 64)\/(-(2 ^ 64)<j/\j<2 ^ 64)
theorem aHH.ok{i j:Int}(h:aHH i j):IntMulOk i j:=by
 rcases h with⟨h1,h2⟩|⟨h1,h2⟩
 . exact .of_left (intBits_le_64 h1 h2)
 . exact .of_right (intBits_le_64 h1 h2)
theorem aHI:OpR X (binaryOp .Add) (rI0 λi j=>.int (i+j)):=aKf λ_ _ _ _ _ _ _ q=>add_int q
theorem aHJ:OpR X (binaryOp .Sub) (rI0 λi j=>.int (i-j)):=aKf λ_ _ _ _ _ _ _ q=>sub_int q
theorem aHK:OpR X (binaryOp .Mult) (rI aHH λi j=>.int (i*j)):=opI λ_ _ _ _ _ _ _ hc q=>mul_int q hc.ok
theorem aFx:OpR X (binaryOp .FloorDiv) (rI aMV λi j=>.int (i / j)):=opI λi j _ _ _ _ _ hc q=>by
 have h1:(0:Int)<j:=hc.1
 have h2:j<1073741824:=hc.2
 exact floordiv_int (by omega) (by rw[Int.fdiv_eq_ediv_of_nonneg i (by omega)];exact q) (.inl (PyProof.noPylong_small (by omega)))
theorem aHL:OpR X (binaryOp .Mod) (rI (λ_ j=>0<j) λi j=>.int (i % j)):=opI λi j _ _ _ _ _ hc q=>by
 have h1:(0:Int)<j:=hc
 exact mod_int' (by omega) (by rw[Int.fmod_eq_emod_of_nonneg i (by omega)];exact q)
theorem aHM:OpR X (binaryOp .Pow) (rI aMW λi j=>.int (i ^ j.toNat)):=opI λ_ _ _ _ _ _ _ hc q=>pow_int_small hc.1 hc.2.1 hc.2.2 q
theorem unI{f:Value->Sem Value}{g:Int->Int}
 (rule:∀(i:Int) (t:Tok) (s:Shared) (Q:Value->Shared->Prop) (E:Value->Shared->Prop),Q (.int (g i) s.toks) { s with toks:=s.toks+1 }->wpAny (model X.prog X.w) X.A (f (.int i t)) Q E s) :
 UnR X f (rU λi=>.int (g i)):=by
 intro pins s σ H x v Q I rx h
 obtain⟨i,rfl,q⟩:=h
 obtain⟨t,rfl⟩:=rx
 exact rule i t s _ _ ⟨.int (g i),H,I.tok _,⟨_,rfl⟩,q⟩
theorem aHN:UnR X (unaryOp .USub) (rU λi=>.int (-i)):=unI λ_ _ _ _ _ q=>neg_int q
end
section
variable {X:Cx} {a b c:Expr} {ta tb tc:TE} {pos:Pos}
theorem zC{pins:List (Addr×Obj)}{σ:St}{H:Hp}{s:Shared}{Q:VK}{k k':Bool}(I:Inv X pins σ H s)(q:Q (.bl k) H)(e:k=k'):EP X pins σ Q (.bool k') s:=by
 subst e
 exact⟨.bl k,H,I,rfl,q⟩
theorem aKg:OpR X (compareOp .Lt) (rI0 λi j=>.bl (decide (i<j))):=aFw λ_ _ _ _ _ _ _ q=>lt_int q
theorem aKh:OpR X (compareOp .LtE) (rI0 λi j=>.bl (decide (i<=j))):=aFw λ_ _ _ _ _ _ _ q=>le_int q
theorem aKi:OpR X (compareOp .Gt) (rI0 λi j=>.bl (decide (j<i))):=aFw λ_ _ _ _ _ _ _ q=>gt_int q
theorem aKj:OpR X (compareOp .GtE) (rI0 λi j=>.bl (decide (j<=i))):=aFw λ_ _ _ _ _ _ _ q=>ge_int q
theorem aBL:OpR X (compareOp .In) (λx y H Q=>∃i j,x=.str i/\y=.str j/\Q (.bl (!(Builtin.Str.occurrences j i 0 j.length 1).isEmpty)) H):=by
 intro pins s σ H x y v u Q I rx ry h
 obtain⟨i,j,rfl,rfl,q⟩:=h
 obtain⟨t,rfl⟩:=rx
 obtain⟨t',rfl⟩:=ry
 exact in_str (zC I q rfl)
theorem aHO:OpR X (compareOp .Is) (λx y H Q=>y=.non/\Q (.bl (decide (x=.non))) H):=by
 intro pins s σ H x y v u Q I rx ry h
 obtain⟨rfl,q⟩:=h
 cases ry
 refine is_none_gen (zC I q ?_)
 cases x <;> first
  | (cases rx;rfl)
  | (obtain⟨t,rfl⟩:=rx;rfl)
theorem aFy:OpR X (compareOp .IsNot) (λx y H Q=>y=.non/\Q (.bl (!decide (x=.non))) H):=by
 intro pins s σ H x y v u Q I rx ry h
 obtain⟨rfl,q⟩:=h
 cases ry
 refine isnot_none_gen (zC I q ?_)
 cases x <;> first
  | (cases rx;rfl)
  | (obtain⟨t,rfl⟩:=rx;rfl)
theorem aFz{op:CmpOp}{r:R2}(ho:OpR X (compareOp op) r)(ha:PE X a ta)(hb:PE X b tb)(hm:behindInMarks op b=false):PE X (.Compare a [op] [b] pos) (tOp r ta tb):=by
 intro pins s σ H Q I h
 exact wpAny_Compare1 (aKd ha hb I h λv u s2 x y H2 I2 rx ry q=>ho pins s2 σ H2 x y v u Q I2 rx ry q) hm
def aGO(t:TE):TT:=λσ H Q=>t σ H λx H'=>∃k,x=.bl k/\Q k H'
theorem aFA{op:CmpOp}{r:R2}(ho:OpR X (compareOp op) r)(ha:PE X a ta)(hb:PE X b tb)(hm:behindInMarks op b=false):PT X (.Compare a [op] [b] pos) (aGO (tOp r ta tb)):=by
 intro pins s σ H Q I h
 refine wpAny_isTrue_Compare1 (thn (ha pins s σ H _ I h) λv s1 ⟨x,H1,I1,r1,q1⟩=>thn (hb pins s1 σ H1 _ I1 q1) λu s2 ⟨y,H2,I2,r2,q2⟩=>
  thn (ho pins s2 σ H2 x y v u _ I2 r1 r2 q2) λc s3 ⟨z,H3,I3,r3,k,e,q3⟩=>?_) hm
 subst e
 cases r3
 exact Cb ⟨H3,I3,q3⟩
def aDb(r r':R2)(ta tb tc:TE):TE:=λσ H Q=>ta σ H λx H1=>tb σ H1 λy H2=>r x y H2 λz H3=>∃k,z=.bl k /\
 (if k=true then tc σ H3 λw' H4=>r' y w' H4 Q else Q (.bl false) H3)
theorem aDc{op op':CmpOp}{r r':R2}(ho:OpR X (compareOp op) r)(ho':OpR X (compareOp op') r')(ha:PE X a ta)(hb:PE X b tb)(hc:PE X c tc)
 (hm:lastMarks [op,op'] [b,c]=false:=by with_unfolding_all rfl):PE X (.Compare a [op,op'] [b,c] pos) (aDb r r' ta tb tc):=by
 intro pins s σ H Q I h
 refine Compare_chain (thn (ha pins s σ H _ I h) λv s1 ⟨x,H1,I1,r1,q1⟩=>chain_link (thn (hb pins s1 σ H1 _ I1 q1) λu s2 ⟨y,H2,I2,r2,q2⟩=>
  thn (ho pins s2 σ H2 x y v u _ I2 r1 r2 q2) λd s3 ⟨z,H3,I3,r3,k,e,q3⟩=>?_)) hm
 subst e
 cases r3
 refine Cb ?_
 cases k with
 | false=>exact ite_ff ⟨.bl false,H3,I3,rfl,q3⟩
 | true=>exact ite_tt (chain_last (thn (hc pins s3 σ H3 _ I3 q3) λw' s4 ⟨z',H4,I4,r4,q4⟩=>ho' pins s4 σ H4 y z' u w' Q I4 r2 r4 q4))
theorem aDd{op op':CmpOp}{r r':R2}(ho:OpR X (compareOp op) r)(ho':OpR X (compareOp op') r')(ha:PE X a ta)(hb:PE X b tb)(hc:PE X c tc)
 (hm:lastMarks [op,op'] [b,c]=false:=by with_unfolding_all rfl):PT X (.Compare a [op,op'] [b,c] pos) (aGO (aDb r r' ta tb tc)):=by
 intro pins s σ H Q I h
 refine isTrue_chain (thn (ha pins s σ H _ I h) λv s1 ⟨x,H1,I1,r1,q1⟩=>test_link (thn (hb pins s1 σ H1 _ I1 q1) λu s2 ⟨y,H2,I2,r2,q2⟩=>
  thn (ho pins s2 σ H2 x y v u _ I2 r1 r2 q2) λd s3 ⟨z,H3,I3,r3,k,e,q3⟩=>?_)) hm
 subst e
 cases r3
 refine Cb ?_
 cases k with
 | false=>
  obtain⟨k',e',q'⟩:=q3
  cases e'
  exact ite_ff ⟨H3,I3,q'⟩
 | true=>
  refine ite_tt (test_last (thn (hc pins s3 σ H3 _ I3 q3) λw' s4 ⟨z',H4,I4,r4,q4⟩=>thn (ho' pins s4 σ H4 y z' u w' _ I4 r2 r4 q4) λd' s5 ⟨z2,H5,I5,r5,k2,e2,q5⟩=>?_))
  subst e2
  cases r5
  exact Cb ⟨H5,I5,q5⟩
def aFB(K:PySem.W.Frag)(x:V)(H:Hp)(k:Bool):Prop:=
 match x with
 | .non=>k=false
 | .bl b=>k=b
 | .int i=>k=(i != 0)
 | .str y=>y.length<=sizeLine/\k=((y.length:Int) != 0)
 | .byt y=>y.size<=sizeLine/\k=((y.size:Int) != 0)
 | .ref p=>(∃xs,SqL K H p xs/\k=!xs.isEmpty)\/(∃xs,SqT K H p xs/\k=!xs.isEmpty)\/∃kvs,H p=some (.dK kvs)/\k=!kvs.isEmpty
 | _=>False
theorem zD{κ:Type}{kvs:List (κ×V)}{vs:List (κ×Value)}(r:KV kvs vs):(!vs.isEmpty)=!kvs.isEmpty:=by
 cases r <;> rfl
theorem pL{xs:List V}{its:List Value}(r:aU xs its):(!its.toArray.isEmpty)=!xs.isEmpty:=by
 cases r <;> simp
theorem kU:(sizeLine:Nat)<2 ^ 63:=by rw[C2];decide
theorem aDe:aMU X (λx H Q=>∃k,aFB X.K x H k/\Q k H):=by
 intro pins s σ H x v Q I rx h
 obtain⟨k,e,q⟩:=h
 have hl:=kU
 have hs:sizeLine=16777216:=C2
 cases x with
 | non=>
  cases rx
  have e':k=false:=e
  subst e'
  exact truthy_none ⟨H,I,q⟩
 | bl b=>
  cases rx
  have e':k=b:=e
  subst e'
  exact Cb ⟨H,I,q⟩
 | int i=>
  obtain⟨t,rfl⟩:=rx
  have e':k=(i != 0):=e
  subst e'
  exact PySem.P.truthy_int ⟨H,I,q⟩
 | str y=>
  obtain⟨t,rfl⟩:=rx
  obtain⟨hy,e'⟩:y.length<=sizeLine/\k=((y.length:Int) != 0):=e
  subst e'
  exact PySem.P.truthy_str (by omega) ⟨H,I.tok _,q⟩
 | byt y=>
  obtain⟨t,rfl⟩:=rx
  obtain⟨hy,e'⟩:y.size<=sizeLine/\k=((y.size:Int) != 0):=e
  subst e'
  exact PySem.W.truthy_bytes (by omega) ⟨H,I.tok _,q⟩
 | ref p=>
  cases rx
  have e':(∃xs,SqL X.K H p xs/\k=!xs.isEmpty)\/(∃xs,SqT X.K H p xs/\k=!xs.isEmpty)\/∃kvs,H p=some (.dK kvs)/\k=!kvs.isEmpty:=e
  rcases e' with⟨xs,hx,e'⟩|⟨xs,hx,e'⟩|⟨kvs,hx,e'⟩
  . subst e'
    obtain⟨its,r,pl,hz⟩:=I.list hx
    have hlen:=r.length
    exact wpAny_truthy_list pl.isList (by simp only[Af];omega) ⟨H,I.tok _,by rw[pL r];exact q⟩
  . subst e'
    obtain⟨its,r,pl,hz⟩:=I.tuple hx
    have hlen:=r.length
    exact truthy_tuple pl (by simp only[Af];omega) ⟨H,I.tok _,by rw[pL r];exact q⟩
  . subst e'
    obtain⟨hz,hS,vs,r,m⟩:kvs.length<=sizeLine/\(p==sysModules)=false/\∃vs,KV kvs vs/\s.heap.DictOf (bS X.prog X.w) p vs:=I.hok p _ hx
    have hlen:kvs.length=vs.length:=Paired.length r
    exact wpAny_truthy_dict hS m (by omega) ⟨H,I.tok _,by rw[zD r];exact q⟩
 | _=>exact(show False from e).elim
theorem aDf(ha:PE X a ta)(he:∀whole,isTrue a X.env whole=(do let v<-whole;standAt a.pos;holding [v] (truthy v))) :
 PT X a (λσ H Q=>ta σ H λx H'=>∃k,aFB X.K x H' k/\Q k H'):=by
 intro pins s σ H Q I h
 exact isTrue_plain (thn (ha pins s σ H _ I h) λv s1 ⟨x,H1,I1,r1,q1⟩=>aDe pins s1 σ H1 x v Q I1 r1 q1) (he _)
theorem zF:OpR X (binaryOp .Add) (λx y H Q=>∃i j,x=.str i/\y=.str j/\i.length+j.length<=sizeLine/\Q (.str (i++j)) H):=by
 intro pins s σ H x y v u Q I rx ry h
 obtain⟨i,j,rfl,rfl,hz,q⟩:=h
 obtain⟨t,rfl⟩:=rx
 obtain⟨t',rfl⟩:=ry
 exact add_str (λt' tk=>⟨.str (i++j),H,I.tok _,⟨_,rfl⟩,q⟩) hz
theorem nV{x:V}{us:List Value}(r:aU [x] us):∃u,us=[u]/\bR x u:=by
 cases r with
 | cons r1 r2=>cases r2;exact⟨_,rfl,r1⟩
theorem aKk{x y:V}{us:List Value}(r:aU [x,y] us):∃u w',us=[u,w']/\bR x u/\bR y w':=by
 cases r with
 | cons r1 r2=>
  cases r2 with
  | cons r3 r4=>cases r4;exact⟨_,_,rfl,r1,r3⟩
theorem aBM(hc:X.calm=true):gA X (.builtin "min") (λxs H Q=>∃i j,xs=[.int i,.int j]/\Q (.int (if j<i then j else i)) H):=by
 intro pins s σ H xs us Q I r h
 obtain⟨i,j,rfl,q⟩:=h
 obtain⟨u,w',rfl,⟨t,rfl⟩,⟨t',rfl⟩⟩:=aKk r
 refine min_two_ints (I.ok.hd hc) λh' tk k=>⟨_,H,I.kept k,?_,q⟩
 by_cases hj:j<i
 . rw[if_pos hj,if_pos hj];exact⟨_,rfl⟩
 . rw[if_neg hj,if_neg hj];exact⟨_,rfl⟩
theorem aBN:gA X (.type "int") (λxs H Q=>(∃i,xs=[.int i]/\Q (.int i) H)\/∃k,xs=[.bl k]/\Q (.int (if k then 1 else 0)) H):=by
 intro pins s σ H xs us Q I r h
 rcases h with⟨i,rfl,q⟩|⟨k,rfl,q⟩
 . obtain⟨u,rfl,t,rfl⟩:=nV r
   exact call_int_int ⟨.int i,H,I,⟨_,rfl⟩,q⟩
 . obtain⟨u,rfl,r1⟩:=nV r
   cases r1
   exact call_int_bool ⟨.int (if k then 1 else 0),H,I.tok _,⟨_,rfl⟩,q⟩
end
end L2
namespace L2
open PySem PySem.Spec PyProof.Rows
section
variable {prog:Program} {w:World} {A:Around} {E:Value->Shared->Prop} {s:Shared} {K:PySem.W.Frag} {x dx C f:Addr} {mA:Str->Option Value} {name:Str} {v:Value}
end
def putF(f:Str)(v:V):List (Str×V)->List (Str×V)
 | []=>[(f,v)]
 | (g,x)::r=>if g=f then (g,v)::r else (g,x)::putF f v r
section
variable {P:Program} {w:World} {H H':Hp} {h h':Heap} {a C dx:Addr} {fs fs':List (Str×V)}
end
section
variable {X:Cx} {pins:List (Addr×Obj)} {σ:St} {H:Hp} {s:Shared} {a C dx:Addr} {fs:List (Str×V)} {f:Str} {v:V} {A:Around} {E:Value->Shared->Prop}
end
section
variable {X:Cx} {o e value:Expr} {f:Str} {pos pos' tpos:Pos} {ta tv:TE}
end
section
variable {X:Cx} {pins:List (Addr×Obj)} {σ:St} {H:Hp} {s:Shared} {A:Around} {E:Value->Shared->Prop} {Q:Value->Shared->Prop} {c:Value} {b:Bool}
end
end L2
namespace L2
open PySem PySem.Spec PyProof.Rows
structure kW (k:Nat) (A:Around):Prop where
 hd:A.handled=none
 gd:A.guards=some []
 dp:A.depth+3*k+5<recursionLimit
 un:A.units+16*k+200<cLine
theorem kW.deeper{k:Nat}{A:Around}(r:kW (k+1) A)(env:Env):kW k (A.deeper env):=
 ⟨r.hd,r.gd,by have:=r.dp;show A.depth+1+3*k+5<_;omega,by have:=r.un;show A.units+3+16*k+200<_;omega⟩
theorem kW.depth{k:Nat}{A:Around}(r:kW k A):A.depth<recursionLimit:=by have:=r.dp;omega
def aKl:TA:=λ_ H Q=>Q [] H
def aKm(ta:TE)(tr:TA):TA:=λσ H Q=>ta σ H λx H1=>tr σ H1 λxs H2=>Q (x::xs) H2
section
variable {X:Cx} {e:Expr} {es:List Expr} {te:TE} {t:TA} {pos:Pos}
theorem mX:PA X [] aKl:=λ_ _ _ _ H Q I h=>D5 ⟨[],H,I,.nil,h⟩
theorem jU(ha:PE X e te)(hr:PA X es t)(hs:starEach (e::es) X.env=(false,eval e X.env)::starEach es X.env:=by rfl):PA X (e::es) (aKm te t):=by
 intro pos pins s σ H Q I h
 rw[hs]
 show wpAny _ _ (spliced ((false,eval e X.env)::backTo pos (starEach es X.env))) _ _ s
 refine Dj (thn (ha pins s σ H _ I h) λu s1 ⟨x,H1,I1,r1,q1⟩=>?_)
 exact thn (hr pos pins s1 σ H1 _ I1 q1) λus s2 ⟨xs,H2,I2,r2,q2⟩=>⟨x::xs,H2,I2,.cons r1 r2,q2⟩
def aMX(t:TA):TE:=λσ H Q=>t σ H λxs H1=>xs.length<=sizeLine/\∀p,H1 p=none->Q (.ref p) (upd H1 p (.tup xs))
def aMY(t:TA):TE:=λσ H Q=>t σ H λxs H1=>xs.length<=sizeLine/\∀p,H1 p=none->Q (.ref p) (upd H1 p (.lst xs))
theorem aHP{x1}(h:PA X es t):PE X (.Tuple es x1 pos) (aMX t):=by
 intro pins s σ H Q I hq
 refine wpAny_Tuple_spliced (thn (h pos pins s σ H _ I hq) λus s1 ⟨xs,H1,I1,r,z,q⟩=>⟨by rw[<-r.length];exact z,?_⟩)
 have hf:H1 s1.heap.objs.size=none:=I1.hok.fresh (Aj _)
 refine⟨.ref s1.heap.objs.size,upd H1 s1.heap.objs.size (.tup xs),I1.laid (t':=s1.toks) (λb u e=>Ab _ e) (Aj _) ?_,rfl,q _ hf⟩
 exact⟨z,us,r,⟨_,Ai _ rfl,rfl,_,rfl⟩⟩
theorem aHQ(h:PA X es t):PE X (.List es pos) (aMY t):=by
 intro pins s σ H Q I hq
 refine wpAny_List_spliced (thn (h pos pins s σ H _ I hq) λus s1 ⟨xs,H1,I1,r,z,q⟩=>⟨by rw[<-r.length];exact z,?_⟩)
 have hf:H1 s1.heap.objs.size=none:=I1.hok.fresh (Aj _)
 refine⟨.ref s1.heap.objs.size,upd H1 s1.heap.objs.size (.lst xs),I1.laid (t':=s1.toks) (λb u e=>Ab _ e) (Aj _) ?_,rfl,q _ hf⟩
 exact⟨z,us,0,r,Ai _ rfl⟩
end
abbrev Sp:=List V->Hp->VK->XK->Prop
abbrev CXT:=List Env->Hp->Shared->XK->Value->Shared->Prop
structure aFC (P:Program) (w:World) (K:PySem.W.Frag) (mg:Str->Option Value) (base:Heap) (A:Around) (outer:List Env) (s:Shared) (H:Hp):Prop where
 frames:A.frames=some outer
 mod:Mod K mg base
 bs:∀b o,base.get? b=some o->s.heap.get? b=some o/\H b=none
 bsz:base.objs.size<=s.heap.objs.size
 funs:s.heap.FunFrames base outer
 frf:∀b∈frs outer,H b=none
 hok:HOk P w H s.heap
 bare:AllBare s.gens
def CE(outer:List Env)(P:Program)(w:World)(H:Hp)(s:Shared)(Q:VK)(u:Value)(s':Shared):Prop:=
 ∃v H',s'.os=s.os/\AllBare s'.gens/\Un (frs outer) [] H H' s.heap s'.heap/\HOk P w H' s'.heap/\bR v u/\Q v H'
def CR(CX:CXT)(outer:List Env)(P:Program)(w:World)(H:Hp)(s:Shared)(Q:VK)(E:XK)(r:Result)(s':Shared):Prop:=
 match r with
 | .ok (.ret u)=>CE outer P w H s Q u s'
 | .ok _=>False
 | .error e=>CX outer H s E e s'
structure oD (P:Program) (w:World) (K:PySem.W.Frag) (mg:Str->Option Value) (base:Heap) (CX:CXT) (k:Nat) (f:Addr) (fd:FuncData) (ps:List Str) (sp:Sp):Prop where
 len:∀vs H Q E,sp vs H Q E->vs.length=ps.length
 run:∀(A:Around) (outer:List Env) (s:Shared) (H:Hp) (args:Args) (us:List Value) (vs:List V) (Q:VK) (E:XK),kW k A->aFC P w K mg base A outer s H->BindsTo s fd args (ps.zip us)->aU vs us->sp vs H Q E ->
  codeAny (model P w) A (.call (.ref f) args) (CR CX outer P w H s Q E) s
section
variable {X:Cx} {pins:List (Addr×Obj)} {σ:St} {H:Hp} {s s':Shared}
theorem Inv.env0(I:Inv X pins σ H s):aFC X.prog X.w X.K X.mg X.base X.A X.stack s H:=
 ⟨I.ok.frames,I.ok.mod,I.bs,A4 I.ok.bsz I.sz,I.stack,I.stkFree,I.hok,I.bare⟩
theorem Inv.after{Q:VK}{u:Value}(I:Inv X pins σ H s)(h:CE X.stack X.prog X.w H s Q u s'):EP X pins σ Q u s':=by
 obtain⟨v,H',os,bare,un,hok,r,q⟩:=h
 obtain⟨hh,g,d,t,os'⟩:=s'
 obtain rfl:os'=s.os:=os
 exact⟨v,H',I.call (h':=hh) (g':=g) (d':=d) (t':=t) (ch:=[]) un hok bare (λb z=>absurd z (by simp)),r,q⟩
end
def aGP(sp:Sp)(dvs:List V)(E:XK)(t:TA):TE:=λσ H Q=>t σ H λvs H1=>sp (vs++dvs) H1 Q E
def kM(K:PySem.W.Frag)(fd:FuncData)(ps:List Str)(ds:List Value):Prop:=
 ∀(s:Shared) (us:List Value),K.In s.heap->(us++ds).length=ps.length->BindsTo s fd ⟨us,[]⟩ (ps.zip (us++ds))
theorem kM.all{K:PySem.W.Frag}{fd:FuncData}{ps:List Str}(h:∀us:List Value,us.length=ps.length->bindArgs fd ⟨us,[]⟩=pure (ps.zip us)):kM K fd ps []:=λs us _ hl=>by
 rw[Ch] at hl ⊢
 exact .of_eq (h us hl)
def uA(CX:CXT)(X:Cx)(E:XK):Prop:=∀(pins:List (Addr×Obj)) (σ:St) (H:Hp) (s:Shared) (e:Value) (s':Shared),Inv X pins σ H s->CX X.stack H s E e s'->X.xe e s'
section
variable {X:Cx} {CX:CXT} {k:Nat} {f C:Addr} {fd:FuncData} {ps:List Str} {sp:Sp} {dvs:List V} {ds:List Value} {E:XK} {x m:Str} {p pos apos:Pos} {e o:Expr} {es:List Expr} {ta:TE} {t:TA}
theorem aDg{pins:List (Addr×Obj)}{σ:St}{H:Hp}{s:Shared}{Q:VK}{us:List Value}{vs:List V}(F:oD X.prog X.w X.K X.mg X.base CX k f fd ps sp)(hr:kW k X.A)(hb:kM X.K fd ps ds)(hd:aU dvs ds)(hx:uA CX X E)
 (I:Inv X pins σ H s) (r:aU vs us) (h:sp (vs++dvs) H Q E):wpAny (model X.prog X.w) X.A (call (.ref f) us) (EP X pins σ Q) X.xe s:=by
 have r2:aU (vs++dvs) (us++ds):=r.append hd
 have hl:(us++ds).length=ps.length:=by rw[<-r2.length];exact F.len _ _ _ _ h
 refine wpAny_call (Du (F.run X.A X.stack s H ⟨us,[]⟩ (us++ds) (vs++dvs) Q E hr I.env0 (hb s us I.kIn hl) r2 h) λr s' hq=>?_)
 cases r with
 | error e=>exact hx pins σ H s e s' I hq
 | ok fl=>
  cases fl with
  | ret u=>exact I.after hq
  | next=>exact False.elim hq
  | brk=>exact False.elim hq
  | cont=>exact False.elim hq
theorem aFD(F:oD X.prog X.w X.K X.mg X.base CX k f fd ps sp)(hr:kW k X.A)(hg:Gl X x)(hm:X.mg x=some (.ref f))(hk:PySem.W.keepIn X.K (.ref f)=true)(hb:kM X.K fd ps ds)(hd:aU dvs ds)(hx:uA CX X E)
 (ha:PA X (e::es) t) (hdb:(x==("__debug__" : Str))=false:=by decide) (he:starEach (e::es) X.env=(false,eval e X.env)::starEach es X.env:=by rfl) (hpl:(backTo pos (starEach es X.env)).any (·.1)=false:=by rfl) :
 PE X (.Call (.Name x p) (e::es) [] pos) (aGP sp dvs E t):=by
 intro pins s σ H Q I h
 refine B4 (tY I hg hm ?_ hdb)
 refine PySem.W.callWith_K (h₀:=X.base) I.ok.mod.kin hk (thn (ha pos pins s σ H _ I h) λus s1 ⟨vs,H1,I1,r,q⟩=>⟨I1.kIn,?_⟩) he hpl
 exact aDg F hr hb hd hx I1 r q
theorem aDh(F:oD X.prog X.w X.K X.mg X.base CX k f fd ps sp)(hr:kW k X.A)(hg:Gl X x)(hm:X.mg x=some (.ref f))(hk:PySem.W.keepIn X.K (.ref f)=true)(hb:kM X.K fd ps ds)(hd:aU dvs ds)(hx:uA CX X E)
 (hdb:(x==("__debug__" : Str))=false:=by decide):PE X (.Call (.Name x p) [] [] pos) (aGP sp dvs E aKl):=by
 intro pins s σ H Q I h
 refine B4 (tY I hg hm ?_ hdb)
 exact PySem.W.callWith_K0 I.kIn hk (aDg (us:=[]) F hr hb hd hx I .nil h)
end
section
variable {X:Cx} {CX:CXT} {k:Nat} {f C:Addr} {fd:FuncData} {ps ks:List Str} {sp:Sp} {E:XK} {x m:Str} {p pos apos kpos:Pos} {e o:Expr} {es:List Expr} {kws:List Keyword} {te ta:TE} {t tk:TA} {nm:Option Str}
variable {g:List Value->List Value->List Value} {gV:List V->List V->List V}
end
structure oP (N P:List Str) (sc:Scope):Prop where
 kind:sc.kind=.function
 co:sc.isCoroutine=false
 gen:sc.isGenerator=false
 nd:N.Nodup
 pre:N.take P.length=P
 par:∀x∈P,sc.names.lookup x=some .local\/sc.names.lookup x=some .cell
 nofree:∀y∈sc.names,y.2≠.free
theorem sD{kindOf:Str->Option NameKind}{x:Str}:∀{binds:List (Str×Value)} {m:Str->Option Value},(∀v,(x,v)∉binds)->bindL kindOf binds m x=m x
 | [],_,_=>rfl
 | (n,v)::r,m,h=>by
  unfold bindL
  rw[sD λw hw=>h w (Ag _ hw)]
  split
  . have:x≠n:=by rintro rfl;exact h v Al
    simp[this]
  . rfl
theorem sF{kindOf:Str->Option NameKind}{x:Str}:∀{binds:List (Str×Value)} {m:Str->Option Value},(∀v,(x,v)∉binds)->bindC kindOf binds m x=m x
 | [],_,_=>rfl
 | (n,v)::r,m,h=>by
  unfold bindC
  rw[sF λw hw=>h w (Ag _ hw)]
  split
  . rfl
  . have:x≠n:=by rintro rfl;exact h v Al
    simp[this]
theorem sG{kindOf:Str->Option NameKind}{x:Str}{v:Value}:∀{P:List Str} {vs:List Value} {i:Nat} {m:Str->Option Value},P.Nodup->P[i]? = some x->vs[i]? = some v->kindOf x=some .local ->
 bindL kindOf (P.zip vs) m x=some v
 | [],_,_,_,_,h,_,_=>by simp at h
 | _::_,[],_,_,_,_,h,_=>by simp at h
 | p::P,w::vs,0,m,nd,h1,h2,hk=>by
  simp at h1 h2;subst h1;subst h2
  show bindL kindOf ((p,w)::P.zip vs) m p=_
  unfold bindL
  rw[sD λv hv=>(C1.mp nd).1 (List.of_mem_zip hv).1,if_pos hk]
  simp
 | p::P,w::vs,i+1,m,nd,h1,h2,hk=>by
  show bindL kindOf ((p,w)::P.zip vs) m x=_
  unfold bindL
  exact sG (i:=i) (C1.mp nd).2 (by simpa using h1) (by simpa using h2) hk
theorem sH{kindOf:Str->Option NameKind}{x:Str}{v:Value}:∀{P:List Str} {vs:List Value} {i:Nat} {m:Str->Option Value},P.Nodup->P[i]? = some x->vs[i]? = some v->kindOf x≠some .local ->
 bindC kindOf (P.zip vs) m x=some v
 | [],_,_,_,_,h,_,_=>by simp at h
 | _::_,[],_,_,_,_,h,_=>by simp at h
 | p::P,w::vs,0,m,nd,h1,h2,hk=>by
  simp at h1 h2;subst h1;subst h2
  show bindC kindOf ((p,w)::P.zip vs) m p=_
  unfold bindC
  rw[sF λv hv=>(C1.mp nd).1 (List.of_mem_zip hv).1,if_neg hk]
  simp
 | p::P,w::vs,i+1,m,nd,h1,h2,hk=>by
  show bindC kindOf ((p,w)::P.zip vs) m x=_
  unfold bindC
  exact sH (i:=i) (C1.mp nd).2 (by simpa using h1) (by simpa using h2) hk
def start(N:List Str)(vs:List V):St:=vs.map some++List.replicate (N.length-vs.length) none
def zG(CX:CXT)(P:Program)(w:World)(K:PySem.W.Frag)(mg:Str->Option Value)(base:Heap)(N:List Str)(qual:Str)(scope:Scope)(f:Addr)(cd:Value)(A:Around)(outer:List Env)(s:Shared)(H:Hp)(E:XK):Cx where
 prog:=P
 w:=w
 K:=K
 mg:=mg
 base:=base
 A:=A.deeper (envOfC qual scope s.heap.objs.size f cd)
 N:=N
 s₀:=s
 H₀:=H
 env:=envOfC qual scope s.heap.objs.size f cd
 outer:=outer
 stack:=envOfC qual scope s.heap.objs.size f cd::outer
 ex:=[]
 calm:=true
 fn:=λ_=>true
 pn:=[]
 xe:=λe s'=>wpAny (model P w) (A.deeper (envOfC qual scope s.heap.objs.size f cd)) (leaving (envOfC qual scope s.heap.objs.size f cd) e) (λ_ s''=>CX outer H s E e s'') (λe' s''=>CX outer H s E e' s'') s'
theorem wJ{sc:Scope}{n:Nat}{x:Str}(h:sc.names.lookup x=some .cell):∃c,(cellsFrom n sc.names []).lookup x=some c:=by
 have q:=PySem.W.cellsFrom_some sc.names n [] (.inl h)
 exact Option.isSome_iff_exists.mp q
theorem aBO{CX:CXT}{P:Program}{w:World}{K:PySem.W.Frag}{mg:Str->Option Value}{base:Heap}{N ps:List Str}{qual:Str}{scope:Scope}{f:Addr}{cd:Value}{A:Around}{outer:List Env}{s s1:Shared}{H:Hp}{E:XK}{us:List Value}{vs:List V}
 (S:oP N ps scope) (hd:A.handled=none) (e0:aFC P w K mg base A outer s H) (hl:vs.length=ps.length) (r:aU vs us)
 (x:InCallC s s.heap.objs.size (bindL (envOfC qual scope s.heap.objs.size f cd).kindOf (ps.zip us) λ_=>none) (cellsFrom (s.heap.objs.size+1) scope.names []) (bindC (envOfC qual scope s.heap.objs.size f cd).kindOf (ps.zip us) λ_=>none) s1) :
 Inv (zG CX P w K mg base N qual scope f cd A outer s H E) [] (start N vs) H s1:=by
 have hpl:ps.length<=N.length:=by have:=congrArg List.length S.pre;rw[A2] at this;omega
 obtain⟨h1,tk,rfl,hk⟩:=x.done
 have noA:∀b:Addr,b∉(zG CX P w K mg base N qual scope f cd A outer s H E).ex:=λb z=>absurd (show b∈([]:List Addr) from z) (by simp)
 refine⟨⟨e0.mod,S.kind,rfl,rfl,Aj _,λy z c h1 h2=>?_,λy hy=>?_,λy c _ h=>?_,λ_=>hd,Around.frames_deeper e0.frames,.inr ⟨rfl,rfl⟩,λb z=>absurd z (noA b),e0.bs,e0.bsz,λb _ _=>noA b,λb z=>absurd z (noA b),e0.funs,e0.frf⟩,
  rfl,e0.bare,Un.kept hk,⟨_,x.toInCall.ns,λi y v h1 h2 h3=>?_⟩,λy c h=>⟨_,x.cell y c h⟩,e0.hok.fresh (Aj _),λy c h=>?_,λp hp=>absurd (show p∈([]:List (Addr×Obj)) from hp) (by simp),e0.hok.kept hk,?_⟩
 . exact name_of_addr x.apart (B9 h1) (B9 h2)
 . have hy:scope.names.lookup y=some .cell\/scope.names.lookup y=some .free:=hy
   rcases hy with hy|hy
   . exact wJ hy
   . exact absurd rfl (S.nofree _ (B9 hy))
 . exact Nat.le_of_lt (x.above y c (B9 h))
 . have hi:i<vs.length:=by
    unfold start at h2
    by_cases hi:i<vs.length
    . exact hi
    . rw[Au (by simpa using hi)] at h2
      rw[Ci] at h2
      split at h2 <;> cases h2
   have ha:vs[i]? = some v:=by
    unfold start at h2
    rw[Bc (by simpa using hi),Az] at h2
    cases e:vs[i]? with
    | none=>rw[e] at h2;cases h2
    | some a=>rw[e] at h2;cases h2;rfl
   obtain⟨u,hu,rv⟩:=r.get ha
   have hp:ps[i]? = some y:=by
    rw[<-S.pre,List.getElem?_take_of_lt (by omega)];exact h1
   have ndP:ps.Nodup:=by rw[<-S.pre];exact S.nd.sublist (List.take_sublist _ _)
   refine⟨u,rv,?_⟩
   rcases S.par y (List.mem_of_getElem? hp) with k|k
   . exact .inl ⟨k,sG ndP hp hu k⟩
   . obtain⟨c,e⟩:=wJ (n:=s.heap.objs.size+1) k
     refine .inr ⟨.inl k,c,e,?_⟩
     have q:=x.cell y c e
     rw[sH ndP hp hu (by show scope.names.lookup y≠_;rw[k];decide)] at q
     exact q
 . exact e0.hok.fresh (Nat.le_of_lt (x.above y c (B9 h)))
 . unfold start
   show _=N.length
   rw[Dk,List.length_map,A0]
   omega
theorem aKn{CX:CXT}{P:Program}{w:World}{K:PySem.W.Frag}{mg:Str->Option Value}{base:Heap}{k:Nat}{f:Addr}{name qual:Str}{params:Arguments}{body:List Stmt}{scope:Scope}{dV kV doc pm cdv ct oc:Value}{an od:Option Addr}
 {osl:Array (Option Value)} {N ps:List Str} {sp:Sp} (lk:K.lookup f=some ⟨oc,od,.func (PySem.W.fnOf name qual params body scope dV kV doc pm an cdv ct),osl⟩) (hcd:PySem.W.codeIn K cdv qual=true) (S:oP N ps scope)
 (len:∀vs H Q E,sp vs H Q E->vs.length=ps.length)
 (hbody:∀(A:Around) (outer:List Env) (s:Shared) (H:Hp) (vs:List V) (Q:VK) (E:XK),kW k (A.deeper (envOfC qual scope s.heap.objs.size f cdv))->sp vs H Q E ->
  ∃t,PSs (zG CX P w K mg base N qual scope f cdv A outer s H E) body t/\t { nx:=λ_ H'=>Q .non H',rt:=Q } (start N vs) H) :
 oD P w K mg base CX (k+1) f (PySem.W.fnOf name qual params body scope dV kV doc pm an cdv ct) ps sp:=by
 refine⟨len,λA outer s H args us vs Q E hr e0 hb r hsp=>?_⟩
 have hl:=len _ _ _ _ hsp
 have KX:K.In s.heap:=e0.mod.kin.keeps λb o e=>(e0.bs b o e).1
 have lim:s.heap.NoLimit:=e0.mod.nolimit.keeps λb o e=>(e0.bs b o e).1
 have hkind:∀y∈ps.zip us,scope.names.lookup y.1=some .local\/(scope.names.lookup y.1=some .cell/\((cellsFrom (s.heap.objs.size+1) scope.names []).lookup y.1).isSome=true):=λ⟨n,v⟩ hy=>by
  rcases S.par n (List.of_mem_zip hy).1 with q|q
  . exact .inl q
  . exact .inr ⟨q,PySem.W.cellsFrom_some _ _ _ (.inl q)⟩
 refine codeAny_call_function hr.depth (KX _ _ lk) rfl S.co S.gen rfl (PySem.W.codeRec_of KX hcd) (hb _ _ _ _ ?_)
 refine wpAny_newFunctionEnv_cells S.kind hkind λenv he s1 x=>?_
 subst he
 refine⟨lim.keeps x.toInCall.keep,codeAny_func ?_⟩
 obtain⟨t,ht,hq⟩:=hbody A outer s H vs Q E (hr.deeper _) hsp
 have I:Inv (zG CX P w K mg base N qual scope f cdv A outer s H E) [] (start N vs) H s1:=aBO S hr.hd e0 hl r x
 refine Dh (ht [] s1 (start N vs) H _ I hq) (λfl s' hs=>?_) λe s' hs=>hs
 have fin:∀{σ':St} {H':Hp} {v:V} {u:Value},Inv (zG CX P w K mg base N qual scope f cdv A outer s H E) [] σ' H' s'->bR v u->Q v H'->CE outer P w H s Q u s':=
  λ{σ' H' v u} J rv q=>⟨v,H',J.os,J.bare,J.base,J.hok,rv,q⟩
 cases fl with
 | ret u=>
  obtain⟨v,σ',H',J,rv,q⟩:=hs
  exact fin J rv q
 | next=>
  obtain⟨σ',H',J,q⟩:=hs
  exact fin (v:=V.non) (u:=Value.none) J rfl q
 | brk=>
  obtain⟨_,_,_,q⟩:=hs
  exact False.elim q
 | cont=>
  obtain⟨_,_,_,q⟩:=hs
  exact False.elim q
end L2
namespace L2
open PySem PySem.Spec PyProof.Rows
section
variable {X:Cx} {x:Str} {p pos:Pos} {e:Expr} {es:List Expr} {t:TA} {id T:String} {r:List V->Hp->VK->Prop}
def tCB(r:List V->Hp->VK->Prop)(t:TA):TE:=λσ H Q=>t σ H λvs H1=>r vs H1 Q
theorem lP(hc:gA X (.builtin id) r)(hg:Gl X x)(hm:X.mg x=none)(hv:bootBuiltins x=some (.builtin id))(ha:PA X (e::es) t)(hn:x ≠ "__name__" := by decide)(hdb:(x==("__debug__" : Str))=false:=by decide)
 (he:starEach (e::es) X.env=(false,eval e X.env)::starEach es X.env:=by rfl) (hpl:(backTo pos (starEach es X.env)).any (·.1)=false:=by rfl):PE X (.Call (.Name x p) (e::es) [] pos) (tCB r t):=by
 intro pins s σ H Q I h
 refine B4 (fL I hg hm hv ?_ hn hdb)
 exact Cw (thn (ha pos pins s σ H _ I h) λus s1 ⟨vs,H1,I1,r1,q1⟩=>hc pins s1 σ H1 vs us Q I1 r1 q1) he hpl
theorem mY(hc:gA X (.type T) r)(hg:Gl X x)(hm:X.mg x=none)(hv:bootBuiltins x=some (.type T))(ha:PA X (e::es) t)(hn:x ≠ "__name__" := by decide)(hdb:(x==("__debug__" : Str))=false:=by decide)
 (he:starEach (e::es) X.env=(false,eval e X.env)::starEach es X.env:=by rfl) (hpl:(backTo pos (starEach es X.env)).any (·.1)=false:=by rfl):PE X (.Call (.Name x p) (e::es) [] pos) (tCB r t):=by
 intro pins s σ H Q I h
 refine B4 (fL I hg hm hv ?_ hn hdb)
 exact Bw (thn (ha pos pins s σ H _ I h) λus s1 ⟨vs,H1,I1,r1,q1⟩=>hc pins s1 σ H1 vs us Q I1 r1 q1) he hpl
end
end L2
namespace HT
open PySem PyProof.Rows
section
open PySem.SeqAt
open PySem.AutoSeq1 (wpAny_loadPart')
open PySem.MeetsSeq PySem.MeetsSeq2 PySem.MeetsSeq3
end
section
variable {prog:Program} {w:World} {A:Around} {E:Value->Shared->Prop} {s:Shared}
theorem cat_tup{t b:Addr}{vs ws:List Value}{Q:Value->Shared->Prop}(ht:IsTup s.heap t vs.toArray)(hb:IsTup s.heap b ws.toArray)(hv:vs≠[])
 (h1:ws=[]->Q (.ref t) s) (h2:ws≠[]->Q (.ref s.heap.objs.size) { s with heap:=s.heap.push { cls:=.type "tuple",data:=.seq (vs++ws).toArray } })
 (hsz:vs.length+ws.length<=sizeLine):wpAny (model prog w) A (binaryOp .Add (.ref t) (.ref b)) Q E s:=by
 obtain⟨⟨cls,dd,data,sl⟩,ho,hc,n,hd⟩:=id ht
 obtain⟨⟨cls2,dd2,data2,sl2⟩,ho2,hc2,n2,hd2⟩:=id hb
 simp only at hc hd hc2 hd2
 subst hc hd hc2 hd2
 have e:vs.toArray++ws.toArray=(vs++ws).toArray:=by simp
 by_cases hw:ws=[]
 . exact concat_meets ⟨_,ho,rfl⟩ ⟨_,ho2,rfl⟩ noFill_tuple_add seq_tuple_add D6 D4 (Dz _ _)
    (tuple_addW1 t b vs.toArray ws.toArray n n2 dd dd2 sl sl2 (by simpa using hv) (by simp[hw])) ⟨ho,ho2,h1 hw⟩
 . refine concat_meets ⟨_,ho,rfl⟩ ⟨_,ho2,rfl⟩ noFill_tuple_add seq_tuple_add D6 D4 (Dz _ _)
    (tuple_addW2 t b vs.toArray ws.toArray n n2 dd dd2 sl sl2 (by simpa using hv) (by simpa using hw) (by rw[Af,Af];exact hsz)) ⟨ho,ho2,?_⟩
   rw[e]
   exact h2 hw
def sIx(n d:Nat):Option Int->Nat
 | none=>d
 | some v=>if v<0 then (v+(n:Int)).toNat else min v.toNat n
theorem aHR(n d:Nat)(hd:d<=n)(o:Option Int):sIx n d o<=n:=by
 cases o with
 | none=>exact hd
 | some v=>
  show(if v<0 then (v+(n:Int)).toNat else min v.toNat n)<=n
  by_cases hv:v<0
  . rw[if_pos hv];omega
  . rw[if_neg hv];exact Nat.min_le_right _ _
theorem aAK(v:Int)(n d:Nat):(if v<0 then max (v+(n:Int)) 0 else min v (n:Int))=((sIx n d (some v):Nat):Int):=by
 show(if v<0 then max (v+(n:Int)) 0 else min v (n:Int))=(((if v<0 then (v+(n:Int)).toNat else min v.toNat n):Nat):Int)
 by_cases hv:v<0
 . simp only[if_pos hv];omega
 . simp only[if_neg hv];omega
theorem zH(lo hi:Option Int)(n:Nat):Builtin.Slice.sliceAdjust lo hi 1 (n:Int)=(((sIx n 0 lo:Nat):Int),((sIx n n hi:Nat):Int)):=by
 have h1:¬ ((1:Int)<0):=by omega
 unfold Builtin.Slice.sliceAdjust
 simp only[h1,if_false]
 refine Prod.ext ?_ ?_
 . cases lo with
   | none=>rfl
   | some v=>exact aAK v n 0
 . cases hi with
   | none=>rfl
   | some v=>exact aAK v n n
theorem zI(i j:Nat):Builtin.Slice.slicePlaces (i:Int) (j:Int) 1=j-i:=by
 unfold Builtin.Slice.slicePlaces
 have h1:(1:Int)>0:=by omega
 simp only[h1,if_true,Int.ediv_one]
 split <;> omega
theorem pM{v:Value}{o:Option Int}{Q:Option Int->Shared->Prop}(p:IsPart v o)(h:Q o s):wpAny (model prog w) A (Builtin.Slice.slicePartIndex v) Q E s:=by
 cases p with
 | none=>exact slicePart_none h
 | int i t=>exact slicePart_int h
theorem sliceApplied_gen{sl:Addr}{vl vu:Value}{lo hi:Option Int}{n:Nat}{Q:Int×Int×Nat->Shared->Prop}(hs:s.heap.IsSliceOf sl vl vu .none)(pl:IsPart vl lo)(pu:IsPart vu hi)
 (h:Q (((sIx n 0 lo:Nat):Int),1,sIx n n hi-sIx n 0 lo) s):wpAny (model prog w) A (Builtin.Slice.sliceApplied (.ref sl) (pure (n:Int))) Q E s:=by
 obtain⟨os,hos,hcs,hds⟩:=id hs
 unfold Builtin.Slice.sliceApplied Builtin.Slice.sliceFields
 refine Aa (Aa (Bn hos hds (x:=vl) rfl (Aa (Bn hos hds (x:=vu) rfl (Aa (Bn hos hds (x:=.none) rfl (Ac ?_)))))))
 refine Aa (slicePart_none ?_)
 show wpAny _ _ (if ((1:Int)==0)=true then _ else _) _ _ s
 rw[if_neg (by decide)]
 refine Aa (pM pl (Aa (pM pu (Aa (Ac ?_)))))
 show wpAny _ _ (match Builtin.Slice.sliceAdjust lo hi 1 (n:Int) with|(lo,hi)=>pure (lo,(1:Int),Builtin.Slice.slicePlaces lo hi 1)) _ _ s
 rw[zH lo hi n]
 show wpAny _ _ (pure (((sIx n 0 lo:Nat):Int),(1:Int),Builtin.Slice.slicePlaces ((sIx n 0 lo:Nat):Int) ((sIx n n hi:Nat):Int) 1)) _ _ s
 rw[zI]
 exact Ac h
theorem aDi(xs:Array Value)(i k:Nat):((List.range k).filterMap λ(m:Nat)=>xs[((i:Int)+(m:Int)*1).toNat]?).toArray=((xs.toList.drop i).take k).toArray:=by
 have e:(λ(m:Nat)=>xs[((i:Int)+(m:Int)*1).toNat]?)=λm=>xs[i+m]? := by
  funext m
  have:((i:Int)+(m:Int)*1).toNat=i+m:=by omega
  rw[this]
 rw[e]
 have:=pick_run xs i k
 rw[List.filterMap_map] at this
 have e2:((λx=>xs[x]?)∘λx=>i+x)=λm=>xs[i+m]? := rfl
 rw[e2] at this
 rw[this]
theorem getItem_tuple_cut{t sl:Addr}{items:Array Value}{vl vu:Value}{lo hi:Option Int}{Q:Value->Shared->Prop}(ht:IsTup s.heap t items)(hs:s.heap.IsSliceOf sl vl vu .none)(pl:IsPart vl lo)(pu:IsPart vu hi)
 (hw:¬ (sIx items.size 0 lo=0/\sIx items.size items.size hi=items.size))
 (h:Q (.ref s.heap.objs.size) { s with heap:=s.heap.push { cls:=.type "tuple",data:=.seq ((items.toList.drop (sIx items.size 0 lo)).take (sIx items.size items.size hi-sIx items.size 0 lo)).toArray } })
 (hsz:items.size<=sizeLine):wpAny (model prog w) A (getItem (.ref t) (.ref sl)) Q E s:=by
 have htake:sizeOk (.seq ((items.toList.drop (sIx items.size 0 lo)).take (sIx items.size items.size hi-sIx items.size 0 lo)).toArray):=by
  show((items.toList.drop (sIx items.size 0 lo)).take (sIx items.size items.size hi-sIx items.size 0 lo)).toArray.size<=sizeLine
  rw[Af,A2,B7,Bo]
  omega
 have hj:sIx items.size items.size hi<=items.size:=aHR _ _ (Aj _) hi
 obtain⟨os,hos,hcs,hds⟩:=id hs
 have hTs:s.TypeIs (.ref sl) "slice" := ⟨os,hos,hcs⟩
 unfold getItem
 try with_reducible refine Bp ?_
 first|refine Aa (Ac ?_)|skip
 refine Aa (wpAny_sequenceKey ht.typeIs (by decide) ?_)
 refine Aa (Bh (name:=Str.ofString "__getitem__") ht.typeIs Bx
  (Bt Bx ht.typeIs entry_tuple_getitem ?_ (args_tuple_getitem _ _)))
 show wpAny _ _ (Builtin.Tuple.tupleItemsOf (.ref t) >>= _) _ _ s
 refine Aa (tupleItemsOf_ ht ?_)
 refine Aa (wpAny_typeOf hTs ?_)
 rw[if_pos (by decide)]
 refine Aa (sliceApplied_gen hs pl pu ?_)
 have hno:¬ ((((sIx items.size 0 lo:Nat):Int)==0&&(1:Int)==1&&(sIx items.size items.size hi-sIx items.size 0 lo)==items.size)=true):=by
  intro q
  rw[Bool.and_eq_true,Bool.and_eq_true] at q
  have q1:((sIx items.size 0 lo:Nat):Int)=0:=eq_of_beq q.1.1
  have q2:sIx items.size items.size hi-sIx items.size 0 lo=items.size:=eq_of_beq q.2
  exact hw ⟨by omega,by omega⟩
 show wpAny _ _ (if (((sIx items.size 0 lo:Nat):Int)==0&&(1:Int)==1&&(sIx items.size items.size hi-sIx items.size 0 lo)==items.size)=true then _ else _) _ _ s
 rw[if_neg hno,aDi]
 first
  | exact Aa (m:=Builtin.Tuple.tupleExact _) (Bz (Ac ⟨_,rfl,Ac h⟩) htake)
  | exact Aa (m:=Builtin.Tuple.tupleExact _) (Bz (Aa (Ac (Ac ⟨_,rfl,Ac h⟩))) htake)
  | exact Aa (Aa (m:=Builtin.Tuple.tupleExact _) (Bz (Ac (Ac ⟨_,rfl,Ac h⟩)) htake))
  | exact Aa (Aa (m:=Builtin.Tuple.tupleExact _) (Bz (Ac ⟨_,rfl,Ac h⟩) htake))
end
end HT
namespace L2
open PySem PySem.Spec PyProof.Rows
abbrev TO:=St->Hp->(Option Int->Hp->Prop)->Prop
def PO(X:Cx)(e:Option Expr)(t:TO):Prop:=
 ∀(pins:List (Addr×Obj)) (s:Shared) (σ:St) (H:Hp) (Q:Option Int->Hp->Prop),Inv X pins σ H s->t σ H Q ->
  wpAny (model X.prog X.w) X.A (evalPart e X.env) (λu s'=>∃o H',Inv X pins σ H' s'/\IsPart u o/\Q o H') X.xe s
def aFE:TO:=λ_ H Q=>Q none H
def aKo(t:TE):TO:=λσ H Q=>t σ H λx H1=>∃i,x=.int i/\Q (some i) H1
section
variable {X:Cx} {e:Expr} {te:TE} {lo hi:Option Expr} {tl th:TO} {pos p2:Pos}
theorem aFF:PO X none aFE:=by
 intro pins s σ H Q I h
 rw[evalPart_none]
 exact Ac ⟨none,H,I,.none,h⟩
theorem aFG(h:PE X e te):PO X (some e) (aKo te):=by
 intro pins s σ H Q I hw
 rw[evalPart_some]
 refine thn (h pins s σ H _ I hw) λu s1 ⟨x,H1,I1,r1,q1⟩=>?_
 obtain⟨i,rfl,q⟩:=q1
 obtain⟨t,rfl⟩:=r1
 exact⟨some i,H1,I1,.int i t,q⟩
def SlR(X:Cx)(r:V->Option Int->Option Int->Hp->VK->Prop):Prop:=
 ∀(pins:List (Addr×Obj)) (s:Shared) (σ:St) (H:Hp) (x:V) (v vl vu:Value) (lo hi:Option Int) (sl:Addr) (Q:VK),Inv X pins σ H s->bR x v->s.heap.IsSliceOf sl vl vu .none->IsPart vl lo->IsPart vu hi->r x lo hi H Q ->
  ∃T id,typeLookup (.type T) "__getitem__" = pure (some (.builtin id))/\s.TypeIs v T/\wpAny (model X.prog X.w) X.A (getItem v (.ref sl)) (EP X pins σ Q) X.xe s
theorem SlR.or{r r':V->Option Int->Option Int->Hp->VK->Prop}(h:SlR X r)(h':SlR X r'):SlR X (λx lo hi H Q=>r x lo hi H Q\/r' x lo hi H Q):=by
 intro pins s σ H x v vl vu lo hi sl Q I rx hs pl pu q
 rcases q with q|q
 . exact h pins s σ H x v vl vu lo hi sl Q I rx hs pl pu q
 . exact h' pins s σ H x v vl vu lo hi sl Q I rx hs pl pu q
def tSl(r:V->Option Int->Option Int->Hp->VK->Prop)(te:TE)(tl th:TO):TE:=λσ H Q=>te σ H λx H1=>tl σ H1 λl H2=>th σ H2 λu H3=>r x l u H3 Q
theorem aDj{r:V->Option Int->Option Int->Hp->VK->Prop}(hr:SlR X r)(he:PE X e te)(hl:PO X lo tl)(hu:PO X hi th):PE X (.Subscript e (.Slice lo hi none p2) pos) (tSl r te tl th):=by
 intro pins s σ H Q I h
 refine Subscript_ (thn (he pins s σ H _ I h) λv s1 ⟨x,H1,I1,r1,q1⟩=>?_)
 refine wpAny_Slice (thn (hl pins s1 σ H1 _ I1 q1) λvl s2 ⟨l,H2,I2,pl,q2⟩=>thn (hu pins s2 σ H2 _ I2 q2) λvu s3 ⟨u,H3,I3,pu,q3⟩=>?_)
 rw[evalPart_none]
 refine Ac ?_
 have I4:Inv X pins σ H3 { s3 with heap:=s3.heap.push { cls:=.type "slice",data:=.fields #[vl,vu,.none] } }:=I3.kept (t':=s3.toks) λb ob q=>Ab _ q
 obtain⟨T,id,hT,ht,hg⟩:=hr pins { s3 with heap:=s3.heap.push { cls:=.type "slice",data:=.fields #[vl,vu,.none] } } σ H3 x v vl vu l u s3.heap.objs.size Q I4 r1 (Heap.IsSliceOf.new ..) pl pu q3
 show wpAny (model X.prog X.w) X.A (subscriptTail e (.Slice lo hi none p2) v (.ref s3.heap.objs.size)) (EP X pins σ Q) X.xe { s3 with heap:=s3.heap.push { cls:=.type "slice",data:=.fields #[vl,vu,.none] } }
 exact tail_any (ops:=[.ref s3.heap.objs.size,v]) ht hT hg (by with_unfolding_all rfl)
def wK(xs:List V)(lo hi:Option Int):List V:=(xs.drop (HT.sIx xs.length 0 lo)).take (HT.sIx xs.length xs.length hi-HT.sIx xs.length 0 lo)
theorem nW(xs:List V)(lo hi:Option Int):(wK xs lo hi).length<=xs.length:=by
 unfold wK
 rw[A2,B7]
 omega
def aDk(K:PySem.W.Frag):V->Option Int->Option Int->Hp->VK->Prop:=λx lo hi H Q=>∃a xs,x=.ref a/\SqT K H a xs /\
 ¬ (HT.sIx xs.length 0 lo=0/\HT.sIx xs.length xs.length hi=xs.length)/\∀p,H p=none->Q (.ref p) (upd H p (.tup (wK xs lo hi)))
theorem aHS:SlR X (aDk X.K):=by
 intro pins s σ H x v vl vu lo hi sl Q I rx hs pl pu h
 obtain⟨a,xs,rfl,hx,hw,q⟩:=h
 cases rx
 obtain⟨its,r,ht,hz⟩:=I.tuple hx
 have hlen:its.toArray.size=xs.length:=by rw[Af];exact r.length.symm
 refine⟨"tuple",_,Bx.lookup,ht.typeIs,?_⟩
 refine HT.getItem_tuple_cut ht hs pl pu (by rw[hlen];exact hw) ?_ (by rw[hlen];exact hz)
 rw[hlen]
 refine⟨.ref s.heap.objs.size,_,I.laid (t':=s.toks) (o:=.tup (wK xs lo hi)) (λb ob q=>Ab _ q) (Aj _) ?_,rfl,q _ (I.hok.fresh (Aj _))⟩
 exact⟨A4 (nW xs lo hi) hz,_,(r.drop (HT.sIx xs.length 0 lo)).take (HT.sIx xs.length xs.length hi-HT.sIx xs.length 0 lo),IsTup.new _ _⟩
def aKp(K:PySem.W.Frag):R2:=λx y H Q=>∃a b xs ys,x=.ref a/\y=.ref b/\SqT K H a xs/\SqT K H b ys/\xs≠[]/\xs.length+ys.length<=sizeLine /\
 (ys=[]->Q (.ref a) H)/\(ys≠[]->∀p,H p=none->Q (.ref p) (upd H p (.tup (xs++ys))))
theorem aU.nil_iff{xs:List V}{us:List Value}(r:aU xs us):us=[]↔xs=[]:=by
 cases r with
 | nil=>simp
 | cons _ _=>simp
theorem aFH:OpR X (binaryOp .Add) (aKp X.K):=by
 intro pins s σ H x y v u Q I rx ry h
 obtain⟨a,b,xs,ys,rfl,rfl,ha,hb,hx,hz,q1,q2⟩:=h
 cases rx
 cases ry
 obtain⟨its,r1,p1,_⟩:=I.tuple ha
 obtain⟨its2,r2,p2,_⟩:=I.tuple hb
 refine HT.cat_tup p1 p2 (λz=>hx (r1.nil_iff.mp z)) (λz=>⟨.ref a,H,I,rfl,q1 (r2.nil_iff.mp z)⟩) (λz=>?_) (by rw[<-r1.length,<-r2.length];exact hz)
 refine⟨.ref s.heap.objs.size,_,I.laid (t':=s.toks) (o:=.tup (xs++ys)) (λb ob q=>Ab _ q) (Aj _) ?_,rfl,q2 (λw=>z (r2.nil_iff.mpr w)) _ (I.hok.fresh (Aj _))⟩
 exact⟨by rw[Dk];exact hz,_,r1.append r2,IsTup.new _ _⟩
end
end L2
namespace L2
open PySem PySem.Spec PyProof.Rows
def ixN(n:Nat)(i:Int):Option Nat:=if 0<=i then (if i<n then some i.toNat else none) else if -(n:Int)<=i then some (i+n).toNat else none
def atI{α:Type}(xs:List α)(i:Int):Option α:=(ixN xs.length i).bind λj=>xs[j]?
theorem aAL{n:Nat}{i:Int}{j:Nat}(h:ixN n i=some j):seqIndex? i n=some j/\j<n/\-(n:Int)<=i/\i<n:=by
 unfold ixN at h
 by_cases h0:0<=i
 . rw[if_pos h0] at h
   by_cases h1:i<n
   . rw[if_pos h1] at h
     have e:i.toNat=j:=Ak h
     exact⟨by rw[seqIndex_of h0 h1,e],by omega,by omega,h1⟩
   . rw[if_neg h1] at h;cases h
 . rw[if_neg h0] at h
   by_cases h1:-(n:Int)<=i
   . rw[if_pos h1] at h
     have e:(i+n).toNat=j:=Ak h
     exact⟨by rw[seqIndex_neg (by omega) h1,e],by omega,h1,by omega⟩
   . rw[if_neg h1] at h;cases h
theorem uB{α:Type}{xs:List α}{i:Int}{v:α}(h:atI xs i=some v):∃j,seqIndex? i xs.length=some j/\xs[j]? = some v/\j<xs.length/\-(xs.length:Int)<=i/\i<xs.length:=by
 unfold atI at h
 cases e:ixN xs.length i with
 | none=>rw[e] at h;cases h
 | some j=>
  rw[e] at h
  obtain⟨h1,h2,h3,h4⟩:=aAL e
  exact⟨j,h1,h,h2,h3,h4⟩
def aAM(b:Expr):Prop:=∀o i,subscripted b false o i=operate [o,i] (getItem o i)
def IxR(X:Cx)(r:R2):Prop:=
 ∀(value slice:Expr) (pins:List (Addr×Obj)) (s:Shared) (σ:St) (H:Hp) (x y:V) (v u:Value) (Q:VK),Inv X pins σ H s->bR x v->bR y u->r x y H Q ->
  subscripted slice false v u=operate [v,u] (getItem v u)->wpAny (model X.prog X.w) X.A (subscriptTail value slice v u) (EP X pins σ Q) X.xe s
def MtR(X:Cx)(id:String)(r:V->List V->Hp->VK->Prop):Prop:=
 ∀(pins:List (Addr×Obj)) (s:Shared) (σ:St) (H:Hp) (x:V) (xs:List V) (v:Value) (us:List Value) (Q:VK),Inv X pins σ H s->bR x v->aU xs us->r x xs H Q ->
  wpAny (model X.prog X.w) X.A (call (.builtin id) (v::us)) (EP X pins σ Q) X.xe s
section
variable {X:Cx} {a b:Expr} {ta tb:TE} {pos:Pos}
theorem IxR.or{r r':R2}(h:IxR X r)(h':IxR X r'):IxR X (λx y H Q=>r x y H Q\/r' x y H Q):=by
 intro value slice pins s σ H x y v u Q I rx ry q hs
 rcases q with q|q
 . exact h value slice pins s σ H x y v u Q I rx ry q hs
 . exact h' value slice pins s σ H x y v u Q I rx ry q hs
theorem aKq{r:R2}(hr:IxR X r)(ha:PE X a ta)(hb:PE X b tb)(hs:aAM b):PE X (.Subscript a b pos) (tOp r ta tb):=by
 intro pins s σ H Q I h
 exact Subscript_ (aKd ha hb I h λv u s2 x y H2 I2 rx ry q=>hr a b pins s2 σ H2 x y v u Q I2 rx ry q (hs _ _))
def aKr(K:PySem.W.Frag):R2:=λx y H Q=>∃p xs i v,x=.ref p/\y=.int i/\SqL K H p xs/\atI xs i=some v/\Q v H
def aKs(K:PySem.W.Frag):R2:=λx y H Q=>∃p xs i v,x=.ref p/\y=.int i/\SqT K H p xs/\atI xs i=some v/\Q v H
def aKt:R2:=λx y H Q=>∃z i c,x=.str z/\y=.int i/\z.length<=sizeLine/\atI z.cps.toList i=some c/\Q (.str ⟨#[c]⟩) H
theorem aFI:IxR X (aKr X.K):=by
 intro value slice pins s σ H x y v u Q I rx ry h hs
 obtain⟨p,xs,i,z,rfl,rfl,hq,he,q⟩:=h
 cases rx
 obtain⟨t,rfl⟩:=ry
 obtain⟨its,r,pl,hz⟩:=I.list hq
 obtain⟨j,h1,h2,h3,h4,h5⟩:=uB he
 obtain⟨w,ew,rw'⟩:=r.get h2
 have hl:=r.length
 have hn:=kU
 have fin:EP X pins σ Q w s:=⟨z,H,I,rw',q⟩
 by_cases h0:0<=i
 . have hj:i.toNat=j:=by
    rw[seqIndex_of h0 h5] at h1
    exact Ak h1
   exact item_listR pl.isList h0 (by omega) (by rw[hj];simpa using ew) fin hs
 . have hj:(i+(its.toArray.size:Int)).toNat=j:=by
    rw[seqIndex_neg (by omega) h4] at h1
    rw[Af,<-hl]
    exact Ak h1
   exact subscriptTail_builtinR (x:=w) pl.isList.typeIs slot_list_getitem.lookup
    (wpAny_getItem_list_neg (Q:=λr s'=>r=w/\EP X pins σ Q r s') pl.isList (by omega) (by rw[Af] <;> omega) (by omega) (by rw[hj];simpa using ew) ⟨rfl,fin⟩) hs
theorem aHT:IxR X (aKs X.K):=by
 intro value slice pins s σ H x y v u Q I rx ry h hs
 obtain⟨p,xs,i,z,rfl,rfl,hq,he,q⟩:=h
 cases rx
 obtain⟨t,rfl⟩:=ry
 obtain⟨its,r,pl,hz⟩:=I.tuple hq
 obtain⟨j,h1,h2,h3,h4,h5⟩:=uB he
 obtain⟨w,ew,rw'⟩:=r.get h2
 have hl:=r.length
 have hn:=kU
 have fin:EP X pins σ Q w s:=⟨z,H,I,rw',q⟩
 exact subscriptTail_builtinR (x:=w) pl.typeIs slot_tuple_getitem.lookup
  (getItem_tuple (j:=j) (Q:=λr s'=>r=w/\EP X pins σ Q r s') pl (by omega) (by omega) (by rw[Af,<-hl];exact h1) (by simpa using ew) ⟨rfl,fin⟩) hs
theorem aHU:IxR X aKt:=by
 intro value slice pins s σ H x y v u Q I rx ry h hs
 obtain⟨z,i,c,rfl,rfl,hz,he,q⟩:=h
 obtain⟨t,rfl⟩:=rx
 obtain⟨t',rfl⟩:=ry
 obtain⟨j,h1,h2,h3,h4,h5⟩:=uB he
 have hl:z.cps.toList.length=z.length:=by simp[Str.length]
 rw[hl] at h1 h4 h5
 have hn:=kU
 exact tail_any (typeIs_str s z t) slot_str_getitem.lookup (getItem_str (c:=c) (by
  have e1:decide (i < -(2 ^ 63:Int))=false:=As (by omega)
  have e2:decide (i ≥ 2 ^ 63)=false:=As (by omega)
  rw[e1,e2,Bool.or_false]) (by rw[h1];simpa using h2) ⟨.str ⟨#[c]⟩,H,I.tok _,⟨_,rfl⟩,q⟩) hs
def rIx(K:PySem.W.Frag):R2:=λx y H Q=>aKr K x y H Q\/aKs K x y H Q\/aKt x y H Q
theorem aHV:IxR X (rIx X.K):=aFI.or (aHT.or aHU)
theorem zJ(its:List Value)(n j:Nat)(u:Value):Obj.mapSeq (·.setIfInBounds j u) { cls:=.type "list",data:=.seq its.toArray n }={ cls:=.type "list",data:=.seq (its.set j u).toArray n }:=by
 simp[Obj.mapSeq]
theorem Inv.lst{pins:List (Addr×Obj)}{σ:St}{H:Hp}{s:Shared}{p:Addr}{xs:List V}(I:Inv X pins σ H s)(h:H p=some (.lst xs)) :
 ∃(its:List Value) (n:Nat),aU xs its/\s.heap.get? p=some { cls:=.type "list",data:=.seq its.toArray n }/\xs.length<=sizeLine:=by
 obtain⟨z,its,n,r,e⟩:=I.hok p _ h
 exact⟨its,n,r,e,z⟩
theorem Inv.lstUpd{pins:List (Addr×Obj)}{σ:St}{H:Hp}{s:Shared}{p:Addr}{xs ys:List V}{its its':List Value}{n n':Nat}{f:Obj->Obj}(I:Inv X pins σ H s)(h:H p=some (.lst xs))
 (ho:s.heap.get? p=some { cls:=.type "list",data:=.seq its.toArray n }) (hf:f { cls:=.type "list",data:=.seq its.toArray n }={ cls:=.type "list",data:=.seq its'.toArray n' }) (r:aU ys its') (hz:ys.length<=sizeLine) (t:Nat) :
 Inv X pins σ (upd H p (.lst ys)) { s with heap:=s.heap.update p f,toks:=t }:=by
 have e:(s.heap.update p f).get? p=some { cls:=.type "list",data:=.seq its'.toArray n' }:=by
  rw[Heap.get?_update_self f ho (by rw[hf] <;> rfl),hf]
 refine I.write (x:=p) (e:=p) (by rw[h];trivial) (.inl rfl) (λb u hb q=>(Dl _ _ (Ne.symm hb)).trans q) ⟨_,e⟩ ?_
 exact⟨hz,its',n',r,e⟩
def aKu:V->V->V->Hp->(Hp->Prop)->Prop:=λo i v H Q=>∃p xs k j,o=.ref p/\i=.int k/\H p=some (.lst xs)/\ixN xs.length k=some j/\Q (upd H p (.lst (xs.set j v)))
theorem aDl:aJY X aKu:=by
 intro pins s σ H o i v ov iv u Q I ro ri rv h
 obtain⟨p,xs,k,j,rfl,rfl,hp,hj,q⟩:=h
 cases ro
 obtain⟨t,rfl⟩:=ri
 obtain⟨its,n,r,ho,hz⟩:=I.lst hp
 obtain⟨h1,h2,h3,h4⟩:=aAL hj
 have hl:=r.length
 have hn:=kU
 have I':Inv X pins σ (upd H p (.lst (xs.set j v))) { s with heap:=s.heap.update p (Obj.mapSeq (·.setIfInBounds j u)) }:=
  I.lstUpd hp ho (zJ its n j u) (r.set rv j) (by rw[Ax];exact hz) s.toks
 by_cases h0:0<=k
 . have hk:k.toNat=j:=by
    rw[seqIndex_of h0 h4] at h1
    exact Ak h1
   exact PySem.W.ki_setAt ho h0 (by omega) (by rw[Af,<-hl];exact h4) (by rw[hk];exact⟨_,I',q⟩)
 . have hk:(k+(its.toArray.size:Int)).toNat=j:=by
    rw[seqIndex_neg (by omega) h3] at h1
    rw[Af,<-hl]
    exact Ak h1
   exact PySem.W.ki_setBack ho (by omega) (by rw[Af,<-hl];exact h3) (by omega) (by rw[hk];exact⟨_,I',q⟩)
theorem uC(lo hi:Option Int)(n:Nat):(sliceBounds lo hi none n).1=((HT.sIx n 0 lo:Nat):Int)/\(sliceBounds lo hi none n).2.1=((HT.sIx n n hi:Nat):Int)/\(sliceBounds lo hi none n).2.2=1:=by
 refine⟨?_,?_,rfl⟩
 . cases lo with
   | none=>simp[sliceBounds,HT.sIx]
   | some i=>
    simp only[sliceBounds,HT.sIx,Option.getD_none,show(1:Int)>0 by decide,if_true]
    by_cases h:i<0
    . simp only[h,if_true] <;> omega
    . simp only[h,if_false] <;> omega
 . cases hi with
   | none=>simp[sliceBounds,HT.sIx]
   | some i=>
    simp only[sliceBounds,HT.sIx,Option.getD_none,show(1:Int)>0 by decide,if_true]
    by_cases h:i<0
    . simp only[h,if_true] <;> omega
    . simp only[h,if_false] <;> omega
theorem rT(its:List Value)(lo hi:Option Int):slicePick its.toArray lo hi none=((its.drop (HT.sIx its.length 0 lo)).take (HT.sIx its.length its.length hi-HT.sIx its.length 0 lo)).toArray:=by
 obtain⟨h1,h2,h3⟩:=uC lo hi its.toArray.size
 unfold slicePick
 rw[h1,h2,h3]
 simp only[sliceRange_one,pick_run,Af] <;> rfl
def aDm(K:PySem.W.Frag):V->Option Int->Option Int->Hp->VK->Prop:=λx lo hi H Q=>∃a xs,x=.ref a/\SqL K H a xs/\∀p,H p=none->Q (.ref p) (upd H p (.lst (wK xs lo hi)))
theorem aFJ:SlR X (aDm X.K):=by
 intro pins s σ H x v vl vu lo hi sl Q I rx hs pl pu h
 obtain⟨a,xs,rfl,hx,q⟩:=h
 cases rx
 obtain⟨its,r,ht,hz⟩:=I.list hx
 have hlen:=r.length
 refine⟨"list",_,slot_list_getitem.lookup,ht.isList.typeIs,?_⟩
 refine wpAny_getItem_list_slice ht.isList hs pl pu .none (by simp) ?_ (by rw[Af] <;> omega)
 rw[rT,<-hlen]
 refine⟨.ref s.heap.objs.size,_,I.laid (t':=s.toks) (o:=.lst (wK xs lo hi)) (λb ob q=>Ab _ q) (Aj _) ?_,rfl,q _ (I.hok.fresh (Aj _))⟩
 exact⟨A4 (nW xs lo hi) hz,_,0,(r.drop (HT.sIx xs.length 0 lo)).take (HT.sIx xs.length xs.length hi-HT.sIx xs.length 0 lo),Ai _ rfl⟩
theorem uD:OpR X (compareOp .NotIn) (λx y H Q=>∃i j,x=.str i/\y=.str j/\Q (.bl (!(!(Builtin.Str.occurrences j i 0 j.length 1).isEmpty))) H):=by
 intro pins s σ H x y v u Q I rx ry h
 obtain⟨i,j,rfl,rfl,q⟩:=h
 obtain⟨t,rfl⟩:=rx
 obtain⟨t',rfl⟩:=ry
 exact notIn_str ⟨.bl _,H,I,rfl,q⟩
theorem uE:gA X (.builtin "len") (λxs H Q=>∃p ys,xs=[.ref p]/\(SqL X.K H p ys\/SqT X.K H p ys)/\Q (.int ys.length) H):=by
 intro pins s σ H xs us Q I r h
 obtain⟨p,ys,rfl,hq,q⟩:=h
 obtain⟨u,rfl,rx⟩:=nV r
 cases rx
 have hn:=kU
 rcases hq with hq|hq
 . obtain⟨its,r',pl,hz⟩:=I.list hq
   have hlen:=r'.length
   exact Calls.call_len_list pl.isList (by simp only[Af] <;> omega) ⟨.int ys.length,H,I.tok _,⟨s.toks+1,by rw[Af,hlen]⟩,q⟩
 . obtain⟨its,r',pl,hz⟩:=I.tuple hq
   have hlen:=r'.length
   exact len_tuple pl (by simp only[Af] <;> omega) ⟨.int ys.length,H,I.tok _,⟨s.toks+1,by rw[Af,hlen]⟩,q⟩
theorem uF:gA X (.builtin "len") (λxs H Q=>∃z,xs=[.str z]/\z.length<=sizeLine/\Q (.int z.length) H):=by
 intro pins s σ H xs us Q I r h
 obtain⟨z,rfl,hz,q⟩:=h
 obtain⟨u,rfl,t,rfl⟩:=nV r
 have hn:=kU
 exact len_str (by omega) ⟨.int z.length,H,I.tok _,⟨_,rfl⟩,q⟩
theorem gA.or{f:Value}{r r':List V->Hp->VK->Prop}(h:gA X f r)(h':gA X f r'):gA X f (λxs H Q=>r xs H Q\/r' xs H Q):=by
 intro pins s σ H xs us Q I rs q
 rcases q with q|q
 . exact h pins s σ H xs us Q I rs q
 . exact h' pins s σ H xs us Q I rs q
theorem uG:gA X (.type "list") (λxs H Q=>∃p ys,xs=[.ref p]/\(SqL X.K H p ys\/SqT X.K H p ys)/\∀l,H l=none->Q (.ref l) (upd H l (.lst ys))):=by
 intro pins s σ H xs us Q I r h
 obtain⟨p,ys,rfl,hq,q⟩:=h
 obtain⟨u,rfl,rx⟩:=nV r
 cases rx
 have fin:∀(its:List Value),aU ys its->ys.length<=sizeLine->∀(h':Heap) (c':Nat),(∀b o',s.heap.get? b=some o'->h'.get? b=some o') ->
  h'.get? s.heap.objs.size=some { cls:=.type "list",dict:=none,data:=.seq its.toArray c',slots:=#[] }->EP X pins σ Q (.ref s.heap.objs.size) { s with heap:=h' }:=λits r' hz h' c' kp e=>
  ⟨.ref s.heap.objs.size,_,I.laid (t':=s.toks) kp (Aj _) (show fI X.prog X.w _ h' _ (.lst ys) from⟨hz,its,c',r',e⟩),rfl,q _ (I.hok.fresh (Aj _))⟩
 rcases hq with hq|hq
 . obtain⟨its,r',pl,hz⟩:=I.list hq
   have hlen:=r'.length
   obtain⟨o,ho,hc,n,hd⟩:=pl.isList
   exact call_list_seq p (.inl rfl) ho hc hd (λh' c' kp e=>fin its r' hz h' c' kp e) (by simp only[Af] <;> omega)
 . obtain⟨its,r',pl,hz⟩:=I.tuple hq
   have hlen:=r'.length
   obtain⟨o,ho,hc,n,hd⟩:=pl
   exact call_list_seq p (.inr rfl) ho hc hd (λh' c' kp e=>fin its r' hz h' c' kp e) (by simp only[Af] <;> omega)
theorem rV:gA X (.type "tuple") (λxs H Q=>∃p ys,xs=[.ref p]/\((SqL X.K H p ys/\∀l,H l=none->Q (.ref l) (upd H l (.tup ys)))\/(SqT X.K H p ys/\Q (.ref p) H))):=by
 intro pins s σ H xs us Q I r h
 obtain⟨p,ys,rfl,h⟩:=h
 obtain⟨u,rfl,rx⟩:=nV r
 cases rx
 rcases h with⟨hq,q⟩|⟨hq,q⟩
 . obtain⟨its,r',pl,hz⟩:=I.list hq
   have hlen:=r'.length
   refine call_tuple_list pl.isList (λh' kp=>?_) (by simp only[Af] <;> omega)
   have I1:Inv X pins σ H { s with heap:=h' }:=I.kept (t':=s.toks) kp
   have I2:Inv X pins σ (upd H h'.objs.size (.tup ys)) { s with heap:=h'.push { cls:=.type "tuple",data:=.seq its.toArray } }:=
    I1.laid (t':=s.toks) (λb o e=>Ab _ e) (Aj _) (show fI X.prog X.w _ _ _ (.tup ys) from⟨hz,its,r',IsTup.new _ _⟩)
   exact⟨.ref h'.objs.size,_,I2,rfl,q _ (I1.hok.fresh (Aj _))⟩
 . obtain⟨its,r',pl,hz⟩:=I.tuple hq
   exact call_tuple_same pl ⟨.ref p,H,I,rfl,q⟩
def tyV(K:PySem.W.Frag)(T:String)(x:V)(H:Hp):Prop:=match x with
 | .str _=>T = "str"
 | .int _=>T = "int"
 | .ref p=>(T = "list" /\ ∃xs,SqL K H p xs)\/(T = "tuple" /\ ∃o,K.lookup p=some o/\o.cls=.type "tuple" /\ o.dict=none) \/
  (T = "dict" /\ ((∃kvs,H p=some (.dK kvs))\/∃kvs,H p=some (.dT kvs)))\/(T = "set" /\ ∃S n,H p=some (.set S n))
 | _=>False
theorem aHW{pins:List (Addr×Obj)}{σ:St}{H:Hp}{s:Shared}{T:String}{x:V}{v:Value}(I:Inv X pins σ H s)(r:bR x v)(ty:tyV X.K T x H) :
 s.TypeIs v T/\∀a,v=.ref a->∃ob,s.heap.get? a=some ob/\ob.dict=none:=by
 cases x with
 | str z=>
  obtain⟨t,rfl⟩:=r
  cases(show T = "str" from ty)
  exact⟨typeIs_str s z t,λ_ e=>nomatch e⟩
 | int i=>
  obtain⟨t,rfl⟩:=r
  cases(show T = "int" from ty)
  exact⟨typeIs_int s i t,λ_ e=>nomatch e⟩
 | ref p=>
  cases r
  rcases ty with⟨rfl,xs,hq⟩|⟨rfl,o,hk,hc,hd⟩|⟨rfl,hk⟩|⟨rfl,S,n,hk⟩
  . obtain⟨its,_,pl,_⟩:=I.list hq
    refine⟨pl.isList.typeIs,λa e=>?_⟩
    cases e
    obtain⟨o,n,e,c,hd,_⟩:=pl
    exact⟨o,e,hd⟩
  . refine⟨⟨o,I.kIn p o hk,hc⟩,λa e=>?_⟩
    cases e
    exact⟨o,I.kIn _ o hk,hd⟩
  . have z:∃o,s.heap.get? p=some o/\o.ExactDict:=by
     rcases hk with⟨kvs,hk⟩|⟨kvs,hk⟩
     . obtain⟨_,_,_,_,o,_,_,e,ex,_⟩:=I.hok p _ hk
       exact⟨o,e,ex⟩
     . obtain⟨_,_,_,_,o,_,_,e,ex,_⟩:=I.hok p _ hk
       exact⟨o,e,ex⟩
    obtain⟨o,e,ex⟩:=z
    refine⟨⟨o,e,ex.1⟩,λa e2=>?_⟩
    cases e2
    exact⟨o,e,ex.2.1⟩
  . obtain⟨o,_,_,_,e,ex,_⟩:=I.hok p _ hk
    refine⟨⟨o,e,ex.1⟩,λa e2=>?_⟩
    cases e2
    exact⟨o,e,ex.2.1⟩
 | _=>exact False.elim ty
def tBM(K:PySem.W.Frag)(T:String)(r:V->List V->Hp->VK->Prop)(to:TE)(t:TA):TE:=λσ H Q=>to σ H λx H1=>tyV K T x H1/\t σ H1 λxs H2=>r x xs H2 Q
variable {o e:Expr} {es:List Expr} {to:TE} {t:TA} {name:Str} {apos cpos:Pos} {T id:String} {r:V->List V->Hp->VK->Prop}
theorem aGQ(pa:PlainAttrs T)(slot:Slot T name id)(hty:typeOf (.builtin id)=pure (.type "method_descriptor"))(hm:MtR X id r)(ho:PE X o to)(ha:PA X (e::es) t)
 (hbase:attributeBase o name X.env (eval o X.env)=eval o X.env:=by rfl)
 (hfew:((backTo cpos (starEach (e::es) X.env)).all (λx=>!x.1)&&(backToKw cpos (keywordEach [] X.env)).all (λx=>x.1.isSome)
  && decide ((e::es).length+([]:List Keyword).length+(if ([]:List Keyword).isEmpty then 0 else 1)<30))=true:=by rfl)
 (hline:(apos.endLine==cpos.line)=true:=by rfl) (hs:starEach (e::es) X.env=(false,eval e X.env)::starEach es X.env:=by rfl) (hplain:(backTo cpos (starEach es X.env)).any (·.1)=false:=by rfl) :
 PE X (.Call (.Attribute o name apos) (e::es) [] cpos) (tBM X.K T r to t):=by
 intro pins s σ H Q I h
 refine wpAny_Call_method_late hbase hfew hline rfl (thn (ho pins s σ H _ I h) λv s1 ⟨x,H1,I1,r1,ty,q1⟩=>?_)
 obtain⟨h1,h2⟩:=aHW I1 r1 ty
 refine⟨T,id,pa,slot,hty,h1,h2,?_⟩
 have hA:=ha cpos pins s1 σ H1 _ I1 q1
 rw[hs] at hA ⊢
 refine Calls.callWith_builtin (by show(false||(backTo cpos (starEach es X.env)).any (·.1))=false;rw[hplain] <;> rfl) (Calls.evalArgs_plain ?_)
 exact thn hA λus s2 ⟨vs,H2,I2,r2,q2⟩=>hm pins s2 σ H2 x vs v us Q I2 r1 r2 q2
end
end L2
namespace L2
open PySem PySem.Spec PyProof.Rows
def MtM(X:Cx)(id:String)(r:V->List V->Hp->VK->Prop):Prop:=
 ∀(pins:List (Addr×Obj)) (s:Shared) (σ:St) (H:Hp) (x:V) (xs:List V) (v:Value) (us:List Value) (Q:VK),Inv X pins σ H s->bR x v->aU xs us->r x xs H Q ->
  wpAny (model X.prog X.w) X.A (call (.builtin id) (v::us)) (EP X pins σ Q) X.xe s
theorem aU.one:∀{x:V} {us:List Value},aU [x] us->∃u,us=[u]/\bR x u:=by
 intro x us h
 cases h with|cons r t=>cases t;exact⟨_,rfl,r⟩
theorem aU.zero:∀{us:List Value},aU [] us->us=[]
 | _,.nil=>rfl
theorem aU.eraseIdx:∀{xs:List V} {us:List Value} (i:Nat),aU xs us->aU (xs.eraseIdx i) (us.eraseIdx i)
 | _,_,_,.nil=>.nil
 | _,_,0,.cons _ t=>t
 | _,_,i+1,.cons r t=>.cons r (aU.eraseIdx i t)
theorem aU.reverse{xs:List V}{us:List Value}(h:aU xs us):aU xs.reverse us.reverse:=by
 induction h with
 | nil=>exact .nil
 | cons r t ih=>rw[D7,D7];exact aU.append ih (.cons r .nil)
theorem aU.rep{xs:List V}{us:List Value}(h:aU xs us):∀k:Nat,aU (List.replicate k xs).flatten (List.replicate k us).flatten
 | 0=>.nil
 | k+1=>by
  rw[Bq,Bq,Cc,Cc]
  exact aU.append h (aU.rep h k)
theorem sJ(its:List Value):∀(k:Nat) (acc:List Value),
 List.foldl (λx1 x2=>x1++x2) acc.toArray (List.replicate k its.toArray)=(acc++(List.replicate k its).flatten).toArray
 | 0,acc=>by simp
 | k+1,acc=>by
  have e:acc.toArray++its.toArray=(acc++its).toArray:=by simp
  have e2:(acc++its)++(List.replicate k its).flatten=acc++(List.replicate (k+1) its).flatten:=by
   rw[Bq,Cc,Cd]
  rw[<-e2,<-sJ its k (acc++its),<-e,Bq,B6]
section
variable {X:Cx} {pins:List (Addr×Obj)} {σ:St} {H:Hp} {s:Shared} {l b:Addr} {xs ys zs:List V}
theorem Inv.lset{its its':List Value}{n:Nat}{f:Array Value->Array Value}{t':Nat}(I:Inv X pins σ H s)(hH:H l=some (.lst xs))
 (e:s.heap.get? l=some { cls:=.type "list",data:=.seq its.toArray n }) (hf:f its.toArray=its'.toArray) (hv:aU ys its') (hz:ys.length<=sizeLine) :
 Inv X pins σ (upd H l (.lst ys)) { s with heap:=s.heap.update l (Obj.mapSeq f),toks:=t' }:=by
 have q:=PySem.IsL.update e f
 rw[hf] at q
 refine I.write (x:=l) (e:=l) (by rw[hH];exact trivial) (.inl rfl) (λb' u hb hu=>(Dl s.heap (Obj.mapSeq f) (Ne.symm hb)).trans hu) ⟨_,q⟩ ?_
 exact⟨hz,its',_,hv,q⟩
theorem Inv.lnew{its:List Value}{t':Nat}(I:Inv X pins σ H s)(hv:aU ys its)(hz:ys.length<=sizeLine) :
 Inv X pins σ (upd H s.heap.objs.size (.lst ys)) { s with heap:=s.heap.push { cls:=.type "list",data:=.seq its.toArray },toks:=t' }:=
 I.laid (λ_ _ q=>Ab _ q) (Aj _) ⟨hz,its,0,hv,Ai _ rfl⟩
theorem Inv.fresh(I:Inv X pins σ H s):H s.heap.objs.size=none:=I.hok.fresh (Aj _)
theorem Inv.lstM(I:Inv X pins σ H s)(hH:H l=some (.lst xs)):xs.length<=sizeLine/\∃(its:List Value) (n:Nat),aU xs its/\xs.length=its.length/\s.heap.get? l=some { cls:=.type "list",data:=.seq its.toArray n }:=by
 obtain⟨z,its,n,r,e⟩:=I.hok l _ hH
 exact⟨z,its,n,r,r.length,e⟩
theorem wL{n:Nat}(h:n<=sizeLine):Builtin.List.listTooLong n=false:=by
 unfold Builtin.List.listTooLong
 exact As (by omega)
end
section
variable {X:Cx}
def aFK:V->List V->Hp->VK->Prop:=λx vs H Q=>∃l xs y,x=.ref l/\vs=[y]/\H l=some (.lst xs)/\xs.length<sizeLine/\Q .non (upd H l (.lst (xs++[y])))
theorem aBP:MtM X "list.append" aFK:=by
 intro pins s σ H x vs v us Q I rx rv h
 obtain⟨l,xs,y,rfl,rfl,hH,hz,q⟩:=h
 cases rx
 obtain⟨u,rfl,ru⟩:=rv.one
 obtain⟨z,its,n,r,hl,e⟩:=I.lstM hH
 refine call_meets F.slot_list_append ⟨_,e,rfl⟩ F.entry_list_append (F.args_list_append_2 _ _) (PySem.list_append l its.toArray n u (by rw[Af];omega)) ⟨e,?_⟩
 refine⟨.non,_,I.lset (its':=its++[u]) hH e (by simp) (r.append (.cons ru .nil)) ?_,rfl,q⟩
 rw[Dk,C6]
 omega
def aFL:V->List V->Hp->VK->Prop:=λx vs H Q=>∃l b xs zs,x=.ref l/\vs=[.ref b]/\H l=some (.lst xs)/\H b=some (.lst zs)/\xs.length+zs.length<=sizeLine/\Q .non (upd H l (.lst (xs++zs)))
theorem aBQ:MtM X "list.extend" aFL:=by
 intro pins s σ H x vs v us Q I rx rv h
 obtain⟨l,b,xs,zs,rfl,rfl,hH,hB,hz,q⟩:=h
 cases rx
 obtain⟨u,rfl,ru⟩:=rv.one
 cases ru
 obtain⟨z,its,n,r,hl,e⟩:=I.lstM hH
 obtain⟨z2,its2,n2,r2,hl2,e2⟩:=I.lstM hB
 have hsz:its.toArray.size+its2.toArray.size<=sizeLine:=by rw[Af,Af];omega
 have hlong:¬ (!its.toArray.isEmpty&&Builtin.List.listTooLong (its.toArray.size+its2.toArray.size))=true:=by
  rw[wL hsz,Bool.and_false]
  exact Dg
 refine call_meets F.slot_list_extend ⟨_,e,rfl⟩ F.entry_list_extend (F.args_list_extend_2 _ _)
  (AutoSeq1.list_extend_list_list_0 l its.toArray n b its2.toArray n2 hlong (by rw[Af];omega) (by omega)) ⟨e,e2,?_⟩
 refine⟨.non,_,I.lset (its':=its++its2) hH e (by simp) (r.append r2) ?_,rfl,q⟩
 rw[Dk]
 omega
def aMZ:R2:=λx y H Q=>∃l k xs,x=.ref l/\y=.int k/\H l=some (.lst xs)/\-(2 ^ 63)<=k/\k<2 ^ 63/\xs.length*k.toNat<=sizeLine /\
 ∀p,H p=none->Q (.ref p) (upd H p (.lst (List.replicate k.toNat xs).flatten))
theorem aFM{α:Type}(xs:List α)(k:Nat):(List.replicate k xs).flatten.length=k*xs.length:=by
 induction k with
 | zero=>simp
 | succ k ih=>rw[Bq,Cc,Dk,ih,Nat.succ_mul,Nat.add_comm]
theorem aHX:OpR X (binaryOp .Mult) aMZ:=by
 intro pins s σ H x y v u Q I rx ry h
 obtain⟨l,k,xs,rfl,rfl,hH,h1,h2,hz,q⟩:=h
 cases rx
 obtain⟨t,rfl⟩:=ry
 obtain⟨z,its,n,r,hl,e⟩:=I.lstM hH
 have hlen:its.toArray.size*k.toNat<=sizeLine:=by rw[Af,<-hl];exact hz
 have hcap:¬ its.toArray.size*k.toNat>(2 ^ 63-1) / 8:=by
  have:(sizeLine:Nat)<=(2 ^ 63-1) / 8:=by decide
  omega
 have hfit:¬ (!Builtin.List.listFitsIndex k)=true:=by
  rw[fitsIndex_both h1 h2]
  exact Dg
 have hlong:¬ Builtin.List.listTooLong (its.toArray.size*k.toNat)=true:=by
  rw[wL hlen]
  exact Dg
 have hnew:List.foldl (λx1 x2=>x1++x2) #[] (List.replicate (if its.toArray.isEmpty=true then 0 else k.toNat) its.toArray)=(List.replicate k.toNat its).flatten.toArray:=by
  have f0:∀m:Nat,List.foldl (λx1 x2=>x1++x2) #[] (List.replicate m its.toArray)=(List.replicate m its).flatten.toArray:=λm=>by
   have:=sJ its m []
   rw[List.nil_append] at this
   exact this
  rw[f0]
  cases its with
  | nil=>simp
  | cons a r'=>rw[if_neg (by simp)]
 refine wpAny_binaryOp_repeat_ref (T:= "list") (U:= "int") (by decide) ⟨_,e,rfl⟩ (λs'=>typeIs_int s' k t) noFill_list_mul F.fills_int_mul F.slot_int_rmul repeat_list F.slot_int_index.lookup
  (call_meets F.slot_int_rmul (typeIs_int s k t) F.entry_int_rmul (F.args_int_rmul_2 _ _) (int___rmul___int_list k t l its.toArray n)
   ⟨e,rfl,⟨_,e,rfl⟩,call_meets F.slot_list_mul ⟨_,e,rfl⟩ F.entry_list_mul (F.args_list_mul_2 _ _) (AutoListH.list___mul___list_int_3 l its.toArray n k t hfit hcap hlong) ⟨e,?_⟩⟩)
 rw[hnew]
 exact⟨.ref _,_,I.lnew (t':=s.toks) (r.rep k.toNat) (by rw[aFM,Nat.mul_comm];exact hz),rfl,q _ I.fresh⟩
end
section
variable {prog:Program} {w:World} {A:Around} {E:Value->Shared->Prop} {s:Shared}
end
section
variable {X:Cx}
end
end L2
namespace Att
open PySem PySem.W PySem.Calls PyProof.Rows
theorem oE{P:Params}{h:Heap}:∀(ns:List Int) (vs:List Value),WellAll P h vs (ns.map WData.int)->IntsAre vs ns:=by
 intro ns
 induction ns with
 | nil=>
  intro vs w
  rw[List.map_nil] at w
  cases w
  exact .nil
 | cons n ns ih=>
  intro vs w
  rw[List.map_cons] at w
  cases w with
  | cons a b=>
   cases a
   exact .cons _ _ (ih _ b)
theorem aBR{l:OpenLaw}{n:Nat}(hn:l.most=some n){P:Params}{h:Heap}{args:List WData}{vals:List Value}
 (hpre:l.row.toRowW.claim.pre args=true) (hwl:WellAll P h vals args) :
 ∃a vs ns,vals=[Value.ref a]/\args=[WData.list (ns.map WData.int)]/\h.get? a=some { cls:=.type "list",data:=.seq vs.toArray }/\IntsAre vs ns/\ns.length<=n:=by
 have hsh:WShape.hasAll [] args [.list .int]=true:=(pre_splitW hpre).1
 have hc:l.pre.holds [] { args:=args }=true:=(pre_splitW hpre).2
 obtain⟨d,r,rfl,h1,h2⟩:=hasAllW_cons hsh
 obtain rfl:=hasAllW_nil h2
 obtain⟨xs,rfl,h3⟩:=hasW_list h1
 obtain⟨ns,rfl⟩:=items_int h3
 have hlen:ns.length<=n:=by
  unfold OpenLaw.pre at hc
  have h4:(WTm.not (.lt (.lit (.int (n:Int))) (.len (.arg 0)))).holds [] { args:=[.list (ns.map .int)] }=true:=by
   have h4:=(holds_andW hc).1
   rw[hn] at h4
   exact h4
  have h5:=condW_of h4 (w_not (w_lt w_lit (w_len_list (w_arg rfl))))
  rw[List.length_map] at h5
  refine Nat.le_of_not_lt λq=>?_
  have q':(n:Int)<((ns.length:Nat):Int):=by omega
  first
   | (rw[Am q'] at h5;exact absurd h5 (by decide))
   | (simp at h5;omega)
 cases hwl with
 | cons w1 w2=>
  cases w2
  cases w1 with
  | list ho hall=>exact⟨_,_,ns,rfl,rfl,ho,oE ns _ hall,hlen⟩
theorem aBS(l:OpenLaw)(args:List WData):l.row.toRowW.claim.post args (.bool true) args=true:=
 postW_of (r:=l.row.toRowW) (X:=(true==true))
  (show WShape.has [] (.bool true) .bool=true by first|rfl|decide|simp[WShape.has,WShape.arms,WShape.armsAll])
  (show(WTm.eq .res (.lit (.bool true))).value [] { args:=args,res:=some (.bool true),after:=args }=some (.bool (true==true)) from w_eq_bool (w_res rfl) w_lit) rfl
theorem attach_call{l:OpenLaw}{n:Nat}{q:Program}{loose:List Str}{XP:(Str->Option Value)->Heap->Prop}{YP:World->Heap->Prop}{d:DefRec}
 (hn:l.most=some n) (hdf:d.params.defaults=[])
 (call:∀(w:World) (s₀ s₁:Shared) (mg mb:Str->Option Value) (fa:Addr) (o:Obj) (pm cd doc:Value) (a:Addr) (vs:List Value) (ns:List Int),
  Ground q loose [] XP w s₀ mg mb s₁.heap->YP w s₁.heap ->
  s₁.heap.get? fa=some o->o.data=.func (docDef d.name d.params d.body d.scope pm cd doc)->s₁.heap.CodeRec cd d.name->mg d.name=some (.ref fa) ->
  s₁.heap.get? a=some { cls:=.type "list",data:=.seq vs.toArray }->IntsAre vs ns->ns.length<=n->s₁.gens=#[] ->
  codeAny (model l.prog w) callerA (.call (.ref fa) ⟨[.ref a],[]⟩) (λr s'=>r=.ok (.ret (.bool true))/\OldK s₁.heap s'.heap/\s'.os=s₁.os/\AllBare s'.gens) s₁) :
 WalkO q loose XP YP l.row.toRowW d [] (λf vs=>PySem.call f vs):=by
 intro w s₀ s₁ mg mb G Y fa o pm cd doc dV kV ho hd hcd hD hmg hg args vals as hpre hlay hrd hwl hlo
 obtain rfl:dV=.none:=Dflts.none hD hdf
 obtain rfl:kV=.none:=Dflts.noKw hD
 obtain⟨a,vs,ns,rfl,rfl,hobj,hints,hlen⟩:=aBR hn hpre hwl
 refine enter_call (Du (call w s₀ s₁ mg mb fa o pm cd doc a vs ns G Y ho (fd_plain hd) hcd hmg hobj hints hlen hg) λr s' hq=>?_)
 obtain⟨rfl,h2,h3,h4⟩:=hq
 exact⟨.inl ⟨.bool true,.bool true,[],rfl,λ_=>rfl,.bool true,aBS l _,λ_=>⟨List.Pairwise.nil,λ_ hm=>(nomatch hm)⟩⟩,h2,h3,h4⟩
section
variable {prog:Program} {w:World} {A:Around} {E:Value->Shared->Prop} {s:Shared} {K:Frag}
end
end Att
namespace L2
open PySem PySem.Spec PyProof.Rows
theorem gX:∀{vs:List Value} {ns:List Int},IntsAre vs ns->aU (ns.map V.int) vs
 | _,_,.nil=>.nil
 | _,_,.cons n t h=>.cons ⟨t,rfl⟩ (gX h)
def aFN(H:Hp):Prop:=∀b,H b=none\/∃o xs,H b=some (.frz o (.lst xs))
theorem aDn{P:Program}{w:World}{K:PySem.W.Frag}{mg mb:Str->Option Value}{CX:CXT}{k:Nat}{fa a:Addr}{fd:FuncData}{x:Str}{sp:Sp}{s₁:Shared}{vs:List Value}{ns:List Int}
 (KX:K.In s₁.heap) (hns:s₁.heap.Ns mainGlobals mg) (hb:s₁.heap.Ns builtinsNs mb) (hbb:∀x:Str,x ≠ "__name__" -> mb x=bootBuiltins x) (hlim:s₁.heap.NoLimit) (hg:s₁.gens=#[])
 (ha:s₁.heap.get? a=some { cls:=.type "list",data:=.seq vs.toArray }) (hi:IntsAre vs ns) (hl:ns.length<=sizeLine) (hr:kW k callerA)
 (F:∀base:Heap,K.In base->base.Ns mainGlobals mg->oD P w K mg base CX k fa fd [x] sp) (hbind:∀(s:Shared) (u:Value),BindsTo s fd ⟨[u],[]⟩ [(x,u)])
 (hsp:∀H:Hp,aFN H->SqL K H a (ns.map V.int)->sp [.ref a] H (λv _=>v=.bl true) λ_ _ _=>False)
 (hCX:∀H e s',CX [] H s₁ (λ_ _ _=>False) e s'->False) :
 codeAny (model P w) callerA (.call (.ref fa) ⟨[.ref a],[]⟩) (λr s'=>r=.ok (.ret (.bool true))/\OldK s₁.heap s'.heap/\s'.os=s₁.os/\AllBare s'.gens) s₁:=by
 have rv:=gX hi
 have lenV:=hi.length
 have core:∀H:Hp,aFN H->SqL K H a (ns.map V.int)->HOk P w H s₁.heap->(∀b,H b≠none->b=a)->(H a≠none->K.lookup a=none) ->
  codeAny (model P w) callerA (.call (.ref fa) ⟨[.ref a],[]⟩) (λr s'=>r=.ok (.ret (.bool true))/\OldK s₁.heap s'.heap/\s'.os=s₁.os/\AllBare s'.gens) s₁:=by
  intro H hO hS hok hA hK
  have base_of:∀{b:Addr} {o:Obj},s₁.heap.get? b=some o->H b=none->(tX s₁.heap H).get? b=some o:=λe n=>aCT e n
  have noA:∀{b:Addr} {o:Obj} {es:Array DictEntry} {ep:Nat},s₁.heap.get? b=some o->o.data=.dict es ep->H b=none:=λ{b o es ep} e d=>by
   cases q:H b with
   | none=>rfl
   | some u=>
    have e':b=a:=hA b (by rw[q];simp)
    subst e'
    rw[ha] at e;cases e
    have d':Data.seq vs.toArray _=Data.dict es ep:=d
    cases d'
  have nsK:∀{b:Addr} {m:Str->Option Value},s₁.heap.Ns b m->(tX s₁.heap H).Ns b m:=λ{b m} ⟨o,es,ep,e,d,r⟩=>⟨o,es,ep,base_of e (noA e d),d,r⟩
  have hKb:K.In (tX s₁.heap H):=λb o e=>base_of (KX b o e) (by
   cases q:H b with
   | none=>rfl
   | some u=>
    have e':b=a:=hA b (by rw[q];simp)
    subst e'
    rw[hK (by rw[q];simp)] at e;cases e)
  have hM:Mod K mg (tX s₁.heap H):=⟨hKb,nsK hns,⟨mb,nsK hb,hbb⟩,let ⟨mc,h1,h2⟩:=hlim;⟨mc,nsK h1,h2⟩⟩
  have e0:aFC P w K mg (tX s₁.heap H) callerA [] s₁ H:=⟨rfl,hM,λb o e=>aFp e,Nat.le_of_eq (aBG _ _),trivial,λb hb=>absurd (show b∈([]:List Addr) from hb) (by simp),hok,.of_eq hg⟩
  refine Du ((F _ hKb (nsK hns)).run callerA [] s₁ H ⟨[.ref a],[]⟩ [.ref a] [.ref a] _ _ hr e0 (hbind s₁ (.ref a)) (.cons rfl .nil) (hsp H hO hS)) λr s' h=>?_
  cases r with
  | error e=>exact(hCX H e s' h).elim
  | ok fl=>
   cases fl with
   | next=>exact False.elim h
   | brk=>exact False.elim h
   | cont=>exact False.elim h
   | ret u=>
    obtain⟨v,H',os,bare,un,hok',r',q⟩:=h
    have q':v=.bl true:=q
    subst q'
    obtain rfl:u=Value.bool true:=r'
    refine⟨rfl,OldK.of_keep λb o e=>?_,os,bare⟩
    cases q:H b with
    | none=>exact un.keep b o e q (by intro z;exact absurd (show b∈([]:List Addr) from z) (by simp)) (by simp)
    | some u=>
     rcases hO b with z|⟨ob,xs,z⟩
     . rw[q] at z;cases z
     . have z2:=un.frzs b ob _ z
       obtain⟨e1,_⟩:=hok b _ z
       obtain⟨e2,_⟩:=hok' b _ z2
       rw[e] at e1;cases e1
       exact e2
 cases hk:K.lookup a with
 | some o=>
  have e:=KX a o hk
  rw[ha] at e
  cases e
  refine core (λ_=>none) (λ_=>.inl rfl) (.inr ⟨_,vs.toArray,_,hk,rfl,rfl,rfl,by rw[Af,lenV];exact hl,by simpa using rv⟩) (λb u z=>by have z':(none:Option HO)=some u:=z;cases z') (λb z=>absurd rfl z) λz=>absurd rfl z
 | none=>
  refine core (λb=>if b=a then some (.frz { cls:=.type "list",data:=.seq vs.toArray } (.lst (ns.map V.int))) else none) (λb=>?_) (.inl (.inr ⟨{ cls:=.type "list",data:=.seq vs.toArray },if_pos rfl⟩)) (λb u z=>?_) (λb z=>?_) λ_=>hk
  . by_cases hb:b=a
    . exact .inr ⟨_,_,if_pos hb⟩
    . exact .inl (if_neg hb)
  . by_cases hb:b=a
    . have z':=(if_pos hb).symm.trans z
      cases z'
      subst hb
      exact⟨ha,by rw[List.length_map];exact hl,vs,_,rv,ha⟩
    . have z':=(if_neg hb).symm.trans z
      cases z'
  . by_cases hb:b=a
    . exact hb
    . exact absurd (if_neg hb) z
end L2
namespace L2
open PySem PySem.Spec PyProof.Rows
end L2
namespace L2
open PySem PySem.Spec PyProof.Rows
def jV(s:Stmt):Arguments:=match s with
 | .FunctionDef _ a _ _ _ _ _ _ _ _=>a
 | _=>{ posonlyargs:=[],args:=[],vararg:=none,kwonlyargs:=[],kw_defaults:=[],kwarg:=none,defaults:=[] }
def jW(s:Stmt):List Stmt:=match s with
 | .FunctionDef _ _ b _ _ _ _ _ _ _=>b
 | _=>[]
def cD(s:Stmt):Scope:=match s with
 | .FunctionDef _ _ _ _ _ _ sc _ _ _=>sc
 | _=>{ kind:=.function,names:=[],isGenerator:=false,isCoroutine:=false }
abbrev CX0:CXT:=λ_ _ _ _ _ _=>False
abbrev E0:XK:=λ_ _ _=>False
theorem aGR{X:Cx}:uA CX0 X E0:=λ_ _ _ _ _ _ _ h=>h.elim
structure Fun (K:PySem.W.Frag) (x qual:Str) (st:Stmt) (f:Addr) (fd:FuncData):Prop where
 ex:∃(oc:Value) (od:Option Addr) (kV doc pm:Value) (an:Option Addr) (cdv ct:Value) (osl:Array (Option Value)),
  fd=PySem.W.fnOf x qual (jV st) (jW st) (cD st) .none kV doc pm an cdv ct/\K.lookup f=some ⟨oc,od,.func fd,osl⟩/\PySem.W.codeIn K cdv qual=true
 kp:PySem.W.keepIn K (.ref f)=true
section
variable {P:Program} {w:World} {K:PySem.W.Frag} {mg:Str->Option Value} {base:Heap}
theorem Fun.ok{x qual:Str}{st:Stmt}{f:Addr}{fd:FuncData}{N ps:List Str}{k:Nat}{sp:Sp}(F:Fun K x qual st f fd)(S:oP N ps (cD st))(len:∀vs H Q E,sp vs H Q E->vs.length=ps.length)
 (hbody:∀(cdv:Value) (A:Around) (outer:List Env) (s:Shared) (H:Hp) (vs:List V) (Q:VK) (E:XK),kW k (A.deeper (envOfC qual (cD st) s.heap.objs.size f cdv))->sp vs H Q E ->
  ∃t,PSs (zG CX0 P w K mg base N qual (cD st) f cdv A outer s H E).nox (jW st) t/\t { nx:=λ_ H'=>Q .non H',rt:=Q } (start N vs) H):oD P w K mg base CX0 (k+1) f fd ps sp:=by
 obtain⟨oc,od,kV,doc,pm,an,cdv,ct,osl,rfl,lk,hcd⟩:=F.ex
 refine aKn lk hcd S len λA outer s H vs Q E hr hsp=>?_
 obtain⟨t,h,q⟩:=hbody cdv A outer s H vs Q E hr hsp
 exact⟨t,h.nox,q⟩
theorem Fun.binds{x qual:Str}{st:Stmt}{f:Addr}{fd:FuncData}{ps:List Str}(F:Fun K x qual st f fd)
 (h:∀(kV doc pm:Value) (an:Option Addr) (cdv ct:Value) (us:List Value),us.length=ps.length->bindArgs (PySem.W.fnOf x qual (jV st) (jW st) (cD st) .none kV doc pm an cdv ct) ⟨us,[]⟩=pure (ps.zip us)):kM K fd ps []:=by
 obtain⟨oc,od,kV,doc,pm,an,cdv,ct,osl,rfl,lk,hcd⟩:=F.ex
 exact .all (h kV doc pm an cdv ct)
end
section
variable {X:Cx}
end
theorem aKv{A B:Prop}(h:B):if false=true then A else B:=by
 rw[if_neg Dg]
 exact h
theorem aNa{A B:Prop}(h:A):if true=true then A else B:=by
 rw[if_pos rfl]
 exact h
def aX(H H':Hp):Prop:=∀b o,H b=some o->H' b=some o
theorem aX.refl(H:Hp):aX H H:=λ_ _ h=>h
theorem aX.trans{H H1 H2:Hp}(a:aX H H1)(b:aX H1 H2):aX H H2:=λc o h=>b c o (a c o h)
theorem aX.free{H H':Hp}(e:aX H H'){l:Addr}(h:H' l=Option.none):H l=Option.none:=by
 cases q:H l with
 | none=>rfl
 | some o=>
  rw[e l o q] at h
  cases h
theorem aX.seq{K:PySem.W.Frag}{H H':Hp}{a:Addr}{xs:List V}(e:aX H H')(h:SqL K H a xs):SqL K H' a xs:=by
 rcases h with(h|⟨o,h⟩)|h
 . exact .inl (.inl (e _ _ h))
 . exact .inl (.inr ⟨o,e _ _ h⟩)
 . exact .inr h
end L2
end
noncomputable section
namespace L2
open PySem PySem.Spec PyProof.Rows PySem.SeqAt
end L2
end
noncomputable section
namespace Hp
open PySem (Str Operator CmpOp)
inductive D where
 | non|bl (b:Bool)|int (i:Int)|str (x:Str)
 | tup (ds:List D)|lst (ds:List D)
 | dic (kvs:List (D×D))
 | err (c:Nat) (fs:List D)
 deriving Inhabited
mutual
def noL:D->Bool
 | .tup ds=>noLs ds
 | .lst _=>false
 | .dic _=>false
 | .err _ _=>false
 | _=>true
def noLs:List D->Bool
 | []=>true
 | d::ds=>noL d&&noLs ds
end
mutual
def iU:D->Bool
 | .tup ds=>noDics ds
 | .lst ds=>noDics ds
 | .dic _=>false
 | _=>true
def noDics:List D->Bool
 | []=>true
 | d::ds=>iU d&&noDics ds
end
def lim:Nat:=1000000
def b2i(b:Bool):Int:=if b then 1 else 0
def eqL(f:D->D->Option Bool):List D->List D->Option Bool
 | [],[]=>some true
 | a::as,b::bs=>match f a b,eqL f as bs with
  | some x,some y=>some (x&&y)
  | _,_=>none
 | _,_=>some false
def eqF:Nat->D->D->Option Bool
 | 0,_,_=>none
 | n+1,a,b=>match a,b with
  | .non,.non=>some true
  | .bl a,.bl b=>some (a==b)
  | .int a,.int b=>some (a==b)
  | .str a,.str b=>some (a==b)
  | .bl a,.int b=>some (b2i a==b)
  | .int a,.bl b=>some (a==b2i b)
  | .tup as,.tup bs=>eqL (eqF n) as bs
  | .lst as,.lst bs=>if as.length=bs.length then eqL (eqF n) as bs else some false
  | .dic _,_=>none
  | _,.dic _=>none
  | .err _ _,_=>none
  | _,.err _ _=>none
  | _,_=>some false
def gQ(n:Nat):List D->List D->Option Bool
 | [],[]=>some true
 | a::as,b::bs=>match eqF n a b,gQ n as bs with
  | some x,some y=>some (x&&y)
  | _,_=>none
 | _,_=>some false
@[simp] theorem zK (n:Nat):∀as bs:List D,eqL (eqF n) as bs=gQ n as bs
 | [],[]=>rfl
 | [],_::_=>rfl
 | _::_,[]=>rfl
 | a::as,b::bs=>by rw[eqL,gQ,zK n as bs]
def lQ:Nat:=120
def eqD(a b:D):Option Bool:=eqF lQ a b
inductive R (α:Type) where
 | ok (a:α)|exc (x:D)|bad
 deriving Inhabited
def R.bind{α β:Type}(x:R α)(f:α->R β):R β:=match x with
 | .ok a=>f a
 | .exc e=>.exc e
 | .bad=>.bad
instance:Monad R where
 pure:=.ok
 bind:=.bind
def R.of{α:Type}:Option α->R α
 | some a=>.ok a
 | none=>.bad
def R.iff{α:Type}(c:Bool)(x:R α):R α:=if c then x else .bad
structure Vl where
 d:D
 fr:Bool:=false
 pa:Bool:=false
 al:List Nat:=[]
 deriving Inhabited
def Vl.cl(d:D):Vl:=⟨d,false,false,[]⟩
def Vl.sub(v:Vl)(d:D):Vl:=if noL d then .cl d else ⟨d,false,v.pa,v.al⟩
inductive Sl where
 | x|sh (pa:Bool) (d:D)|own (pa:Bool) (ds:List D)
 deriving Inhabited
abbrev Sg:=List Sl
def Sl.val(i:Nat):Sl->R Vl
 | .x=>.bad
 | .sh pa d=>.ok ⟨d,false,pa&&!noL d,[]⟩
 | .own pa ds=>.ok ⟨.lst ds,false,pa,[i]⟩
def bY(σ:Sg)(i:Nat):R Vl:=match σ[i]? with
 | some s=>s.val i
 | none=>.bad
def Sl.freeze:Sl->Sl
 | .own pa ds=>.sh pa (.lst ds)
 | s=>s
def freeze(σ:Sg):List Nat->Sg
 | []=>σ
 | i::is=>freeze (match σ[i]? with|some s=>σ.set i s.freeze|none=>σ) is
def Vl.slot(v:Vl):Sl:=match v.fr,v.d with
 | true,.lst ds=>.own v.pa ds
 | _,d=>.sh v.pa d
inductive Bi where
 | len|list|tuple|min|max|abs|int|str|sum|all|any|sorted|bool|repr
 deriving DecidableEq,Inhabited
inductive Mt where
 | join|upper|lower|get|startswith|endswith|index|count|copy|isdigit|find|replace|split|strip
 deriving DecidableEq,Inhabited
inductive Cl where
 | tInt|tBool|tStr|tList|tTuple|tDict|own (c:Nat)|tValueError
 deriving DecidableEq,Inhabited
inductive T where
 | n (i:Nat)
 | t (ts:List Nat)
 deriving Inhabited
mutual
inductive E where
 | c (d:D)
 | v (i:Nat)
 | op (o:Operator) (a b:E)
 | neg (a:E)
 | nt (a:E)
 | an (a b:E)
 | orr (a b:E)
 | ife (t a b:E)
 | cmp (o:CmpOp) (a b:E)
 | cmp2 (o o':CmpOp) (a b c:E)
 | idx (a b:E)
 | sli (a:E) (lo hi:Es)
 | tup (es:Es)
 | lst (es:Es)
 | dic (ks vs:Es)
 | call (f:Nat) (es:Es)
 | bi (b:Bi) (es:Es)
 | mth (m:Mt) (o:E) (es:Es)
 | isi (a:E) (cs:List Cl)
 | attr (a:E) (f:Nat)
 | comp (k:Nat) (caps:List Nat) (t:T) (it:It) (cond:Es) (elt:E)
 | numset (a:E)   -- len(set(a))
 | tget (i:Nat) (a:E)   -- a dict of the module,.get(a)
 | lzip (a b:E)   -- list(zip(a,b))
 | sset (a:E)   -- sorted(set(a)),numbers from 0 to 3
inductive Es where
 | z|k (e:E) (es:Es)
inductive It where
 | seq (e:E)|rng (a b:E)|zip (a b:E)|enum (a:E)|rev (a:E)
end
instance:Inhabited E:=⟨.c .non⟩
inductive Arg where
 | e (a:E)|pop (i:Nat)
 deriving Inhabited
mutual
inductive S where
 | set (t:T) (e:E)
 | mov (i j:Nat)
 | setIx (i:Nat) (k e:E)
 | app (i:Nat) (e:E)
 | ext (i:Nat) (e:E)
 | pop (t:Option T) (i:Nat) (at':Option E)
 | clr (i:Nat)
 | ins (i:Nat) (k e:E)
 | rev (i:Nat)
 | appCall (i:Nat) (f:Nat) (as:List Arg)
 | ret (e:E)
 | retv (i:Nat)
 | retN
 | iff (c:E) (a b:Ss)
 | for (t:T) (it:It) (b:Ss)
 | whl (c:E) (b:Ss)
 | brk|cnt|pass
 | ex (e:E)
 | rse (c:Nat) (keep:Bool) (es:Es)
 | try (b:Ss) (hs:Hs)
 | tryN (b:Ss)   -- try: b,which ends without an exception
 | setU (is:List Nat) (e:E)   -- a,b=e,a list without lists
inductive Ss where
 | z|k (s:S) (ss:Ss)
inductive Hs where
 | z|k (cs:List Cl) (n:Option Nat) (b:Ss) (hs:Hs)
end
structure Fn where
 np:Nat
 ns:Nat
 body:Ss
structure Pg where
 fns:List Fn
 above:List (List Cl)
 tabs:List (List (Str×D)):=[]
abbrev Rt:=D×Bool×Bool
abbrev Caller:=Nat->List D->R Rt
def gY(i j:Int):Bool:=(decide (-(2 ^ 64)<i)&&decide (i<2 ^ 64))||(decide (-(2 ^ 64)<j)&&decide (j<2 ^ 64))
def aGS(i j:Int):Bool:=decide (0<=j)&&decide (j<=1000)&&decide (i.natAbs<2 ^ 64)
def wM(j:Int):Bool:=decide (0<j)&&decide (j<1073741824)
def aN(k:Int):Bool:=decide (-(2 ^ 62)<=k)&&decide (k<2 ^ 62)
def Str.rep(x:Str)(k:Nat):Str:=⟨(List.replicate k x.cps).foldl (·++·) #[]⟩
@[simp] def aHY (x y:Vl):R Vl:=match x.d,y.d with
 | .int i,.int j=>.ok (.cl (.int (i+j)))
 | .str a,.str b=>.iff (decide (a.length+b.length<=lim)) (.ok (.cl (.str (a++b))))
 | .tup a,.tup b=>.iff (decide (a.length+b.length<=lim)) (.ok ⟨.tup (a++b),false,x.pa||y.pa,x.al++y.al⟩)
 | .lst a,.lst b=>.iff (decide (a.length+b.length<=lim)) (.ok ⟨.lst (a++b),true,(x.pa&&!noLs a)||(y.pa&&!noLs b),(if noLs a then [] else x.al)++(if noLs b then [] else y.al)⟩)
 | _,_=>.bad
@[simp] def aHZ (x y:Vl):R Vl:=match x.d,y.d with
 | .int i,.int j=>.iff (gY i j) (.ok (.cl (.int (i*j))))
 | .str a,.int k=>.iff (aN k&&decide (a.length*k.toNat<=lim)) (.ok (.cl (.str (Str.rep a k.toNat))))
 | .lst a,.int k=>.iff (x.fr&&aN k&&decide (a.length*k.toNat<=lim)&&noLs a) (.ok ⟨.lst (List.replicate k.toNat a).flatten,true,false,[]⟩)
 | _,_=>.bad
@[simp] def wN (f:Int->Int->R Vl) (x y:Vl):R Vl:=match x.d,y.d with
 | .int i,.int j=>f i j
 | _,_=>.bad
def opD(o:Operator)(x y:Vl):R Vl:=match o with
 | .Add=>aHY x y
 | .Mult=>aHZ x y
 | .Sub=>wN (λi j=>.ok (.cl (.int (i-j)))) x y
 | .FloorDiv=>wN (λi j=>.iff (wM j) (.ok (.cl (.int (i / j))))) x y
 | .Mod=>wN (λi j=>.iff (decide (0<j)) (.ok (.cl (.int (i % j))))) x y
 | .Pow=>wN (λi j=>.iff (aGS i j) (.ok (.cl (.int (i ^ j.toNat))))) x y
 | _=>.bad
def aDo:D->Option Bool
 | .non=>some false
 | .bl b=>some b
 | .int i=>some (i != 0)
 | .str x=>if x.length<=lim then some (x.length != 0) else none
 | .tup ds=>some (!ds.isEmpty)
 | .lst ds=>some (!ds.isEmpty)
 | _=>none
def gH(x:Vl):R Bool:=.of (aDo x.d)
def ltD:D->D->Option Bool
 | .int a,.int b=>some (decide (a<b))
 | _,_=>none
def leD:D->D->Option Bool
 | .int a,.int b=>some (decide (a<=b))
 | _,_=>none
def isNone:D->Bool
 | .non=>true
 | _=>false
def pN(x:D):List D->Option Bool
 | []=>some false
 | y::ys=>match eqD y x,pN x ys with
  | some a,some b=>some (a||b)
  | _,_=>none
def inD(x y:D):Option Bool:=match x,y with
 | x,.lst ys=>if noDics ys then pN x ys else none
 | x,.tup ys=>if noDics ys then pN x ys else none
 | .str a,.str b=>some (!(PySem.Builtin.Str.occurrences b a 0 b.length 1).isEmpty)
 | _,_=>none
def cG(o:CmpOp)(x y:D):Option Bool:=match o with
 | .Eq=>eqD x y
 | .NotEq=>(eqD x y).map (!·)
 | .Lt=>ltD x y
 | .Gt=>match x,y with
  | .int a,.int b=>some (decide (b<a))
  | _,_=>none
 | .LtE=>leD x y
 | .GtE=>match x,y with
  | .int a,.int b=>some (decide (b<=a))
  | _,_=>none
 | .Is=>match y with
  | .non=>some (isNone x)
  | _=>none
 | .IsNot=>match y with
  | .non=>some (!isNone x)
  | _=>none
 | .In=>inD x y
 | .NotIn=>(inD x y).map (!·)
def ixN(n:Nat)(k:Int):Option Nat:=
 if 0<=k then (if k<n then some k.toNat else none) else (if -(n:Int)<=k then some (k+n).toNat else none)
def eE(x y:Vl):R Vl:=match x.d,y.d with
 | .lst ds,.int k=>match ixN ds.length k with
  | some j=>match ds[j]? with
   | some d=>.ok (x.sub d)
   | none=>.bad
  | none=>.bad
 | .tup ds,.int k=>match ixN ds.length k with
  | some j=>match ds[j]? with
   | some d=>.ok (x.sub d)
   | none=>.bad
  | none=>.bad
 | .str a,.int k=>.iff (decide (a.length<=lim)) (match ixN a.length k with
  | some j=>match a.cps.toList[j]? with
   | some c=>.ok (.cl (.str ⟨#[c]⟩))
   | none=>.bad
  | none=>.bad)
 | _,_=>.bad
def sIx(n d:Nat):Option Int->Nat
 | none=>d
 | some v=>if v<0 then (v+(n:Int)).toNat else min v.toNat n
def cut{α:Type}(xs:List α)(lo hi:Option Int):List α:=(xs.drop (sIx xs.length 0 lo)).take (sIx xs.length xs.length hi-sIx xs.length 0 lo)
def zL(x:Str)(lo hi:Option Int):Str:=⟨(cut x.cps.toList lo hi).toArray⟩
def dQ(x:Vl)(lo hi:Option Int):R Vl:=match x.d with
 | .lst ds=>.ok ⟨.lst (cut ds lo hi),true,x.pa&&!noLs ds,if noLs ds then [] else x.al⟩
 | .tup ds=>.ok ⟨.tup (cut ds lo hi),false,x.pa&&!noLs ds,if noLs ds then [] else x.al⟩
 | .str a=>.iff (decide (a.length<=lim)) (.ok (.cl (.str (zL a lo hi))))
 | _=>.bad
def isI(cs:List Cl)(P:Pg):D->Option Bool
 | .non=>some false
 | .bl _=>some (cs.contains .tBool||cs.contains .tInt)
 | .int _=>some (cs.contains .tInt)
 | .str _=>some (cs.contains .tStr)
 | .tup _=>some (cs.contains .tTuple)
 | .lst _=>some (cs.contains .tList)
 | .dic _=>some (cs.contains .tDict)
 | .err c _=>match P.above[c]? with
  | some ab=>some (ab.any λa=>cs.contains a)
  | none=>none
def aKw:List D->Int->Option Int
 | [],a=>some a
 | .int i::ds,a=>aKw ds (a+i)
 | .bl b::ds,a=>aKw ds (a+b2i b)
 | _,_=>none
def cF:List D->Option (List Bool)
 | []=>some []
 | .bl a::ds=>match cF ds with
  | some bs=>some (a::bs)
  | none=>none
 | _=>none
def gB:List D->Option (List (Sum Int Str))
 | []=>some []
 | .int a::ds=>match gB ds with
  | some ks=>some (.inl a::ks)
  | none=>none
 | .str a::ds=>match gB ds with
  | some ks=>some (.inr a::ks)
  | none=>none
 | _=>none
def pO(ks:List (Sum Int Str)):List (Sum Int Str):=ks.foldl (λσ v=>if σ.any (·==v) then σ else σ++[v]) []
def aKx(x:D):List D->Option (List D)
 | []=>some [x]
 | y::ys=>match ltD x y with
  | some true=>some (x::y::ys)
  | some false=>match aKx x ys with
   | some r=>some (y::r)
   | none=>none
  | none=>none
def aKy:List D->Option (List D)
 | []=>some []
 | d::ds=>match aKy ds with
  | some r=>aKx d r
  | none=>none
@[simp] def zM (b:Bi) (x:Vl):R Vl:=match b with
 | .len=>match x.d with
  | .lst ds=>.ok (.cl (.int ds.length))
  | .tup ds=>.ok (.cl (.int ds.length))
  | .str a=>.iff (decide (a.length<=lim)) (.ok (.cl (.int a.length)))
  | _=>.bad
 | .list=>match x.d with
  | .lst ds=>.ok ⟨.lst ds,true,x.pa&&!noLs ds,if noLs ds then [] else x.al⟩
  | .tup ds=>.ok ⟨.lst ds,true,x.pa&&!noLs ds,if noLs ds then [] else x.al⟩
  | _=>.bad
 | .tuple=>match x.d with
  | .lst ds=>.ok ⟨.tup ds,false,x.pa&&!noLs ds,if noLs ds then [] else x.al⟩
  | .tup ds=>.ok ⟨.tup ds,false,x.pa,x.al⟩
  | _=>.bad
 | .int=>match x.d with
  | .int i=>.ok (.cl (.int i))
  | .bl b=>.ok (.cl (.int (b2i b)))
  | _=>.bad
 | .all=>match x.d with
  | .lst ds=>match cF ds with
   | some bs=>.ok (.cl (.bl (bs.all id)))
   | none=>.bad
  | _=>.bad
 | .any=>match x.d with
  | .lst ds=>match cF ds with
   | some bs=>.ok (.cl (.bl (bs.any id)))
   | none=>.bad
  | _=>.bad
 | _=>.bad
@[simp] def aKz (b:Bi) (x y:Vl):R Vl:=match b with
 | .min=>match x.d,y.d with
  | .int i,.int j=>.ok (.cl (.int (if j<i then j else i)))
  | _,_=>.bad
 | .max=>match x.d,y.d with
  | .int i,.int j=>.ok (.cl (.int (if j>i then j else i)))
  | _,_=>.bad
 | _=>.bad
def biD(b:Bi)(xs:List Vl):R Vl:=match xs with
 | [x]=>zM b x
 | [x,y]=>aKz b x y
 | _=>.bad
def aDp:List D->Option (List Str)
 | []=>some []
 | .str x::ds=>match aDp ds with
  | some r=>some (x::r)
  | none=>none
 | _=>none
def aKA:D->D->Bool
 | .int a,.int b=>a==b
 | .str a,.str b=>a==b
 | _,_=>false
def aKB:D->Bool
 | .int _=>true
 | .str _=>true
 | _=>false
def aGT(k:D):List (D×D)->Option D
 | []=>none
 | (a,d)::r=>if aKA a k then some d else aGT k r
def upC(n:Nat):Nat:=if 97<=n/\n<=122 then n-32 else n
def mtD(m:Mt)(x:Vl)(ys:List Vl):R Vl:=match m,x.d,ys with
 | .join,.str a,[y]=>match y.d with
  | .lst ds=>match aDp ds with
   | some xs=>.iff (decide ((xs.map (·.length)).sum+xs.length*a.length<=lim)) (.ok (.cl (.str (PySem.Str.join a xs))))
   | none=>.bad
  | _=>.bad
 | .get,.dic kvs,[y]=>.iff (aKB y.d) (match aGT y.d kvs with
  | some d=>.ok (x.sub d)
  | none=>.ok (.cl .non))
 | .upper,.str a,[]=>.iff (a.cps.all (·<128)) (.ok (.cl (.str ⟨a.cps.map upC⟩)))
 | _,_,_=>.bad
def bT(vs:List Vl):List Nat:=vs.flatMap (·.al)
def dZ(vs:List Vl):Bool:=vs.any (·.pa)
def sK(vs:List Vl):Vl:=⟨.tup (vs.map (·.d)),false,dZ vs,bT vs⟩
def pP(vs:List Vl):Vl:=⟨.lst (vs.map (·.d)),true,dZ vs,bT vs⟩
def iI(args:List Vl)(r:Rt):Vl:=if r.2.2 then ⟨r.1,r.2.1,dZ args,bT args⟩ else ⟨r.1,r.2.1,false,[]⟩
def pQ:List D->Option (List Nat)
 | []=>some []
 | .int i::ds=>if 0<=i/\i<=3 then (match pQ ds with|some r=>some (i.toNat::r)|none=>none) else none
 | _=>none
def eB(ns:List Nat):List Nat:=(List.range 4).filter λk=>decide (k∈ns)
def fM(a b:Int):List D:=(List.range (b-a).toNat).map λ(k:Nat)=>.int (a+(k:Int))
def gI:Int->List D->List D
 | _,[]=>[]
 | k,d::ds=>.tup [.int k,d]::gI (k+1) ds
def fC:List D->List D->List D
 | a::as,b::bs=>.tup [a,b]::fC as bs
 | _,_=>[]
def cI(σ:Sg)(v:Vl):T->R Sg
 | .n i=>.ok (σ.set i v.slot)
 | .t is=>match v.d with
  | .tup ds=>if ds.length=is.length then .ok ((is.zip ds).foldl (λσ p=>σ.set p.1 (v.sub p.2).slot) σ) else .bad
  | _=>.bad
def eR(f:Vl->R (Option Vl)):List Vl->R (List Vl)
 | []=>.ok []
 | x::xs=>do
  let y<-f x
  let ys<-eR f xs
  match y with
  | some y=>.ok (y::ys)
  | none=>.ok ys
def iZ:D->Option (List D)
 | .lst ds=>some ds
 | .tup ds=>some ds
 | _=>none
def items(x:Vl)(ds:List D):List Vl:=ds.map x.sub
def fQ(k:Nat)(caps al:List Nat)(vs:List Vl):Vl:=
 if noLs (vs.map (·.d)) then ⟨.lst (vs.map (·.d)),true,false,[]⟩
 else ⟨.lst (vs.map (·.d)),true,dZ vs,al++(bT vs).filterMap λj=>caps[j-k]?⟩
def aGU(x y:Vl)(ds:List D):Vl:=if noLs ds then ⟨.lst ds,true,false,[]⟩ else ⟨.lst ds,true,x.pa||y.pa,x.al++y.al⟩
section
variable (P:Pg) (cl:Caller)
mutual
def ev(σ:Sg):E->R Vl
 | .c d=>.ok (.cl d)
 | .v i=>bY σ i
 | .op o a b=>do let x<-ev σ a;let y<-ev σ b;opD o x y
 | .neg a=>do
  let x<-ev σ a
  match x.d with
  | .int i=>.ok (.cl (.int (-i)))
  | _=>.bad
 | .nt a=>do let x<-ev σ a;let k<-gH x;.ok (.cl (.bl (!k)))
 | .an a b=>do
  let x<-ev σ a
  match x.d with
  | .bl true=>ev σ b
  | .bl false=>.ok (.cl (.bl false))
  | _=>.bad
 | .orr a b=>do
  let x<-ev σ a
  match x.d with
  | .bl true=>.ok (.cl (.bl true))
  | .bl false=>ev σ b
  | _=>.bad
 | .ife t a b=>do
  let x<-tst σ t
  if x then ev σ a else ev σ b
 | .cmp o a b=>do
  let x<-ev σ a
  let y<-ev σ b
  match cG o x.d y.d with
  | some k=>.ok (.cl (.bl k))
  | none=>.bad
 | .cmp2 o o' a b c=>do
  let x<-ev σ a
  let y<-ev σ b
  match cG o x.d y.d with
  | some true=>do
   let z<-ev σ c
   match cG o' y.d z.d with
   | some k=>.ok (.cl (.bl k))
   | none=>.bad
  | some false=>.ok (.cl (.bl false))
  | none=>.bad
 | .idx a b=>do let x<-ev σ a;let y<-ev σ b;eE x y
 | .sli a lo hi=>do
  let x<-ev σ a
  let l<-evs σ lo
  let h<-evs σ hi
  match l,h with
  | [],[]=>dQ x none none
  | [l],[]=>match l.d with
   | .int l=>.iff (aN l) (dQ x (some l) none)
   | _=>.bad
  | [],[h]=>match h.d with
   | .int h=>.iff (aN h) (dQ x none (some h))
   | _=>.bad
  | [l],[h]=>match l.d,h.d with
   | .int l,.int h=>.iff (aN l&&aN h) (dQ x (some l) (some h))
   | _,_=>.bad
  | _,_=>.bad
 | .tup es=>do let vs<-evs σ es;.ok (sK vs)
 | .lst es=>do let vs<-evs σ es;.ok (pP vs)
 | .dic ks vs=>do
  let ks<-evs σ ks
  let vs<-evs σ vs
  match (ks.map (λ(v:Vl)=>v.d):List D),(vs.map (λ(v:Vl)=>v.d):List D) with
  | [.int k],[.int v]=>.ok (.cl (.dic [(.int k,.int v)]))
  | _,_=>.bad
 | .call f es=>do
  let vs<-evs σ es
  let r<-cl f (vs.map (·.d))
  .ok (iI vs r)
 | .bi b es=>do let vs<-evs σ es;biD b vs
 | .mth m o es=>do let x<-ev σ o;let ys<-evs σ es;mtD m x ys
 | .isi a cs=>do
  let x<-ev σ a
  match isI cs P x.d with
  | some k=>.ok (.cl (.bl k))
  | none=>.bad
 | .attr a f=>do
  let x<-ev σ a
  match x.d with
  | .err _ fs=>match fs[f]? with
   | some d=>.ok (x.sub d)
   | none=>.bad
  | _=>.bad
 | .comp k caps t it cond elt=>do
  let xs<-walk σ it
  let vs<-eR (λx=>do
   let σ1<-cI (List.replicate k .x++caps.map λi=>((freeze σ xs.2)[i]?).getD .x) x t
   let k<-tsts σ1 cond
   if k then do let y<-ev σ1 elt;.ok (some y) else .ok none) xs.1
  .iff (decide (vs.length<=lim)) (.ok (fQ k caps xs.2 vs))
 | .numset a=>do
  let x<-ev σ a
  match x.d with
  | .lst ds=>match gB ds with
   | some ks=>.iff (decide (ds.length<=1000)) (.ok (.cl (.int (pO ks).length)))
   | none=>.bad
  | _=>.bad
 | .tget i a=>do
  let x<-ev σ a
  match x.d,P.tabs[i]? with
  | .str k,some t=>.ok (.cl ((t.lookup k).getD .non))
  | _,_=>.bad
 | .lzip a b=>do
  let x<-ev σ a
  let y<-ev σ b
  match iZ x.d,iZ y.d with
  | some as,some bs=>.iff (decide (as.length<=lim)) (.ok (aGU x y (fC as bs)))
  | _,_=>.bad
 | .sset a=>do
  let x<-ev σ a
  match x.d with
  | .lst ds=>match pQ ds with
   | some ns=>.ok ⟨.lst ((eB ns).map λ(k:Nat)=>.int (k:Int)),true,false,[]⟩
   | none=>.bad
  | _=>.bad
def tst(σ:Sg):E->R Bool
 | .nt a=>do let x<-tst σ a;.ok (!x)
 | .an a b=>do
  let x<-tst σ a
  if x then tst σ b else .ok false
 | .orr a b=>do
  let x<-tst σ a
  if x then .ok true else tst σ b
 | .c d=>gH (.cl d)
 | .v i=>do let x<-bY σ i;gH x
 | .cmp o a b=>do
  let x<-ev σ a
  let y<-ev σ b
  match cG o x.d y.d with
  | some k=>.ok k
  | none=>.bad
 | .cmp2 o o' a b c=>do
  let x<-ev σ a
  let y<-ev σ b
  match cG o x.d y.d with
  | some true=>do
   let z<-ev σ c
   match cG o' y.d z.d with
   | some k=>.ok k
   | none=>.bad
  | some false=>.ok false
  | none=>.bad
 | .call f es=>do
  let vs<-evs σ es
  let r<-cl f (vs.map (·.d))
  gH (iI vs r)
 | .bi b es=>do let vs<-evs σ es;let x<-biD b vs;gH x
 | .mth m o es=>do let x<-ev σ o;let ys<-evs σ es;let z<-mtD m x ys;gH z
 | .idx a b=>do let x<-ev σ a;let y<-ev σ b;let z<-eE x y;gH z
 | .isi a cs=>do
  let x<-ev σ a
  match isI cs P x.d with
  | some k=>.ok k
  | none=>.bad
 | _=>.bad
def evs(σ:Sg):Es->R (List Vl)
 | .z=>.ok []
 | .k e es=>do let x<-ev σ e;let xs<-evs σ es;.ok (x::xs)
def walk(σ:Sg):It->R (List Vl×List Nat)
 | .seq e=>do
  let x<-ev σ e
  match x.d with
  | .lst ds=>.ok (items x ds,x.al)
  | .tup ds=>.ok (items x ds,x.al)
  | .str a=>.iff (decide (a.length<=lim)) (.ok (a.cps.toList.map λn=>.cl (.str ⟨#[n]⟩),[]))
  | _=>.bad
 | .rng a b=>do
  let x<-ev σ a
  let y<-ev σ b
  match x.d,y.d with
  | .int i,.int j=>.iff (aN i&&aN j) (.ok ((fM i j).map .cl,[]))
  | _,_=>.bad
 | .zip a b=>do
  let x<-ev σ a
  let y<-ev σ b
  match iZ x.d,iZ y.d with
  | some as,some bs=>.ok (items ⟨.non,false,x.pa||y.pa,x.al++y.al⟩ (fC as bs),x.al++y.al)
  | _,_=>.bad
 | .enum a=>do
  let x<-ev σ a
  match iZ x.d with
  | some as=>.ok (items x (gI 0 as),x.al)
  | none=>.bad
 | .rev a=>do
  let x<-ev σ a
  match iZ x.d with
  | some as=>.ok (items x as.reverse,x.al)
  | none=>.bad
def tsts(σ:Sg):Es->R Bool
 | .z=>.ok true
 | .k e es=>do
  let x<-tst σ e
  if x then tsts σ es else .ok false
end
inductive O where
 | next (σ:Sg)|brk (σ:Sg)|cnt (σ:Sg)|ret (v:Vl)|exc (x:D) (σ:Sg)|bad
 deriving Inhabited
def O.from{α:Type}(σ:Sg)(x:R α)(f:α->O):O:=match x with
 | .ok a=>f a
 | .exc e=>.exc e σ
 | .bad=>.bad
def O.on(o:O)(f:Sg->O):O:=match o with
 | .next σ=>f σ
 | o=>o
def eF(f:Sg->Vl->O):List Vl->Sg->O
 | [],σ=>.next σ
 | x::xs,σ=>match f σ x with
  | .next σ'=>eF f xs σ'
  | .cnt σ'=>eF f xs σ'
  | .brk σ'=>.next σ'
  | o=>o
def aDq(t:Sg->R Bool)(f:Sg->O):Nat->Sg->O
 | 0,_=>.bad
 | n+1,σ=>O.from σ (t σ) λk=>if k then (match f σ with
     | .next σ'=>aDq t f n σ'
     | .cnt σ'=>aDq t f n σ'
     | .brk σ'=>.next σ'
     | o=>o) else .next σ
def aKC:Nat:=100000
def lR(σ:Sg)(i:Nat):Option (Bool×List D):=match σ[i]? with
 | some (.own pa ds)=>some (pa,ds)
 | _=>none
def put(σ:Sg)(i:Nat)(v:Vl)(f:List D->Option (List D)):O:=match lR (freeze σ v.al) i with
 | some (pa,ds)=>match f ds with
  | some ds'=>if ds'.length<=lim then .next ((freeze σ v.al).set i (.own (pa||v.pa) ds')) else .bad
  | none=>.bad
 | none=>.bad
def aGV(σ:Sg)(i:Nat)(v:Vl):O:=put σ i v λds=>some (ds++[v.d])
def pR(v:Vl):Option (Vl×List D):=match v.fr,v.d with
 | true,.lst ds=>some (⟨.non,false,v.pa&&!noLs ds,if noLs ds then [] else v.al⟩,ds)
 | _,_=>none
def aDr(σ:Sg)(i:Nat)(k:Option Int):R (Vl×Sg):=match lR σ i with
 | some (pa,ds)=>match (match k with|none=>ixN ds.length (-1)|some k=>ixN ds.length k) with
  | some j=>match ds[j]? with
   | some d=>.ok (Vl.sub ⟨.non,false,pa,[]⟩ d,σ.set i (.own pa (ds.eraseIdx j)))
   | none=>.bad
  | none=>.bad
 | none=>.bad
def zN(e:Sg->E->R Vl):Sg->List Vl->List Arg->R (List Vl×Sg)
 | σ,acc,[]=>.ok (acc,σ)
 | σ,acc,.e a::as=>do let x<-e σ a;zN e σ (acc++[x]) as
 | σ,acc,.pop j::as=>do
  let (x,σ')<-aDr σ j none
  if (bT acc).contains j then .bad else zN e σ' (acc++[x]) as
def aKD(e:Option (R Vl)):R (Option Int):=match e with
 | none=>.ok none
 | some x=>do
  let v<-x
  match v.d with
  | .int k=>.iff (aN k) (.ok (some k))
  | _=>.bad
mutual
def ex(σ:Sg):S->O
 | .set t e=>O.from σ (ev P cl σ e) λv=>O.from σ (cI (freeze σ v.al) v t) .next
 | .mov i j=>match σ[j]? with
  | some (.own pa ds)=>if i=j then .bad else .next ((σ.set j .x).set i (.own pa ds))
  | some (.sh pa d)=>.next (σ.set i (.sh (pa&&!noL d) d))
  | _=>.bad
 | .setIx i k e=>O.from σ (ev P cl σ e) λv=>O.from σ (ev P cl σ k) λkv=>match kv.d with
  | .int k=>put σ i v λds=>match ixN ds.length k with
   | some j=>some (ds.set j v.d)
   | none=>none
  | _=>.bad
 | .app i e=>O.from σ (ev P cl σ e) λv=>aGV σ i v
 | .ext i e=>O.from σ (ev P cl σ e) λv=>match pR v with
  | some (v',ds')=>put σ i v' λds=>some (ds++ds')
  | none=>.bad
 | .pop t i k=>O.from σ (aKD (k.map λe=>ev P cl σ e)) λk=>O.from σ (aDr σ i k) λ(v,σ')=>match t with
  | none=>.next σ'
  | some t=>O.from σ' (cI σ' v t) .next
 | .clr i=>put σ i (.cl .non) λ_=>some []
 | .ins i k e=>O.from σ (ev P cl σ k) λkv=>O.from σ (ev P cl σ e) λv=>match kv.d with
  | .int k=>if 0<=k/\k<1000000 then put σ i v λds=>some (ds.take k.toNat++v.d::ds.drop k.toNat) else .bad
  | _=>.bad
 | .rev i=>put σ i (.cl .non) λds=>some ds.reverse
 | .appCall i f as=>O.from σ (zN (λσ a=>ev P cl σ a) σ [] as) λ(vs,σ')=>O.from σ' (cl f (vs.map (·.d))) λr=>aGV σ' i (iI vs r)
 | .ret e=>O.from σ (ev P cl σ e) .ret
 | .retv i=>match σ[i]? with
  | some (.own pa ds)=>.ret ⟨.lst ds,true,pa,[]⟩
  | _=>O.from σ (bY σ i) .ret
 | .retN=>.ret (.cl .non)
 | .iff c a b=>O.from σ (tst P cl σ c) λk=>if k then exs σ a else exs σ b
 | .for t it b=>O.from σ (walk P cl σ it) λxs=>eF (λσ x=>O.from σ (cI σ x t) λσ'=>exs σ' b) xs.1 (freeze σ xs.2)
 | .whl c b=>aDq (λσ=>tst P cl σ c) (λσ=>exs σ b) aKC σ
 | .brk=>.brk σ
 | .cnt=>.cnt σ
 | .pass=>.next σ
 | .ex e=>O.from σ (ev P cl σ e) λ_=>.next σ
 | .rse c keep es=>O.from σ (evs P cl σ es) λvs=>.exc (.err c (if keep then vs.map (·.d) else [])) σ
 | .tryN b=>exs σ b
 | .setU is e=>O.from σ (ev P cl σ e) λv=>match v.d with
  | .lst ds=>if ds.length=is.length/\noLs ds=true then .next ((is.zip ds).foldl (λσ p=>σ.set p.1 (v.sub p.2).slot) σ) else .bad
  | _=>.bad
 | .try b hs=>match exs σ b with
  | .exc x σ'=>hdl σ' x hs
  | o=>o
def exs(σ:Sg):Ss->O
 | .z=>.next σ
 | .k s ss=>(ex σ s).on λσ'=>exs σ' ss
def hdl(σ:Sg)(x:D):Hs->O
 | .z=>.exc x σ
 | .k cs n b hs=>match isI cs P x with
  | some true=>match n with
   | none=>exs σ b
   | some i=>match exs (σ.set i (.sh true x)) b with
    | .next σ'=>.next (σ'.set i .x)
    | .brk σ'=>.brk (σ'.set i .x)
    | .cnt σ'=>.cnt (σ'.set i .x)
    | .exc x σ'=>.exc x (σ'.set i .x)
    | o=>o
  | some false=>hdl σ x hs
  | none=>.bad
end
def uH(f:Nat)(ds:List D):R Rt:=match P.fns[f]? with
 | none=>.bad
 | some F=>if ds.length=F.np then
  match exs P cl ((ds.map λd=>Sl.sh true d)++List.replicate (F.ns-F.np) Sl.x) F.body with
  | .ret v=>.ok (v.d,v.fr,v.pa)
  | .next _=>.ok (.non,false,false)
  | .exc x _=>.exc x
  | _=>.bad
  else .bad
end
def call(P:Pg):Nat->Caller
 | 0=>λ_ _=>.bad
 | n+1=>uH P (call P n)
end Hp
end
noncomputable section
namespace Hp
open PySem
structure Ct where
 N:List Str
 sc:List (Str×NameKind)
 fns:List Str
 cns:List (Str×D)
 cls:List Str
 fn:Bool
 tbs:List Str
def aDs(Γ:Ct)(x:Str):Bool:=match Γ.sc.lookup x with
 | some .local=>true
 | some .cell=>true
 | some .free=>true
 | _=>false
def wP(Γ:Ct)(x:Str):Bool:=match Γ.sc.lookup x with
 | some .local=>true
 | some .cell=>Γ.fn
 | _=>false
def pS(sc names:List (Str×NameKind)):List (Str×NameKind):=names.map λ(n,k)=>if (k==.free&&sc.lookup n==some .cell) then (n,.cell) else (n,k)
def pT:Expr->Bool
 | .Tuple _ _ _=>true
 | _=>false
def tIx:T->List Nat
 | .n i=>[i]
 | .t is=>is
def dR(Γ:Ct)(x:Str):Bool:=match Γ.sc.lookup x with
 | some .globalImplicit=>true
 | _=>false
def dA(x:Str):Bool:=!(x==("__debug__" : Str))&&!(x==("__classdict__" : Str))
def eS(Γ:Ct)(i:Nat)(x:Str):Bool:=(Γ.N[i]?==some x)&&aDs Γ x&&dA x
def cO(Γ:Ct)(i:Nat)(x:Str):Bool:=(Γ.N[i]?==some x)&&wP Γ x&&dA x
def eqC:D->Const->Bool
 | .non,.none=>true
 | .bl a,.bool b=>a==b
 | .int a,.int b=>a==b
 | .str a,.str b=>a==b
 | _,_=>false
def eqK:D->D->Bool
 | .non,.non=>true
 | .bl a,.bl b=>a==b
 | .int a,.int b=>a==b
 | .str a,.str b=>a==b
 | _,_=>false
def kX:Bi->Str
 | .len => "len" | .list => "list" | .tuple => "tuple" | .min => "min" | .max => "max" | .abs => "abs" | .int => "int" | .str => "str" | .sum => "sum" | .all => "all" | .any => "any" | .sorted => "sorted" | .bool => "bool" | .repr => "repr"
def aDt:Bi->Bool
 | .len=>true|.list=>true|.tuple=>true|.min=>true|.int=>true|.all=>true|.any=>true
 | _=>false
def aNb:Cl->Bool
 | .own _=>false
 | .tValueError=>false
 | _=>true
def zO(Γ:Ct):Cl->Option Str
 | .tInt=>some "int" | .tBool=>some "bool" | .tStr=>some "str" | .tList=>some "list" | .tTuple=>some "tuple" | .tDict=>some "dict" | .tValueError=>some "ValueError"
 | .own c=>Γ.cls[c]?
def aGW(Γ:Ct)(c:Cl):Expr->Bool
 | .Name x _=>(zO Γ c==some x)&&dR Γ x&&dA x
 | _=>false
def oF(Γ:Ct):T->Expr->Bool
 | .n i,.Name x _=>cO Γ i x
 | .t is,.Tuple es _ _=>is.length==es.length&&(is.zip es).all λp=>match p.2 with
  | .Name x _=>cO Γ p.1 x
  | _=>false
 | _,_=>false
def gR:Expr->List Str
 | .Name x _=>[x]
 | .Tuple es _ _=>es.filterMap fun|.Name x _=>some x|_=>none
 | _=>[]
def zP:E->Bool
 | .c (.int i)=>i==0
 | _=>false
def asC(e:Expr):Option { c:Const // ∃k p,e=.Constant c k p }:=match e with
 | .Constant c k p=>some ⟨c,k,p,rfl⟩
 | _=>none
def asN(e:Expr):Option { x:Str // ∃p,e=.Name x p }:=match e with
 | .Name x p=>some ⟨x,p,rfl⟩
 | _=>none
def aKE(e:Expr):Option { r:Expr×Operator×Expr // ∃p,e=.BinOp r.1 r.2.1 r.2.2 p }:=match e with
 | .BinOp l o r p=>some ⟨(l,o,r),p,rfl⟩
 | _=>none
def aKF(e:Expr):Option { r:UnaryOp×Expr // ∃p,e=.UnaryOp r.1 r.2 p }:=match e with
 | .UnaryOp o x p=>some ⟨(o,x),p,rfl⟩
 | _=>none
def aKG(e:Expr):Option { r:BoolOp×List Expr×Pos // e=.BoolOp r.1 r.2.1 r.2.2 }:=match e with
 | .BoolOp o xs p=>some ⟨(o,xs,p),rfl⟩
 | _=>none
def aNc(e:Expr):Option { r:Expr×Expr×Expr // ∃p,e=.IfExp r.1 r.2.1 r.2.2 p }:=match e with
 | .IfExp t a b p=>some ⟨(t,a,b),p,rfl⟩
 | _=>none
def aGX(e:Expr):Option { r:Expr×List CmpOp×List Expr // ∃p,e=.Compare r.1 r.2.1 r.2.2 p }:=match e with
 | .Compare l os rs p=>some ⟨(l,os,rs),p,rfl⟩
 | _=>none
def aDu(e:Expr):Option { r:Expr×Expr // ∃p,e=.Subscript r.1 r.2 p }:=match e with
 | .Subscript x i p=>some ⟨(x,i),p,rfl⟩
 | _=>none
def aNd(e:Expr):Option { r:Option Expr×Option Expr // ∃p,e=.Slice r.1 r.2 none p }:=match e with
 | .Slice l h none p=>some ⟨(l,h),p,rfl⟩
 | _=>none
def aKH(e:Expr):Option { r:List Expr // ∃k p,e=.Tuple r k p }:=match e with
 | .Tuple xs k p=>some ⟨xs,k,p,rfl⟩
 | _=>none
def aKI(e:Expr):Option { r:List Expr // ∃p,e=.List r p }:=match e with
 | .List xs p=>some ⟨xs,p,rfl⟩
 | _=>none
def mZ(e:Expr):Option { r:Str×List Expr // ∃p1 p2,e=.Call (.Name r.1 p1) r.2 [] p2 }:=match e with
 | .Call (.Name x p1) xs [] p2=>some ⟨(x,xs),p1,p2,rfl⟩
 | _=>none
def aNe(e:Expr):Option { r:Expr×Str×List Expr×Bool // ∃ap cp,e=.Call (.Attribute r.1 r.2.1 ap) r.2.2.1 [] cp/\(ap.endLine==cp.line)=r.2.2.2 }:=match e with
 | .Call (.Attribute x a ap) xs [] cp=>some ⟨(x,a,xs,ap.endLine==cp.line),ap,cp,rfl,rfl⟩
 | _=>none
def aNf(e:Expr):Option { r:Expr×List Comprehension×Scope // ∃p,e=.ListComp r.1 r.2.1 r.2.2 p }:=match e with
 | .ListComp e gs s p=>some ⟨(e,gs,s),p,rfl⟩
 | _=>none
def oB{α:Type}(o:Option α)(f:α->Bool):Bool:=match o with
 | some a=>f a
 | none=>false
def oS{α:Type}{q:α->Prop}(o:Option { a:α // q a })(f:α->Bool):Bool:=match o with
 | some a=>f a.1
 | none=>false
mutual
def bB(Γ:Ct):E->Expr->Bool
 | .c d,e=>oS (asC e) (eqC d)||oS (asN e) λx=>dR Γ x&&dA x&&oB (Γ.cns.lookup x) (eqK d)
 | .v i,e=>oS (asN e) (eS Γ i)
 | .op o a b,e=>oS (aKE e) λp=>o==p.2.1&&bB Γ a p.1&&bB Γ b p.2.2
 | .neg a,e=>oS (aKF e) λp=>p.1==.USub&&bB Γ a p.2
 | .nt a,e=>oS (aKF e) λp=>p.1==.Not&&bB Γ a p.2
 | .an a b,e=>oS (aKG e) λp=>p.1==.And&&(match p.2.1 with
  | [x,y]=>bB Γ a x&&bB Γ b y
  | x::y::z::r=>bB Γ a x&&bB Γ b (.BoolOp .And (y::z::r) p.2.2)
  | _=>false)
 | .orr a b,e=>oS (aKG e) λp=>p.1==.Or&&(match p.2.1 with
  | [x,y]=>bB Γ a x&&bB Γ b y
  | x::y::z::r=>bB Γ a x&&bB Γ b (.BoolOp .Or (y::z::r) p.2.2)
  | _=>false)
 | .ife t a b,e=>oS (aNc e) λp=>bB Γ t p.1&&bB Γ a p.2.1&&bB Γ b p.2.2
 | .cmp o a b,e=>oS (aGX e) λp=>(match p.2.1,p.2.2 with
  | [o'],[r]=>o==o'&&bB Γ a p.1&&bB Γ b r
  | _,_=>false)
 | .cmp2 o1 o2 a b c,e=>oS (aGX e) λp=>(match p.2.1,p.2.2 with
  | [o1',o2'],[m,r]=>o1==o1'&&o2==o2'&&bB Γ a p.1&&bB Γ b m&&bB Γ c r
  | _,_=>false)
 | .idx a b,e=>oS (aDu e) λp=>bB Γ a p.1&&bB Γ b p.2
 | .sli a lo hi,e=>oS (aDu e) λp=>oS (aNd p.2) λq=>bB Γ a p.1&&chkO Γ lo q.1&&chkO Γ hi q.2
 | .tup es,e=>oS (aKH e) λxs=>decide (xs.length<=1000)&&chkEs Γ es xs
 | .lst es,e=>oS (aKI e) λxs=>decide (xs.length<=1000)&&chkEs Γ es xs
 | .call f es,e=>oS (mZ e) λp=>(Γ.fns[f]?==some p.1)&&dR Γ p.1&&dA p.1&&chkEs Γ es p.2
 | .sset a,e=>oS (mZ e) λp=>(match p.2 with
  | [s]=>oS (mZ s) λq=>(p.1==("sorted" : Str))&&dR Γ p.1&&(q.1==("set" : Str))&&dR Γ q.1&&(match q.2 with|[x]=>bB Γ a x|_=>false)
  | _=>false)
 | .bi b es,e=>oS (mZ e) λp=>aDt b&&(kX b==p.1)&&dR Γ p.1&&dA p.1&&!p.2.isEmpty&&chkEs Γ es p.2
 | .mth _ _ _,_=>false
 | .numset a,e=>oS (mZ e) λp=>(match p.2 with
  | [s]=>oS (mZ s) λq=>(p.1==("len" : Str))&&dR Γ p.1&&(q.1==("set" : Str))&&dR Γ q.1&&(match q.2 with|[x]=>bB Γ a x|_=>false)
  | _=>false)
 | .tget i a,e=>oS (aNe e) λp=>oS (asN p.1) λx=>(p.2.1==("get" : Str))&&(Γ.tbs[i]?==some x)&&dR Γ x&&dA x&&p.2.2.2&&(match p.2.2.1 with|[y]=>bB Γ a y|_=>false)
 | .lzip _ _,_=>false
 | .isi a cs,e=>oS (mZ e) λp=>(match cs,p.2 with
  | [c],[x,y]=>(p.1==("isinstance" : Str))&&dR Γ p.1&&aNb c&&bB Γ a x&&aGW Γ c y
  | _,_=>false)
 | .comp k caps t it cond elt,e=>oS (aNf e) λp=>(match p.2.1 with
  | [⟨tg,iter,ifs,as⟩]=>
   as==0&&(gR tg).length==k&&(caps.all λi=>decide (i<Γ.N.length))&&decide caps.Nodup&&p.2.2.kind==.function&&decide (gR tg++caps.filterMap λi=>Γ.N[i]?).Nodup &&
   ((caps.filterMap λi=>Γ.N[i]?).all λx=>p.2.2.names.lookup x==some .free&&Γ.sc.lookup x==some .cell) &&
   (p.2.2.names.all λq=>q.2 != .cell&&(q.2 != .local||p.2.2.names.lookup q.1==some .local)&&(q.2 != .free||Γ.sc.lookup q.1==some .cell)) &&
   ((tIx t).all λi=>decide (i<k))&&decide (ifs.length<=1) &&
   oF { Γ with N:=gR tg++caps.filterMap λi=>Γ.N[i]?,sc:=pS Γ.sc p.2.2.names,fn:=false } t tg&&chkI Γ (pT tg) it iter &&
   chkEs { Γ with N:=gR tg++caps.filterMap λi=>Γ.N[i]?,sc:=pS Γ.sc p.2.2.names,fn:=false } cond ifs &&
   bB { Γ with N:=gR tg++caps.filterMap λi=>Γ.N[i]?,sc:=pS Γ.sc p.2.2.names,fn:=false } elt p.1
  | _=>false)
 | .dic _ _,_=>false
 | .attr _ _,_=>false
def chkEs(Γ:Ct):Es->List Expr->Bool
 | .z,[]=>true
 | .k e es,x::xs=>bB Γ e x&&chkEs Γ es xs
 | _,_=>false
def chkO(Γ:Ct):Es->Option Expr->Bool
 | .z,none=>true
 | .k e .z,some x=>bB Γ e x
 | _,_=>false
def chkI(Γ:Ct)(tt:Bool):It->Expr->Bool
 | .rng a b,e=>oS (mZ e) λp=>(p.1==("range" : Str))&&dR Γ p.1&&(match p.2 with
  | [x]=>zP a&&bB Γ b x
  | [x,y]=>bB Γ a x&&bB Γ b y
  | _=>false)
 | .zip a b,e=>oS (mZ e) λp=>(match p.2 with
  | [x,y]=>tt&&(p.1==("zip" : Str))&&dR Γ p.1&&bB Γ a x&&bB Γ b y
  | _=>false)
 | .seq c,x=>bB Γ c x
 | .enum a,e=>oS (mZ e) λp=>(match p.2 with
  | [x]=>tt&&(p.1==("enumerate" : Str))&&dR Γ p.1&&bB Γ a x
  | _=>false)
 | .rev _,_=>false
end
def pU:Expr->Bool
 | .ListComp _ _ _ _=>true
 | .SetComp _ _ _ _=>true
 | .DictComp _ _ _ _ _=>true
 | _=>false
def pV:Expr->Bool
 | .Tuple _ _ _=>true
 | .List _ _=>true
 | _=>false
def aIa:Expr->Bool
 | .Name _ _=>true
 | _=>false
def rW(Γ:Ct)(i:Nat)(m:Str):Expr->Option (List Expr)
 | .Call (.Attribute (.Name x _) a ap) xs [] cp=>if (a==m)&&eS Γ i x&&(ap.endLine==cp.line) then some xs else none
 | _=>none
def aFO(s:Stmt):Option { r:Expr×Expr // ∃p,s=.Assign [r.1] r.2 p }:=match s with
 | .Assign [t] v p=>some ⟨(t,v),p,rfl⟩
 | _=>none
def sEx(s:Stmt):Option { r:Expr // ∃p,s=.Expr r p }:=match s with
 | .Expr v p=>some ⟨v,p,rfl⟩
 | _=>none
def aIb(s:Stmt):Option { r:Option Expr // ∃p,s=.Return r p }:=match s with
 | .Return v p=>some ⟨v,p,rfl⟩
 | _=>none
def sIf(s:Stmt):Option { r:Expr×List Stmt×List Stmt // ∃p,s=.If r.1 r.2.1 r.2.2 p }:=match s with
 | .If t x y p=>some ⟨(t,x,y),p,rfl⟩
 | _=>none
def aNg(s:Stmt):Option { r:Expr×Expr×List Stmt // ∃p,s=.For r.1 r.2.1 r.2.2 [] p }:=match s with
 | .For t i b [] p=>some ⟨(t,i,b),p,rfl⟩
 | _=>none
def aNh(s:Stmt):Option { r:Unit // ∃p,s=.Break p }:=match s with
 | .Break p=>some ⟨(),p,rfl⟩
 | _=>none
def aNi(s:Stmt):Option { r:Unit // ∃p,s=.Continue p }:=match s with
 | .Continue p=>some ⟨(),p,rfl⟩
 | _=>none
def aKJ(s:Stmt):Option { r:Unit // ∃p,s=.Pass p }:=match s with
 | .Pass p=>some ⟨(),p,rfl⟩
 | _=>none
def aKK(s:Stmt):Option { r:List Stmt // ∃h hs p,s=.Try r (h::hs) [] [] p }:=match s with
 | .Try b (h::hs) [] [] p=>some ⟨b,h,hs,p,rfl⟩
 | _=>none
mutual
def iJ(Γ:Ct):S->Stmt->Bool
 | .set t e,s=>oS (aFO s) λr=>oF Γ t r.1&&bB Γ e r.2&&(aIa r.1||!pV r.2)
 | .mov i j,s=>oS (aFO s) λr=>oS (asN r.1) λx=>oS (asN r.2) λy=>cO Γ i x&&eS Γ j y
 | .setIx i k e,s=>oS (aFO s) λr=>oS (aDu r.1) λu=>oS (asN u.1) λx=>eS Γ i x&&bB Γ k u.2&&bB Γ e r.2
 | .app i e,s=>oS (sEx s) λc=>(match rW Γ i "append" c with|some [a]=>bB Γ e a|_=>false)
 | .appCall _ _ _,_=>false
 | .ext i e,s=>oS (sEx s) λc=>(match rW Γ i "extend" c with|some [a]=>bB Γ e a|_=>false)
 | .pop _ _ _,_=>false
 | .clr _,_=>false
 | .rev _,_=>false
 | .ret e,s=>oS (aIb s) λr=>oB r (bB Γ e)
 | .retv i,s=>oS (aIb s) λr=>oB r λv=>oS (asN v) (eS Γ i)
 | .retN,s=>oS (aIb s) λr=>r.isNone
 | .iff c a b,s=>oS (sIf s) λr=>bB Γ c r.1&&chkSs Γ a r.2.1&&chkSs Γ b r.2.2
 | .for t it b,s=>oS (aNg s) λr=>oF Γ t r.1&&chkI Γ (pT r.1) it r.2.1&&chkSs Γ b r.2.2
 | .whl _ _,_=>false
 | .brk,s=>oS (aNh s) λ_=>true
 | .cnt,s=>oS (aNi s) λ_=>true
 | .pass,s=>oS (aKJ s) λ_=>true
 | .ex e,s=>oS (sEx s) λv=>bB Γ e v&&!pU v
 | .rse _ _ _,_=>true
 | .ins _ _ _,_=>false
 | .try _ _,_=>false
 | .tryN b,s=>oS (aKK s) λr=>chkSs Γ b r
 | .setU is e,s=>oS (aFO s) λr=>oF Γ (.t is) r.1&&bB Γ e r.2&&!pV r.2
def chkSs(Γ:Ct):Ss->List Stmt->Bool
 | .z,[]=>true
 | .k s ss,x::xs=>iJ Γ s x&&chkSs Γ ss xs
 | _,_=>false
end
end Hp
end
noncomputable section
namespace Hp
open PySem PySem.Spec PyProof.Rows L2
theorem lT(n:Nat){d:Nat}(hd:d<=n):∀lo,sIx n d lo<=n
 | none=>hd
 | some v=>by
  unfold sIx
  dsimp only
  split <;> omega
theorem wQ(lo hi:Option Int)(n:Nat):Builtin.Str.strSliceIndices lo hi 1 n=Builtin.Str.strSliceIndices (some ((sIx n 0 lo:Nat):Int)) (some ((sIx n n hi:Nat):Int)) 1 n:=by
 have h1:(1:Int)>0:=by decide
 have key:∀(d:Nat) (hd:d<=n) (o:Option Int),(match o with|none=>(d:Int)|some i=>max 0 (min (if i<0 then i+(n:Int) else i) (n:Int)))=((sIx n d o:Nat):Int):=by
  intro d hd o
  cases o with
  | none=>rfl
  | some i=>
   unfold sIx
   dsimp only
   split <;> omega
 have k2:∀(m:Nat),m<=n->max (0:Int) (min (if (m:Int)<0 then (m:Int)+(n:Int) else (m:Int)) (n:Int))=(m:Int):=by
  intro m hm
  split <;> omega
 unfold Builtin.Str.strSliceIndices
 simp only[h1,if_true]
 have e1:=key 0 (B5 _) lo
 have e2:=key n (Aj _) hi
 have f1:=k2 _ (lT n (B5 _) lo)
 have f2:=k2 _ (lT n (Aj _) hi)
 rw[f1,f2]
 cases lo <;> cases hi <;> simp_all
theorem rX(x:Str)(lo hi:Option Int):StrLaws.sliceText x lo hi=zL x lo hi:=by
 have hl:x.cps.toList.length=x.length:=by show _=x.cps.size;simp
 have e:StrLaws.sliceText x lo hi=StrLaws.sliceText x (some ((sIx x.length 0 lo:Nat):Int)) (some ((sIx x.length x.length hi:Nat):Int)):=by
  unfold StrLaws.sliceText
  rw[wQ]
 rw[e]
 unfold zL cut
 rw[hl]
 by_cases h:sIx x.length 0 lo<=sIx x.length x.length hi
 . exact StrLaws.sliceText_nat x h (lT _ (Aj _) hi)
 . have h0:sIx x.length x.length hi-sIx x.length 0 lo=0:=by omega
   have hlo:=lT x.length (B5 _) lo
   have hhi:=lT x.length (Aj _) hi
   rw[h0,List.take_zero]
   generalize sIx x.length 0 lo=i at *
   generalize sIx x.length x.length hi=j at *
   have he:Builtin.Str.strSliceIndices (some (i:Int)) (some (j:Int)) 1 x.length=[]:=by
    unfold Builtin.Str.strSliceIndices
    have h1:(1:Int)>0:=by decide
    simp only[h1,if_true]
    rw[if_neg (by omega),if_neg (by omega)]
    have a1:max (0:Int) (min (i:Int) (x.length:Int))=i:=by omega
    have a2:max (0:Int) (min (j:Int) (x.length:Int))=j:=by omega
    rw[a1,a2]
    unfold sliceRange
    simp
    omega
   unfold StrLaws.sliceText
   rw[he]
   simp
   intro hz
   omega
def aDv:V->Option Int->Option Int->L2.Hp->VK->Prop:=λx lo hi H Q=>∃a,x=.str a/\a.length<=sizeLine/\Q (.str (zL a lo hi)) H
section
variable {X:Cx}
theorem aIc:SlR X aDv:=by
 intro pins s σ H x v vl vu lo hi sl Q I rx hs pl pu h
 obtain⟨a,rfl,hz,q⟩:=h
 obtain⟨t,rfl⟩:=rx
 have fin:∀(l u:Option (Int×Tok)),l.map (·.1)=lo->u.map (·.1)=hi->s.heap.IsSlice sl l u none->wpAny (model X.prog X.w) X.A (getItem (.str a t) (.ref sl)) (EP X pins σ Q) X.xe s:=by
  intro l u e1 e2 h
  refine wpAny_getItem_str_slice h rfl ?_
  have e:StrLaws.sliceText a lo hi=zL a lo hi:=rX a lo hi
  unfold StrLaws.sliceText at e
  subst e1 e2
  show Made.post (if ((1:Int)==1&&(Builtin.Str.strSliceIndices (l.map (·.1)) (u.map (·.1)) 1 a.length).length==a.length)=true then _ else _) _ s
  split
  . rename_i hc
    rw[if_pos hc] at e
    exact⟨.str a,H,I,⟨t,rfl⟩,by rw[e];exact q⟩
  . rename_i hc
    rw[if_neg hc] at e
    have hle:(zL a (l.map (·.1)) (u.map (·.1))).length<=sizeLine:=by
     refine A4 ?_ hz
     show(cut a.cps.toList _ _).toArray.size<=a.cps.size
     unfold cut
     rw[Af,A2,B7,Bo]
     omega
    refine⟨by rw[<-e] at hle;exact hle,.str (zL a (l.map (·.1)) (u.map (·.1))),H,I.tok _,?_,q⟩
    rw[<-e]
    exact⟨_,rfl⟩
 refine⟨"str",_,slot_str_getitem.lookup,rfl,?_⟩
 cases pl with
 | none=>
  cases pu with
  | none=>exact fin none none rfl rfl hs
  | int j tj=>exact fin none (some (j,tj)) rfl rfl hs
 | int i ti=>
  cases pu with
  | none=>exact fin (some (i,ti)) none rfl rfl hs
  | int j tj=>exact fin (some (i,ti)) (some (j,tj)) rfl rfl hs
end
end Hp
end
noncomputable section
namespace Hp
open PySem L2
abbrev Fg:=PySem.W.Frag
def kD:Key->D
 | .inl i=>.int i
 | .inr x=>.str x
mutual
def Rep(K:Fg)(H:Hp)(ex:Addr->Prop):D->V->Prop
 | .non,v=>v=.non
 | .bl b,v=>v=.bl b
 | .int i,v=>v=.int i
 | .str x,v=>v=.str x
 | .tup ds,v=>∃a xs,v=.ref a/\SqT K H a xs/\Reps K H ex ds xs
 | .lst ds,v=>∃a xs,v=.ref a/\SqL K H a xs/\¬ ex a/\Reps K H ex ds xs
 | .dic kvs,v=>∃a ks,v=.ref a/\H a=some (.dK ks)/\RepKV K H ex kvs ks
 | .err _ _,_=>False
def Reps(K:Fg)(H:Hp)(ex:Addr->Prop):List D->List V->Prop
 | [],xs=>xs=[]
 | d::ds,xs=>∃x r,xs=x::r/\Rep K H ex d x/\Reps K H ex ds r
def RepKV(K:Fg)(H:Hp)(ex:Addr->Prop):List (D×D)->List (Key×V)->Prop
 | [],ks=>ks=[]
 | (k,d)::r,ks=>∃k' x r',ks=(k',x)::r'/\kD k'=k/\Rep K H ex d x/\RepKV K H ex r r'
end
section
variable {K:Fg} {H H':Hp} {ex ex':Addr->Prop}
theorem aX.seqT{a:Addr}{xs:List V}(e:aX H H')(h:SqT K H a xs):SqT K H' a xs:=by
 rcases h with(h|⟨o,h⟩)|h
 . exact .inl (.inl (e _ _ h))
 . exact .inl (.inr ⟨o,e _ _ h⟩)
 . exact .inr h
mutual
theorem Rep.imp(hT:∀a xs,SqT K H a xs->SqT K H' a xs)(hL:∀a xs,¬ ex a->SqL K H a xs->¬ ex' a/\SqL K H' a xs)(hD:∀a ks,H a=some (.dK ks)->H' a=some (.dK ks)) :
 ∀(d:D) (v:V),Rep K H ex d v->Rep K H' ex' d v
 | .non,_,h=>h
 | .bl _,_,h=>h
 | .int _,_,h=>h
 | .str _,_,h=>h
 | .tup ds,_,h=>by
  obtain⟨a,xs,e,q,r⟩:=h
  exact⟨a,xs,e,hT a xs q,Reps.imp hT hL hD ds xs r⟩
 | .lst ds,_,h=>by
  obtain⟨a,xs,e,q,n,r⟩:=h
  obtain⟨n',q'⟩:=hL a xs n q
  exact⟨a,xs,e,q',n',Reps.imp hT hL hD ds xs r⟩
 | .dic kvs,_,h=>by
  obtain⟨a,ks,e,q,r⟩:=h
  exact⟨a,ks,e,hD a ks q,RepKV.imp hT hL hD kvs ks r⟩
 | .err _ _,_,h=>h.elim
theorem Reps.imp(hT:∀a xs,SqT K H a xs->SqT K H' a xs)(hL:∀a xs,¬ ex a->SqL K H a xs->¬ ex' a/\SqL K H' a xs)(hD:∀a ks,H a=some (.dK ks)->H' a=some (.dK ks)) :
 ∀(ds:List D) (xs:List V),Reps K H ex ds xs->Reps K H' ex' ds xs
 | [],_,h=>h
 | d::ds,_,h=>by
  obtain⟨x,r,e,h1,h2⟩:=h
  exact⟨x,r,e,Rep.imp hT hL hD d x h1,Reps.imp hT hL hD ds r h2⟩
theorem RepKV.imp(hT:∀a xs,SqT K H a xs->SqT K H' a xs)(hL:∀a xs,¬ ex a->SqL K H a xs->¬ ex' a/\SqL K H' a xs)(hD:∀a ks,H a=some (.dK ks)->H' a=some (.dK ks)) :
 ∀(ds:List (D×D)) (xs:List (Key×V)),RepKV K H ex ds xs->RepKV K H' ex' ds xs
 | [],_,h=>h
 | (k,d)::ds,_,h=>by
  obtain⟨k',x,r,e,ek,h1,h2⟩:=h
  exact⟨k',x,r,e,ek,Rep.imp hT hL hD d x h1,RepKV.imp hT hL hD ds r h2⟩
end
theorem Rep.weak{d:D}{v:V}(h:Rep K H ex d v)(e:∀a,ex' a->ex a):Rep K H ex' d v:=Rep.imp (λ_ _ q=>q) (λa _ n q=>⟨λz=>n (e a z),q⟩) (λ_ _ q=>q) d v h
theorem Reps.weak{d:List D}{v:List V}(h:Reps K H ex d v)(e:∀a,ex' a->ex a):Reps K H ex' d v:=Reps.imp (λ_ _ q=>q) (λa _ n q=>⟨λz=>n (e a z),q⟩) (λ_ _ q=>q) d v h
theorem Rep.grow{d:D}{v:V}(h:Rep K H ex d v)(s:aX H H'):Rep K H' ex d v:=Rep.imp (λ_ _ q=>aX.seqT s q) (λ_ _ n q=>⟨n,s.seq q⟩) (λ_ _ q=>s _ _ q) d v h
theorem Reps.grow{d:List D}{v:List V}(h:Reps K H ex d v)(s:aX H H'):Reps K H' ex d v:=Reps.imp (λ_ _ q=>aX.seqT s q) (λ_ _ n q=>⟨n,s.seq q⟩) (λ_ _ q=>s _ _ q) d v h
theorem Rep.keep{d:D}{v:V}(h:Rep K H ex d v)(s:∀a o,H a=some o->(∀xs,o=.lst xs->¬ ex a)->H' a=some o):Rep K H' ex d v:=by
 refine Rep.imp (λa xs q=>?_) (λa xs n q=>⟨n,?_⟩) (λa ks q=>s a _ q (λxs e=>by cases e)) d v h
 . rcases q with(q|⟨o,q⟩)|q
   . exact .inl (.inl (s _ _ q λxs e=>by cases e))
   . exact .inl (.inr ⟨o,s _ _ q λxs e=>by cases e⟩)
   . exact .inr q
 . rcases q with(q|⟨o,q⟩)|q
   . exact .inl (.inl (s _ _ q λ_ _=>n))
   . exact .inl (.inr ⟨o,s _ _ q λxs e=>by cases e⟩)
   . exact .inr q
theorem Reps.keep{d:List D}{v:List V}(h:Reps K H ex d v)(s:∀a o,H a=some o->(∀xs,o=.lst xs->¬ ex a)->H' a=some o):Reps K H' ex d v:=by
 refine Reps.imp (λa xs q=>?_) (λa xs n q=>⟨n,?_⟩) (λa ks q=>s a _ q (λxs e=>by cases e)) d v h
 . rcases q with(q|⟨o,q⟩)|q
   . exact .inl (.inl (s _ _ q λxs e=>by cases e))
   . exact .inl (.inr ⟨o,s _ _ q λxs e=>by cases e⟩)
   . exact .inr q
 . rcases q with(q|⟨o,q⟩)|q
   . exact .inl (.inl (s _ _ q λ_ _=>n))
   . exact .inl (.inr ⟨o,s _ _ q λxs e=>by cases e⟩)
   . exact .inr q
mutual
theorem Rep.free:∀(d:D) (v:V),noL d=true->Rep K H ex d v->Rep K H ex' d v
 | .non,_,_,h=>h
 | .bl _,_,_,h=>h
 | .int _,_,_,h=>h
 | .str _,_,_,h=>h
 | .tup ds,_,n,h=>by
  obtain⟨a,xs,e,q,r⟩:=h
  exact⟨a,xs,e,q,Reps.free ds xs (by simpa[noL] using n) r⟩
 | .lst ds,_,n,_=>by simp[noL] at n
 | .dic kvs,_,n,_=>by simp[noL] at n
 | .err _ _,_,n,_=>by simp[noL] at n
theorem Reps.free:∀(ds:List D) (xs:List V),noLs ds=true->Reps K H ex ds xs->Reps K H ex' ds xs
 | [],_,_,h=>h
 | d::ds,_,n,h=>by
  obtain⟨x,r,e,h1,h2⟩:=h
  simp only[noLs,bA] at n
  exact⟨x,r,e,Rep.free d x n.1 h1,Reps.free ds r n.2 h2⟩
end
theorem Reps.length:∀{ds:List D} {xs:List V},Reps K H ex ds xs->ds.length=xs.length
 | [],_,h=>by rw[show _=[] from h];rfl
 | d::ds,_,h=>by
  obtain⟨x,r,e,_,h2⟩:=h
  subst e
  rw[lC,lC,Reps.length h2]
theorem Reps.get:∀{ds:List D} {xs:List V} {j:Nat} {d:D},Reps K H ex ds xs->ds[j]? = some d->∃x,xs[j]? = some x/\Rep K H ex d x
 | [],_,_,_,_,e=>by simp at e
 | d::ds,_,0,_,h,e=>by
  obtain⟨x,r,e',h1,_⟩:=h
  subst e'
  simp at e
  subst e
  exact⟨x,rfl,h1⟩
 | d::ds,_,j+1,d',h,e=>by
  obtain⟨x,r,e',_,h2⟩:=h
  subst e'
  obtain⟨y,hy,q⟩:=Reps.get (j:=j) (d:=d') h2 (by simpa using e)
  exact⟨y,by simpa using hy,q⟩
theorem Reps.get'{ds:List D}{xs:List V}{j:Nat}{x:V}(h:Reps K H ex ds xs)(e:xs[j]? = some x):∃d,ds[j]? = some d/\Rep K H ex d x:=by
 have hl:=h.length
 have hj:j<xs.length:=(Aw.mp e).1
 obtain⟨d,hd⟩:∃d,ds[j]? = some d:=⟨ds[j],Ad (by omega)⟩
 obtain⟨y,hy,q⟩:=h.get hd
 rw[e] at hy
 cases hy
 exact⟨d,hd,q⟩
theorem Reps.nil:Reps K H ex [] []:=rfl
theorem Reps.cons{d:D}{ds:List D}{x:V}{xs:List V}(h:Rep K H ex d x)(t:Reps K H ex ds xs):Reps K H ex (d::ds) (x::xs):=⟨x,xs,rfl,h,t⟩
theorem Reps.append:∀{ds es:List D} {xs ys:List V},Reps K H ex ds xs->Reps K H ex es ys->Reps K H ex (ds++es) (xs++ys)
 | [],_,_,_,h,t=>by rw[show _=[] from h];exact t
 | d::ds,_,_,_,h,t=>by
  obtain⟨x,r,e,h1,h2⟩:=h
  subst e
  exact⟨x,_,rfl,h1,Reps.append h2 t⟩
theorem Reps.take:∀{ds:List D} {xs:List V} (n:Nat),Reps K H ex ds xs->Reps K H ex (ds.take n) (xs.take n)
 | _,_,0,_=>by simp[Reps]
 | [],_,n+1,h=>by rw[show _=[] from h];simp[Reps]
 | d::ds,_,n+1,h=>by
  obtain⟨x,r,e,h1,h2⟩:=h
  subst e
  exact⟨x,_,rfl,h1,Reps.take n h2⟩
theorem Reps.drop:∀{ds:List D} {xs:List V} (n:Nat),Reps K H ex ds xs->Reps K H ex (ds.drop n) (xs.drop n)
 | _,_,0,h=>h
 | [],_,n+1,h=>by rw[show _=[] from h];simp[Reps]
 | d::ds,_,n+1,h=>by
  obtain⟨x,r,e,h1,h2⟩:=h
  subst e
  exact Reps.drop n h2
theorem Reps.set:∀{ds:List D} {xs:List V} {d:D} {x:V} (j:Nat),Reps K H ex ds xs->Rep K H ex d x->Reps K H ex (ds.set j d) (xs.set j x)
 | [],_,_,_,_,h,_=>by rw[show _=[] from h];simp[Reps]
 | d::ds,_,_,_,0,h,q=>by
  obtain⟨x,r,e,h1,h2⟩:=h
  subst e
  exact⟨_,_,rfl,q,h2⟩
 | d::ds,_,_,_,j+1,h,q=>by
  obtain⟨x,r,e,h1,h2⟩:=h
  subst e
  exact⟨x,_,rfl,h1,Reps.set j h2 q⟩
theorem Reps.eraseIdx:∀{ds:List D} {xs:List V} (j:Nat),Reps K H ex ds xs->Reps K H ex (ds.eraseIdx j) (xs.eraseIdx j)
 | [],_,_,h=>by rw[show _=[] from h];simp[Reps]
 | d::ds,_,0,h=>by
  obtain⟨x,r,e,h1,h2⟩:=h
  subst e
  exact h2
 | d::ds,_,j+1,h=>by
  obtain⟨x,r,e,h1,h2⟩:=h
  subst e
  exact⟨x,_,rfl,h1,Reps.eraseIdx j h2⟩
theorem Reps.reverse:∀{ds:List D} {xs:List V},Reps K H ex ds xs->Reps K H ex ds.reverse xs.reverse
 | [],_,h=>by rw[show _=[] from h];simp[Reps]
 | d::ds,_,h=>by
  obtain⟨x,r,e,h1,h2⟩:=h
  subst e
  rw[D7,D7]
  exact(Reps.reverse h2).append (.cons h1 .nil)
theorem Reps.flat:∀{ds:List D} {xs:List V},Reps K H ex ds xs->∀k:Nat,Reps K H ex (List.replicate k ds).flatten (List.replicate k xs).flatten
 | _,_,_,0=>by simp[Reps]
 | ds,xs,h,k+1=>by
  rw[Bq,Bq,Cc,Cc]
  exact h.append (Reps.flat h k)
end
end Hp
end
noncomputable section
namespace Hp
open PySem PySem.Spec PyProof.Rows L2
theorem aMA(a b:Str):(a++b).length=a.length+b.length:=by
 show(a.cps++b.cps).size=_
 rw[Array.size_append];rfl
section
variable {X:Cx} {pins:List (Addr×Obj)} {σ:L2.St} {H:Hp} {s:Shared}
end
def RE{α:Type}:R α->(α->Prop)->Prop
 | .ok a,p=>p a
 | _,_=>False
theorem RE.mono{α:Type}{x:R α}{p q:α->Prop}(h:RE x p)(f:∀a,p a->q a):RE x q:=by
 cases x with
 | ok a=>exact f a h
 | exc e=>exact h
 | bad=>exact h
theorem RE.bind{α β:Type}{x:R α}{f:α->R β}{p:β->Prop}:RE (x >>= f) p=RE x λa=>RE (f a) p:=by
 cases x <;> rfl
theorem RE.iff{α:Type}{c:Bool}{x:R α}{p:α->Prop}(h:RE (R.iff c x) p):c=true/\RE x p:=by
 cases c with
 | true=>exact⟨rfl,h⟩
 | false=>exact h.elim
section
variable (K:Fg) (RT Y old:Addr->Prop)
def exB(pa:Bool)(a:Addr):Prop:=Y a\/(pa=false/\old a)
def Tk(H:Hp):Prop:=∀b,H b≠none->K.lookup b=none
structure Sx (σ:Sg) (σV:L2.St) (H:Hp):Prop where
 sh:∀(i:Nat) (pa:Bool) (d:D),σ[i]? = some (.sh pa d)->∃v,σV[i]? = some (some v)/\Rep K H (λa=>RT a\/exB Y old pa a) d v
 own:∀(i:Nat) (pa:Bool) (ds:List D),σ[i]? = some (.own pa ds)->∃a xs,σV[i]? = some (some (.ref a))/\H a=some (.lst xs)/\RT a/\¬ old a/\Reps K H (λa=>RT a\/exB Y old pa a) ds xs
 trk:∀a,RT a\/Y a\/old a->H a≠none
 yo:∀a,Y a->old a
 tk:Tk K H
 rt:∀a,RT a->∃xs,H a=some (.lst xs)
 inj:∀(i j:Nat) (pa pa':Bool) (ds ds':List D) (a:Addr),σ[i]? = some (.own pa ds)->σ[j]? = some (.own pa' ds')->σV[i]? = some (some (.ref a))->σV[j]? = some (some (.ref a))->i=j
 len:σ.length=σV.length
def alR(σ:Sg)(σV:L2.St)(al:List Nat)(a:Addr):Prop:=∃j∈al,(∃pa ds,σ[j]? = some (.own pa ds))/\σV[j]? = some (some (.ref a))
def exV(σ:Sg)(σV:L2.St)(pa:Bool)(al:List Nat)(a:Addr):Prop:=(RT a/\¬ alR σ σV al a)\/exB Y old pa a
def Rv(σ:Sg)(σV:L2.St)(H:Hp)(v:Vl)(u:V):Prop:=Rep K H (exV RT Y old σ σV v.pa v.al) v.d u
def Ro(σ:Sg)(σV:L2.St)(H H':Hp)(v:Vl)(u:V):Prop:=
 aX H H'/\(if v.fr=true then ∃a xs ds,u=.ref a/\v.d=.lst ds/\H a=none/\H' a=some (.lst xs)/\Reps K H' (λb=>b=a\/exV RT Y old σ σV v.pa v.al b) ds xs
  else Rv K RT Y old σ σV H' v u)
def Rvs(σ:Sg)(σV:L2.St)(H:Hp):List Vl->List V->Prop
 | [],us=>us=[]
 | v::vs,us=>∃u r,us=u::r/\Rv K RT Y old σ σV H v u/\Rvs σ σV H vs r
end
section
variable {K:Fg} {RT Y old:Addr->Prop} {σ:Sg} {σV:L2.St} {H H' H1 H2:Hp} {v:Vl} {u:V}
theorem Sx.grow(S:Sx K RT Y old σ σV H)(s:aX H H')(t:Tk K H'):Sx K RT Y old σ σV H' where
 sh:=λi pa d e=>let ⟨v,h1,h2⟩:=S.sh i pa d e;⟨v,h1,h2.grow s⟩
 own:=λi pa ds e=>let ⟨a,xs,h1,h2,h3,h4,h5⟩:=S.own i pa ds e;⟨a,xs,h1,s _ _ h2,h3,h4,h5.grow s⟩
 trk:=λa h z=>S.trk a h (s.free z)
 yo:=S.yo
 tk:=t
 rt:=λa h=>let ⟨xs,e⟩:=S.rt a h;⟨xs,s _ _ e⟩
 inj:=S.inj
 len:=S.len
theorem exV.trk(S:Sx K RT Y old σ σV H){pa:Bool}{al:List Nat}{a:Addr}(h:exV RT Y old σ σV pa al a):H a≠none:=by
 rcases h with⟨h,_⟩|h|⟨_,h⟩
 . exact S.trk a (.inl h)
 . exact S.trk a (.inr (.inl h))
 . exact S.trk a (.inr (.inr h))
theorem Ro.rv(S:Sx K RT Y old σ σV H)(h:Ro K RT Y old σ σV H H' v u):Rv K RT Y old σ σV H' v u:=by
 obtain⟨s,h⟩:=h
 by_cases hf:v.fr=true
 . rw[if_pos hf] at h
   obtain⟨a,xs,ds,e1,e2,e3,e4,r⟩:=h
   unfold Rv
   rw[e2]
   exact⟨a,xs,e1,SqL.of e4,λz=>exV.trk S z e3,r.weak λb z=>.inr z⟩
 . rw[if_neg hf] at h
   exact h
theorem Rv.grow(h:Rv K RT Y old σ σV H v u)(s:aX H H'):Rv K RT Y old σ σV H' v u:=Rep.grow h s
theorem Rvs.grow:∀{vs:List Vl} {us:List V},Rvs K RT Y old σ σV H vs us->aX H H'->Rvs K RT Y old σ σV H' vs us
 | [],_,h,_=>h
 | v::vs,_,h,s=>by
  obtain⟨u,r,e,h1,h2⟩:=h
  exact⟨u,r,e,h1.grow s,Rvs.grow h2 s⟩
theorem Ro.plain(s:aX H H')(hf:v.fr=false)(h:Rv K RT Y old σ σV H' v u):Ro K RT Y old σ σV H H' v u:=⟨s,by rw[if_neg (by rw[hf];decide)];exact h⟩
theorem Ro.from(h:Ro K RT Y old σ σV H1 H' v u)(s:aX H H1):Ro K RT Y old σ σV H H' v u:=by
 obtain⟨s',h⟩:=h
 refine⟨s.trans s',?_⟩
 by_cases hf:v.fr=true
 . rw[if_pos hf] at h ⊢
   obtain⟨a,xs,ds,e1,e2,e3,e4,r⟩:=h
   exact⟨a,xs,ds,e1,e2,s.free e3,e4,r⟩
 . rw[if_neg hf] at h ⊢
   exact h
theorem Ro.cl{d:D}(s:aX H H')(h:Rep K H' (exV RT Y old σ σV false []) d u):Ro K RT Y old σ σV H H' (.cl d) u:=Ro.plain s rfl h
theorem Rv.sub{d:D}{x:V}{ds:List D}{xs:List V}{j:Nat}(h:Rep K H (exV RT Y old σ σV v.pa v.al) d x):Rv K RT Y old σ σV H (v.sub d) x:=by
 unfold Rv Vl.sub
 by_cases hn:noL d=true
 . rw[if_pos hn]
   exact Rep.free d x hn h
 . rw[if_neg hn]
   exact h
theorem alR.mono{al al':List Nat}{a:Addr}(h:alR σ σV al a)(s:∀j∈al,j∈al'):alR σ σV al' a:=by
 obtain⟨j,hj,q⟩:=h
 exact⟨j,s j hj,q⟩
theorem exV.mono{pa pa':Bool}{al al':List Nat}{a:Addr}(h:exV RT Y old σ σV pa' al' a)(hp:pa=true->pa'=true)(s:∀j∈al,j∈al'):exV RT Y old σ σV pa al a:=by
 rcases h with⟨h1,h2⟩|h|⟨h1,h2⟩
 . exact .inl ⟨h1,λz=>h2 (z.mono s)⟩
 . exact .inr (.inl h)
 . refine .inr (.inr ⟨?_,h2⟩)
   cases pa with
   | false=>rfl
   | true=>rw[hp rfl] at h1;cases h1
theorem Rvs.length:∀{vs:List Vl} {us:List V},Rvs K RT Y old σ σV H vs us->vs.length=us.length
 | [],_,h=>by rw[show _=[] from h];rfl
 | v::vs,_,h=>by
  obtain⟨u,r,e,_,h2⟩:=h
  subst e
  rw[lC,lC,Rvs.length h2]
theorem nX{vs:List Vl}{v:Vl}(h:v∈vs):∀j∈v.al,j∈bT vs:=λj hj=>List.mem_flatMap.mpr ⟨v,h,hj⟩
theorem wR{vs:List Vl}{v:Vl}(h:v∈vs)(hp:v.pa=true):dZ vs=true:=List.any_eq_true.mpr ⟨v,h,hp⟩
theorem Rvs.reps:∀{vs:List Vl} {us:List V} {pa:Bool} {al:List Nat},Rvs K RT Y old σ σV H vs us->(∀v∈vs,(v.pa=true->pa=true)/\∀j∈v.al,j∈al) ->
 Reps K H (exV RT Y old σ σV pa al) (vs.map (·.d)) us
 | [],_,_,_,h,_=>h
 | v::vs,_,_,_,h,q=>by
  obtain⟨u,r,e,h1,h2⟩:=h
  have q1:=q v Al
  exact⟨u,r,e,Rep.weak h1 λa z=>z.mono q1.1 q1.2,Rvs.reps h2 λw hw=>q w (Ag _ hw)⟩
theorem Rvs.all{vs:List Vl}{us:List V}(h:Rvs K RT Y old σ σV H vs us):Reps K H (exV RT Y old σ σV (dZ vs) (bT vs)) (vs.map (·.d)) us:=
 h.reps λv hv=>⟨λz=>wR hv z,nX hv⟩
theorem Ro.fresh{p:Addr}{xs:List V}{ds:List D}(hp:H p=none)(ht:Tk K (upd H p (.lst xs)))(hd:v.d=.lst ds)(hf:v.fr=true)(S:Sx K RT Y old σ σV H)(r:Reps K H (exV RT Y old σ σV v.pa v.al) ds xs) :
 Ro K RT Y old σ σV H (upd H p (.lst xs)) v (.ref p):=by
 have s:aX H (upd H p (.lst xs)):=λb o q=>by rw[aZ (bQ q hp)];exact q
 refine⟨s,?_⟩
 rw[if_pos hf]
 refine⟨p,xs,ds,rfl,hd,hp,cV,?_⟩
 refine Reps.imp (λ_ _ q=>aX.seqT s q) (λa ys n q=>⟨λz=>?_,s.seq q⟩) (λ_ _ q=>s _ _ q) ds xs r
 rcases z with z|z
 . subst z
   rcases q with(q|⟨o,q⟩)|⟨o,its,n',q,_⟩
   . rw[hp] at q;cases q
   . rw[hp] at q;cases q
   . have z:=ht a (by rw[cV];simp)
     rw[q] at z;cases z
 . exact n z
theorem aX.new{p:Addr}{o:HO}(hp:H p=none):aX H (upd H p o):=λb u q=>by rw[aZ (bQ q hp)];exact q
theorem Ro.tup{p:Addr}{xs:List V}{ds:List D}(hp:H p=none)(hd:v.d=.tup ds)(hf:v.fr=false)(r:Reps K H (exV RT Y old σ σV v.pa v.al) ds xs) :
 Ro K RT Y old σ σV H (upd H p (.tup xs)) v (.ref p):=by
 refine Ro.plain (aX.new hp) hf ?_
 unfold Rv
 rw[hd]
 exact⟨p,xs,rfl,SqT.of cV,r.grow (aX.new hp)⟩
end
section
variable (X:Cx) (P:Pg) (cl:Caller) (RT Y old:Addr->Prop)
def wE(σ:Sg)(c:E):TE:=λσV H Q=>Sx X.K RT Y old σ σV H/\RE (ev P cl σ c) λv=>∀u H',Tk X.K H'->Ro X.K RT Y old σ σV H H' v u->Q u H'
def wT(σ:Sg)(c:E):TT:=λσV H Q=>Sx X.K RT Y old σ σV H/\RE (tst P cl σ c) λk=>∀H',Tk X.K H'->aX H H'->Q k H'
def wA(σ:Sg)(cs:Es):TA:=λσV H Q=>Sx X.K RT Y old σ σV H/\RE (evs P cl σ cs) λvs=>∀us H',Tk X.K H'->aX H H'->Rvs X.K RT Y old σ σV H' vs us->Q us H'
end
section
variable {X:Cx} {P:Pg} {cl:Caller} {RT Y old:Addr->Prop} {σ:Sg} {pos:Pos}
theorem _root_.L2.Inv.tk{pins:List (Addr×Obj)}{σV:L2.St}{H:Hp}{s:Shared}(I:Inv X pins σV H s):Tk X.K H:=λb hb=>by
 cases q:X.K.lookup b with
 | none=>rfl
 | some o=>exact absurd (I.bs b o (I.ok.mod.kin b o q)).2 hb
theorem _root_.L2.PE.imp{e:Expr}{t t':TE}(h:PE X e t)(f:∀σV H Q,Tk X.K H->t' σV H Q->t σV H λv H'=>Tk X.K H'->Q v H'):PE X e t':=λpins s σV H Q I hw=>
 thn (h pins s σV H _ I (f σV H Q I.tk hw)) λu s' ⟨v,H',I',r,q⟩=>⟨v,H',I',r,q I'.tk⟩
theorem _root_.L2.PT.imp{e:Expr}{t t':TT}(h:PT X e t)(f:∀σV H Q,Tk X.K H->t' σV H Q->t σV H λv H'=>Tk X.K H'->Q v H'):PT X e t':=λpins s σV H Q I hw=>
 thn (h pins s σV H _ I (f σV H Q I.tk hw)) λk s' ⟨H',I',q⟩=>⟨H',I',q I'.tk⟩
theorem _root_.L2.PA.imp{es:List Expr}{t t':TA}(h:PA X es t)(f:∀σV H Q,Tk X.K H->t' σV H Q->t σV H λv H'=>Tk X.K H'->Q v H'):PA X es t':=λpos pins s σV H Q I hw=>
 thn (h pos pins s σV H _ I (f σV H Q I.tk hw)) λu s' ⟨v,H',I',r,q⟩=>⟨v,H',I',r,q I'.tk⟩
theorem wE.two{a b:E}{σV:L2.St}{H:Hp}{p:Vl->Vl->Prop}{Q:V->V->Hp->Prop}(S:Sx X.K RT Y old σ σV H)(h:RE (ev P cl σ a) λx=>RE (ev P cl σ b) λy=>p x y)
 (f:∀x y ux uy H2,p x y->Tk X.K H2->aX H H2->Sx X.K RT Y old σ σV H2->Rv X.K RT Y old σ σV H2 x ux->Rv X.K RT Y old σ σV H2 y uy->Q ux uy H2) :
 wE X P cl RT Y old σ a σV H λux H1=>wE X P cl RT Y old σ b σV H1 λuy H2=>Q ux uy H2:=by
 refine⟨S,h.mono λx hx ux H1 t1 r1=>⟨S.grow r1.1 t1,hx.mono λy hy uy H2 t2 r2=>?_⟩⟩
 have S1:=S.grow r1.1 t1
 exact f x y ux uy H2 hy t2 (r1.1.trans r2.1) (S1.grow r2.1 t2) ((r1.rv S).grow r2.1) (r2.rv S1)
theorem Ro.val{d:D}{u:V}{σV:L2.St}{H H':Hp}(s:aX H H')(h:∀ex,Rep X.K H' ex d u):Ro X.K RT Y old σ σV H H' (.cl d) u:=Ro.cl s (h _)
theorem s_c {d : D} {c : Const} {k : Nat} (h : eqC d c = true) : PE X (.Constant c k pos) (wE X P cl RT Y old σ (.c d)) := by
 have key : ∀ {v : V}, (∀ (H : Hp) ex, Rep X.K H ex d v) -> PE X (.Constant c k pos) (tC v) -> PE X (.Constant c k pos) (wE X P cl RT Y old σ (.c d)) := λ hv hp =>
  hp.imp λ σV H Q t ⟨S, q⟩ t' => q _ H t' (Ro.val (aX.refl H) (hv H))
 cases d with
 | non => cases c with
  | none => exact key (λ _ _ => rfl) aHu
  | _ => cases h
 | bl b => cases c with
  | bool b' => have e : b = b' := by simpa [eqC] using h
               subst e; exact key (λ _ _ => rfl) aJQ
  | _ => cases h
 | int b => cases c with
  | int b' => have e : b = b' := by simpa [eqC] using h
              subst e; exact key (λ _ _ => rfl) aHt
  | _ => cases h
 | str b => cases c with
  | str b' => have e : b = b' := by simpa [eqC] using h
              subst e; exact key (λ _ _ => rfl) aHv
  | _ => cases h
 | _ => cases c <;> cases h
theorem s_v{i:Nat}{x:Str}(hN:X.N[i]? = some x)(hv:Vis X.env.scope x)(hd:(x==("__debug__" : Str))=false)(hcd:(x==("__classdict__" : Str))=false) :
 PE X (.Name x pos) (wE X P cl RT Y old σ (.v i)):=by
 refine(yX hN hv hd hcd).imp λσV H Q t ⟨S,q⟩=>?_
 have q:RE (bY σ i) _:=q
 unfold bY at q
 cases e:σ[i]? with
 | none=>rw[e] at q;exact q.elim
 | some sl=>
  rw[e] at q
  cases sl with
  | x=>exact q.elim
  | sh pa d=>
   obtain⟨v,h1,h2⟩:=S.sh i pa d e
   refine⟨v,h1,λt'=>q v H t' (Ro.plain (aX.refl H) rfl ?_)⟩
   unfold Rv
   by_cases hn:noL d=true
   . exact Rep.free d v hn h2
   . refine Rep.weak h2 λa z=>?_
     rcases z with⟨z,_⟩|z|⟨z,z'⟩
     . exact .inl z
     . exact .inr (.inl z)
     . have:pa=false:=by simpa[hn] using z
       exact .inr (.inr ⟨this,z'⟩)
  | own pa ds=>
   obtain⟨a,xs,h1,h2,h3,h4,h5⟩:=S.own i pa ds e
   refine⟨.ref a,h1,λt'=>q _ H t' (Ro.plain (aX.refl H) rfl ?_)⟩
   unfold Rv
   refine⟨a,xs,rfl,SqL.of h2,λz=>?_,h5.weak λb z=>?_⟩
   . rcases z with⟨_,z⟩|z|⟨_,z⟩
     . exact z ⟨i,by simp,⟨pa,ds,e⟩,h1⟩
     . exact h4 (S.yo a z)
     . exact h4 z
   . rcases z with⟨z,_⟩|z
     . exact .inl z
     . exact .inr z
end
def sL(prog:Program)(w:World)(K:Fg)(a:Addr)(t:List (Str×D)):Prop:=(a==sysModules)=false/\∃vs:List (Key×Value),(∀h:Heap,K.In h->h.DictOf (bS prog w) a vs) /\
 ∀k:Str,(t.lookup k=none/\valueAt vs (Sum.inr k:Key)=none)\/∃d u v,t.lookup k=some d/\valueAt vs (Sum.inr k:Key)=some u/\bR v u/\∀(H:Hp) (ex:Addr->Prop),Rep K H ex d v
section
variable {X:Cx}
theorem aFP{a:Addr}{t:List (Str×D)}{x:Str}{p ap cp:Pos}{e:Expr}{te:TE}(T:sL X.prog X.w X.K a t)(hg:Gl X x)(hm:X.mg x=some (.ref a))(hd:(x==("__debug__" : Str))=false)(he:PE X e te)(hline:(ap.endLine==cp.line)=true)
 (hs:starEach [e] X.env=[(false,eval e X.env)]) :
 PE X (.Call (.Attribute (.Name x p) "get" ap) [e] [] cp) (λσ H Q=>te σ H λu H1=>∃k,u=.str k/\∀v,(∀(H:Hp) (ex:Addr->Prop),Rep X.K H ex ((t.lookup k).getD .non) v)->Q v H1):=by
 intro pins s σ H Q I h
 obtain⟨hsys,vs,dict,look⟩:=T
 refine wpAny_Call_method_late rfl (by rw[hs];rfl) hline rfl (thn (aAI (v:=.ref a) hg hm rfl hd pins s σ H (λv H1=>v=.ref a/\H1=H) I ⟨rfl,rfl⟩) λv s1 ⟨y,H1,I1,r1,e1,e2⟩=>?_)
 subst e1 e2
 obtain rfl:v=Value.ref a:=r1
 have dd:=dict s1.heap I1.kIn
 refine⟨"dict", "dict.get",PySem.F.plainAttrs_dict,PySem.F.slot_dict_get,PySem.F.type_dict_get,dd.typeIs,λb q=>?_,?_⟩
 . cases q
   obtain⟨ob,_,_,h1,h2,_⟩:=dd
   exact⟨ob,h1,h2.2.1⟩
 . have hA:=(jU he mX hs) cp pins s1 σ H1 (λus H2=>match us with|[u]=>(∃k,u=.str k/\∀v,(∀(H:Hp) (ex:Addr->Prop),Rep X.K H ex ((t.lookup k).getD .non) v)->Q v H2)|_=>False) I1 h
   rw[hs] at hA ⊢
   refine Calls.callWith_builtin rfl (Calls.evalArgs_plain ?_)
   refine thn hA λus s2 ⟨xs,H2,I2,r2,q2⟩=>?_
   match xs,r2,q2 with
   | [y],.cons ry .nil,q2=>
    obtain⟨k,ey,q2⟩:=q2
    subst ey
    obtain⟨tk,rfl⟩:=ry
    have dd2:=dict s2.heap I2.kIn
    refine call_meetsIn PySem.F.slot_dict_get dd2.typeIs PySem.F.entry_dict_get (PySem.F.args_dict_get_2 _ _) (meets_dict_get (bS X.prog X.w) a (k:=(Sum.inr k:Key)) (mW k tk) hsys) ⟨_,dd2.mapOf,?_⟩
    rcases look k with⟨l1,l2⟩|⟨d,u,v,l1,l2,rv,rep⟩
    . rw[l2]
      refine⟨.non,H2,I2.tok _,rfl,q2 .non λH ex=>?_⟩
      rw[l1]
      rfl
    . rw[l2]
      refine⟨v,H2,I2.tok _,rv,q2 v λH ex=>?_⟩
      rw[l1]
      exact rep H ex
end
section
variable {X:Cx} {RT Y old:Addr->Prop} {σ:Sg} {σV:L2.St} {H:Hp} {s:Shared} {pins:List (Addr×Obj)} {Q:VK} {ux uy:V} {vx vy:Value} {x y:Vl}
theorem _root_.L2.EP.tk{u:Value}{s':Shared}(h:EP X pins σV (λv H'=>Tk X.K H'->Q v H') u s'):EP X pins σV Q u s':=by
 obtain⟨v,H',I',r,q⟩:=h
 exact⟨v,H',I',r,q (Inv.tk I')⟩
abbrev Wn(X:Cx)(RT Y old:Addr->Prop)(σ:Sg)(σV:L2.St)(H:Hp)(Q:VK)(v:Vl):Prop:=∀u H',Tk X.K H'->Ro X.K RT Y old σ σV H H' v u->Q u H'
theorem Wn.val{d:D}{u:V}(w:Wn X RT Y old σ σV H Q (.cl d))(t:Tk X.K H)(h:∀ex,Rep X.K H ex d u):Q u H:=w u H t (Ro.cl (aX.refl H) (h _))
theorem Rv.int{i:Int}{u:V}(h:Rv X.K RT Y old σ σV H x u)(e:x.d=.int i):u=.int i:=by unfold Rv at h;rw[e] at h;exact h
theorem Rv.str{i:Str}{u:V}(h:Rv X.K RT Y old σ σV H x u)(e:x.d=.str i):u=.str i:=by unfold Rv at h;rw[e] at h;exact h
theorem Rv.bl{i:Bool}{u:V}(h:Rv X.K RT Y old σ σV H x u)(e:x.d=.bl i):u=.bl i:=by unfold Rv at h;rw[e] at h;exact h
theorem Rv.non{u:V}(h:Rv X.K RT Y old σ σV H x u)(e:x.d=.non):u=.non:=by unfold Rv at h;rw[e] at h;exact h
theorem Rv.tup{ds:List D}{u:V}(h:Rv X.K RT Y old σ σV H x u)(e:x.d=.tup ds):∃a xs,u=.ref a/\SqT X.K H a xs/\Reps X.K H (exV RT Y old σ σV x.pa x.al) ds xs:=by unfold Rv at h;rw[e] at h;exact h
theorem Rv.lst{ds:List D}{u:V}(h:Rv X.K RT Y old σ σV H x u)(e:x.d=.lst ds):∃a xs,u=.ref a/\SqL X.K H a xs/\¬ exV RT Y old σ σV x.pa x.al a/\Reps X.K H (exV RT Y old σ σV x.pa x.al) ds xs:=by unfold Rv at h;rw[e] at h;exact h
theorem aId:lim<=sizeLine:=by unfold lim;rw[C2];decide
theorem gC{n:Nat}(h:n<=lim):n<=sizeLine:=A4 h aId
theorem gJ{ds:List D}{xs:List V}{pa:Bool}{al:List Nat}{K:Fg}(r:Reps K H (exV RT Y old σ σV pa al) ds xs) :
 Reps K H (exV RT Y old σ σV (pa&&!noLs ds) (if noLs ds=true then [] else al)) ds xs:=by
 by_cases hn:noLs ds=true
 . exact Reps.free ds xs hn r
 . rw[if_neg hn]
   refine r.weak λa z=>z.mono (λhp=>?_) λj hj=>hj
   rw[hp];simp[hn]
def aKL(K:Fg):R2:=λx y H Q=>∃l b xs zs,x=.ref l/\y=.ref b/\SqL K H l xs/\SqL K H b zs/\xs.length+zs.length<=sizeLine/\∀p,H p=none->Q (.ref p) (upd H p (.lst (xs++zs)))
theorem aFQ:OpR X (binaryOp .Add) (aKL X.K):=by
 intro pins s σV H x y v u Q I rx ry h
 obtain⟨l,b,xs,zs,rfl,rfl,hH,hB,hz,q⟩:=h
 cases rx
 cases ry
 obtain⟨its,r,pl,z⟩:=I.list hH
 obtain⟨its2,r2,pl2,z2⟩:=I.list hB
 obtain⟨⟨cls,dd,data,sl⟩,ho,hc,n,hd⟩:=pl.isList
 obtain⟨⟨cls2,dd2,data2,sl2⟩,ho2,hc2,n2,hd2⟩:=pl2.isList
 simp only at hc hd hc2 hd2
 subst hc hd hc2 hd2
 have e:its.toArray++its2.toArray=(its++its2).toArray:=by simp
 have hl:=r.length
 have hl2:=r2.length
 refine concat_meets ⟨_,ho,rfl⟩ ⟨_,ho2,rfl⟩ noFill_list_add seq_list_add PySem.F.slot_list_add PySem.F.entry_list_add (PySem.F.args_list_add_2 _ _) (list_addW l b its.toArray its2.toArray n n2 dd dd2 sl sl2 (by rw[Af,Af];omega)) ⟨ho,ho2,?_⟩
 rw[e]
 exact⟨.ref _,_,I.lnew (t':=s.toks) (r.append r2) (by rw[lA];omega),rfl,q _ I.fresh⟩
theorem aFR(x:Str):Str.rep x 1=x:=by
 unfold Str.rep
 cases x
 simp
theorem aBT(x:Str)(h:x.length=0)(k:Nat):Str.rep x k=x:=by
 have hx:x.cps=#[]:=by
  unfold Str.length at h
  exact Array.eq_empty_of_size_eq_zero h
 have go:∀k,(List.replicate k x.cps).foldl (·++·) #[]=#[]:=by
  intro k
  rw[hx]
  induction k with
  | zero=>rfl
  | succ k ih=>rw[Bq,B6];simpa using ih
 unfold Str.rep
 rw[go k]
 cases x
 simp at hx
 rw[hx]
theorem zQ(x:Str)(k:Nat):(⟨(List.replicate k x.cps).foldl (·++·) #[]⟩:Str).length=x.length*k:=by
 have go:∀(k:Nat) (acc:Array Nat),((List.replicate k x.cps).foldl (·++·) acc).size=acc.size+x.cps.size*k:=by
  intro k
  induction k with
  | zero=>intro acc;simp
  | succ k ih=>
   intro acc
   rw[Bq,B6,ih,Array.size_append,Nat.mul_succ]
   omega
 show((List.replicate k x.cps).foldl (·++·) #[]).size=x.cps.size*k
 rw[go]
 simp
theorem aFS:OpR X (binaryOp .Mult) (λx y H Q=>∃a k,x=.str a/\y=.int k/\aN k=true/\a.length*k.toNat<=lim/\Q (.str (Str.rep a k.toNat)) H):=by
 intro pins s σV H x y v u Q I rx ry h
 obtain⟨a,k,rfl,rfl,hk,hl,q⟩:=h
 obtain⟨t,rfl⟩:=rx
 obtain⟨t',rfl⟩:=ry
 unfold aN at hk
 simp only[bA,A1] at hk
 have h1:-(2 ^ 62:Int)<=k:=hk.1
 have h2:k<(2 ^ 62:Int):=hk.2
 have e1:decide (k < -(2 ^ 63:Int))=false:=As (by omega)
 have e2:decide (k ≥ (2 ^ 63:Int))=false:=As (by omega)
 have fin:∀z:Str,z=Str.rep a k.toNat->∀tk,EP X pins σV Q (.str z tk) { s with toks:=s.toks+1 }:=λz e tk=>by
  subst e
  exact⟨.str _,H,I.tok _,⟨_,rfl⟩,q⟩
 refine P.mul_str (by rw[e1,e2];rfl) (λn1 n2 z=>?_) (λn1 n2=>?_) ?_
 . have k1:1<=k:=by omega
   have z1:(a.length:Int)*k<=(lim:Int):=by
    have hk':((k.toNat:Nat):Int)=k:=by omega
    have:=Int.ofNat_le.mpr hl
    rw[Int.natCast_mul] at this
    rw[<-hk']
    exact_mod_cast this
   have z2:(2 ^ 63-1:Int) / k<a.length:=z
   have z3:(2 ^ 63-1:Int)<a.length*k:=Int.lt_mul_of_ediv_lt (by omega) z2
   have z4:(lim:Int)=1000000:=rfl
   omega
 . unfold Builtin.Str.tooLong
   have:=gC hl
   exact As (by omega)
 . split
   . rename_i hn
     have:k.toNat=0:=by omega
     refine⟨by decide,?_⟩
     exact fin _ (by rw[this];rfl) _
   . split
     . rename_i hn h1'
       have hz:Str.rep a k.toNat=a:=by
        rcases Bool.or_eq_true_iff.mp h1' with z|z
        . have:k=1:=eq_of_beq z
          subst this
          exact aFR a
        . exact aBT a (eq_of_beq z) _
       exact⟨.str a,H,I,⟨_,rfl⟩,by rw[hz] at q;exact q⟩
     . refine⟨?_,fin _ rfl _⟩
       have:=gC hl
       rw[zQ]
       exact this
def aIe(K:Fg):R2:=λx y H Q=>∃a b xs ys,x=.ref a/\y=.ref b/\SqT K H a xs/\SqT K H b ys/\xs.length+ys.length<=sizeLine /\
 (xs=[]->Q (.ref b) H)/\(xs≠[]->ys=[]->Q (.ref a) H)/\(xs≠[]->ys≠[]->∀p,H p=none->Q (.ref p) (upd H p (.tup (xs++ys))))
theorem aDw:OpR X (binaryOp .Add) (aIe X.K):=by
 intro pins s σ H x y v u Q I rx ry h
 obtain⟨a,b,xs,ys,rfl,rfl,ha,hb,hz,q0,q1,q2⟩:=h
 by_cases hx:xs=[]
 . cases rx
   cases ry
   obtain⟨its,r1,p1,_⟩:=I.tuple ha
   obtain⟨its2,r2,p2,_⟩:=I.tuple hb
   obtain⟨⟨cls,dd,data,sl⟩,ho,hc,n,hd⟩:=id p1
   obtain⟨⟨cls2,dd2,data2,sl2⟩,ho2,hc2,n2,hd2⟩:=id p2
   simp only at hc hd hc2 hd2
   subst hc hd hc2 hd2
   have hi:its=[]:=r1.nil_iff.mpr hx
   exact concat_meets ⟨_,ho,rfl⟩ ⟨_,ho2,rfl⟩ noFill_tuple_add seq_tuple_add D6 D4 (Dz _ _)
    (tuple_addW0 a b its.toArray its2.toArray n n2 dd dd2 sl sl2 (by simp[hi])) ⟨ho,ho2,⟨.ref b,H,I,rfl,q0 hx⟩⟩
 . exact aFH pins s σ H _ _ v u Q I rx ry ⟨a,b,xs,ys,rfl,rfl,ha,hb,hx,hz,q1 hx,q2 hx⟩
theorem aDx{o:Operator}(I:Inv X pins σV H s)(S:Sx X.K RT Y old σ σV H)(rx:bR ux vx)(ry:bR uy vy)(hx:Rv X.K RT Y old σ σV H x ux)(hy:Rv X.K RT Y old σ σV H y uy)
 (hfr:x.fr=true->∃a xs,ux=.ref a/\H a=some (.lst xs)) (h:RE (opD o x y) (Wn X RT Y old σ σV H Q)):wpAny (model X.prog X.w) X.A (binaryOp o vx vy) (EP X pins σV Q) X.xe s:=by
 have t:=Inv.tk I
 have go:∀{f:Value->Value->Sem Value} {r:R2},OpR X f r->(r ux uy H λv H'=>Tk X.K H'->Q v H')->wpAny (model X.prog X.w) X.A (f vx vy) (EP X pins σV Q) X.xe s:=λhr q=>
  thn (hr pins s σV H ux uy vx vy _ I rx ry q) λu s' z=>EP.tk z
 cases o with
 | Add=>
  have h:RE (aHY x y) (Wn X RT Y old σ σV H Q):=h
  unfold aHY at h
  split at h
  . rename_i i j d1 d2
    exact go aHI ⟨i,j,hx.int d1,hy.int d2,λ_=>h.val t λ_=>rfl⟩
  . rename_i i j d1 d2
    obtain⟨c,h⟩:=h.iff
    exact go zF ⟨i,j,hx.str d1,hy.str d2,gC (A9 c),λ_=>Wn.val h t λ_=>rfl⟩
  . rename_i as bs d1 d2
    obtain⟨c,h⟩:=h.iff
    obtain⟨a,xs,e1,q1,r1⟩:=hx.tup d1
    obtain⟨b,ys,e2,q2,r2⟩:=hy.tup d2
    have l1:=r1.length
    have l2:=r2.length
    have c':=A9 c
    have r1':Reps X.K H (exV RT Y old σ σV (x.pa||y.pa) (x.al++y.al)) as xs:=r1.weak λa z=>z.mono (λhp=>by rw[hp];rfl) λj hj=>Bg _ hj
    have r2':Reps X.K H (exV RT Y old σ σV (x.pa||y.pa) (x.al++y.al)) bs ys:=r2.weak λa z=>z.mono (λhp=>by rw[hp,Bool.or_true]) λj hj=>Aq _ hj
    refine go aDw ⟨a,b,xs,ys,e1,e2,q1,q2,gC (by omega),λz t'=>?_,λz z' t'=>?_,λz z' p hp t'=>?_⟩
    . subst z
      have:as=[]:=List.length_eq_zero_iff.mp (by simpa using l1)
      subst this
      exact h _ _ t' (Ro.plain (aX.refl H) rfl ⟨b,ys,rfl,q2,r2'⟩)
    . subst z'
      have:bs=[]:=List.length_eq_zero_iff.mp (by simpa using l2)
      subst this
      exact h _ _ t' (Ro.plain (aX.refl H) rfl ⟨a,xs,rfl,q1,by rw[Ch];exact r1'⟩)
    . exact h _ _ t' (Ro.tup hp rfl rfl (r1'.append r2'))
  . rename_i as bs d1 d2
    obtain⟨c,h⟩:=h.iff
    obtain⟨a,xs,e1,q1,_,r1⟩:=hx.lst d1
    obtain⟨b,ys,e2,q2,_,r2⟩:=hy.lst d2
    have l1:=r1.length
    have l2:=r2.length
    have c':=A9 c
    refine go aFQ ⟨a,b,xs,ys,e1,e2,q1,q2,gC (by omega),λp hp t'=>h _ _ t' (Ro.fresh hp t' rfl rfl S ?_)⟩
    refine Reps.append ((gJ r1).weak λa z=>z.mono (λhp=>?_) λj hj=>Bg _ hj) ((gJ r2).weak λa z=>z.mono (λhp=>?_) λj hj=>Aq _ hj)
    . show(_||_)=true
      rw[hp];rfl
    . show(_||_)=true
      rw[hp,Bool.or_true]
  . exact h.elim
 | Mult=>
  have h:RE (aHZ x y) (Wn X RT Y old σ σV H Q):=h
  unfold aHZ at h
  split at h
  . rename_i i j d1 d2
    obtain⟨c,h⟩:=h.iff
    refine go aHK ⟨i,j,hx.int d1,hy.int d2,?_,λ_=>Wn.val h t λ_=>rfl⟩
    simp only[gY,Cr,bA,A1] at c
    exact c
  . rename_i i j d1 d2
    obtain⟨c,h⟩:=h.iff
    simp only[bA,A1] at c
    exact go aFS ⟨i,j,hx.str d1,hy.int d2,c.1,c.2,λ_=>Wn.val h t λ_=>rfl⟩
  . rename_i as k d1 d2
    obtain⟨c,h⟩:=h.iff
    simp only[bA,A1] at c
    obtain⟨a,xs,e1,q1,_,r1⟩:=hx.lst d1
    obtain⟨a',xs',e1',q1'⟩:=hfr c.1.1.1
    rw[e1] at e1'
    cases e1'
    have e3:xs=xs':=I.list_inj q1 (SqL.of q1')
    subst e3
    have l1:=r1.length
    have hk:=c.1.1.2
    unfold aN at hk
    simp only[bA,A1] at hk
    have hk1:=hk.1
    have hk2:=hk.2
    refine go aHX ⟨a,k,xs,e1,hy.int d2,q1',by omega,by omega,gC (by rw[<-l1];exact c.1.2),λp hp t'=>h _ _ t' (Ro.fresh hp t' rfl rfl S ?_)⟩
    exact Reps.flat (Reps.free as xs c.2 r1) _
  . exact h.elim
 | Sub=>
  dsimp only[opD,wN] at h
  split at h
  . rename_i i j d1 d2
    exact go aHJ ⟨i,j,hx.int d1,hy.int d2,λ_=>h.val t λ_=>rfl⟩
  . exact h.elim
 | FloorDiv=>
  dsimp only[opD,wN] at h
  split at h
  . rename_i i j d1 d2
    obtain⟨c,h⟩:=h.iff
    refine go aFx ⟨i,j,hx.int d1,hy.int d2,?_,λ_=>Wn.val h t λ_=>rfl⟩
    simp only[wM,bA,A1] at c
    exact c
  . exact h.elim
 | Mod=>
  dsimp only[opD,wN] at h
  split at h
  . rename_i i j d1 d2
    obtain⟨c,h⟩:=h.iff
    exact go aHL ⟨i,j,hx.int d1,hy.int d2,A9 c,λ_=>Wn.val h t λ_=>rfl⟩
  . exact h.elim
 | Pow=>
  dsimp only[opD,wN] at h
  split at h
  . rename_i i j d1 d2
    obtain⟨c,h⟩:=h.iff
    refine go aHM ⟨i,j,hx.int d1,hy.int d2,?_,λ_=>Wn.val h t λ_=>rfl⟩
    simp only[aGS,bA,A1] at c
    exact⟨c.1.1,by omega,c.2⟩
  . exact h.elim
 | _=>exact h.elim
end
end Hp
end
noncomputable section
namespace Hp
open PySem PySem.Spec PyProof.Rows L2 PySem.SeqAt
def jB(n:Nat)(ds es:List D)(j:Nat):Bool:=match ds[j]?,es[j]? with
 | some x,some y=>(eqF n x y).getD false
 | _,_=>false
theorem aAN:∀{n:Nat} {ds es:List D} {k:Bool},gQ n ds es=some k->∀{j:Nat} {x y:D},ds[j]? = some x->es[j]? = some y->∃b,eqF n x y=some b
 | n,[],es,k,h,j,x,y,e1,e2=>by simp at e1
 | n,d::ds,[],k,h,j,x,y,e1,e2=>by simp at e2
 | n,d::ds,e::es,k,h,j,x,y,e1,e2=>by
  rw[gQ] at h
  cases h1:eqF n d e with
  | none=>rw[h1] at h;simp at h
  | some b=>
   cases h2:gQ n ds es with
   | none=>rw[h1,h2] at h;simp at h
   | some b'=>
    cases j with
    | zero=>simp at e1 e2;subst e1 e2;exact⟨b,h1⟩
    | succ j=>exact aAN h2 (by simpa using e1) (by simpa using e2)
theorem pW:∀{n:Nat} {ds es:List D} {k:Bool},gQ n ds es=some k->k=((List.range (min ds.length es.length)).all (jB n ds es)&&ds.length==es.length)
 | n,[],[],k,h=>by simp[gQ] at h;simp[<-h]
 | n,[],e::es,k,h=>by simp[gQ] at h;simp[<-h]
 | n,d::ds,[],k,h=>by simp[gQ] at h;simp[<-h]
 | n,d::ds,e::es,k,h=>by
  rw[gQ] at h
  cases h1:eqF n d e with
  | none=>rw[h1] at h;simp at h
  | some b=>
   cases h2:gQ n ds es with
   | none=>rw[h1,h2] at h;simp at h
   | some b'=>
    rw[h1,h2] at h
    have hk:(b&&b')=k:=Ak h
    have ih:=pW h2
    have e0:jB n (d::ds) (e::es) 0=b:=by simp[jB,h1]
    have es':∀j,jB n (d::ds) (e::es) (j+1)=jB n ds es j:=λj=>by simp[jB]
    have hm:min (d::ds).length (e::es).length=min ds.length es.length+1:=by simp only[lC];omega
    rw[hm,Dm,List.all_cons,e0,List.all_map]
    have:(jB n (d::ds) (e::es))∘Nat.succ=jB n ds es:=funext λj=>es' j
    rw[this,<-hk,ih]
    simp[Bool.and_assoc]
section
variable {X:Cx} {σV:L2.St} {H:Hp} {s:Shared} {pins:List (Addr×Obj)}
theorem _root_.L2.Inv.lt_ne(I:L2.Inv X pins σV H s){a:Addr}{xs ys:List V}(h1:SqL X.K H a xs)(h2:SqT X.K H a ys):False:=by
 obtain⟨its,_,pl,_⟩:=I.list h1
 obtain⟨its2,_,pt,_⟩:=I.tuple h2
 exact ne_of_list_tuple pl.isList (show s.heap.IsTuple a its2.toArray from pt) rfl
theorem aDy{n:Nat}{ds:List (D×D)}{e:D}{k:Bool}(h:eqF (n+1) (.dic ds) e=some k):False:=by
 unfold eqF at h
 split at h <;> first|(cases h;done)|(rename_i e1 e2;cases e1;done)|(rename_i e1;cases e1;done)
mutual
theorem uI(I:L2.Inv X pins σV H s):∀(n:Nat) (d e:D) (u:V) (k:Bool) (ex ex':Addr->Prop),Rep X.K H ex d u->Rep X.K H ex' e u->eqF n d e=some k->k=true
 | 0,d,e,u,k,_,_,_,_,h=>by simp[eqF] at h
 | n+1,.non,e,u,k,_,_,h1,h2,h=>by
  rw[show u=.non from h1] at h2
  cases e with
  | non=>simpa[eqF] using h.symm
  | tup ds=>obtain⟨a,xs,z,_⟩:=h2;cases z
  | lst ds=>obtain⟨a,xs,z,_⟩:=h2;cases z
  | dic ds=>obtain⟨a,xs,z,_⟩:=h2;cases z
  | err _ _=>exact h2.elim
  | bl b=>cases(show V.non=.bl b from h2)
  | int b=>cases(show V.non=.int b from h2)
  | str b=>cases(show V.non=.str b from h2)
 | n+1,.bl b,e,u,k,_,_,h1,h2,h=>by
  rw[show u=.bl b from h1] at h2
  cases e with
  | bl b'=>cases(show V.bl b=.bl b' from h2);simpa[eqF] using h.symm
  | tup ds=>obtain⟨a,xs,z,_⟩:=h2;cases z
  | lst ds=>obtain⟨a,xs,z,_⟩:=h2;cases z
  | dic ds=>obtain⟨a,xs,z,_⟩:=h2;cases z
  | err _ _=>exact h2.elim
  | non=>cases(show V.bl b=.non from h2)
  | int b'=>cases(show V.bl b=.int b' from h2)
  | str b'=>cases(show V.bl b=.str b' from h2)
 | n+1,.int b,e,u,k,_,_,h1,h2,h=>by
  rw[show u=.int b from h1] at h2
  cases e with
  | int b'=>cases(show V.int b=.int b' from h2);simpa[eqF] using h.symm
  | tup ds=>obtain⟨a,xs,z,_⟩:=h2;cases z
  | lst ds=>obtain⟨a,xs,z,_⟩:=h2;cases z
  | dic ds=>obtain⟨a,xs,z,_⟩:=h2;cases z
  | err _ _=>exact h2.elim
  | non=>cases(show V.int b=.non from h2)
  | bl b'=>cases(show V.int b=.bl b' from h2)
  | str b'=>cases(show V.int b=.str b' from h2)
 | n+1,.str b,e,u,k,_,_,h1,h2,h=>by
  rw[show u=.str b from h1] at h2
  cases e with
  | str b'=>cases(show V.str b=.str b' from h2);simpa[eqF] using h.symm
  | tup ds=>obtain⟨a,xs,z,_⟩:=h2;cases z
  | lst ds=>obtain⟨a,xs,z,_⟩:=h2;cases z
  | dic ds=>obtain⟨a,xs,z,_⟩:=h2;cases z
  | err _ _=>exact h2.elim
  | non=>cases(show V.str b=.non from h2)
  | bl b'=>cases(show V.str b=.bl b' from h2)
  | int b'=>cases(show V.str b=.int b' from h2)
 | n+1,.tup ds,e,u,k,ex,ex',h1,h2,h=>by
  obtain⟨a,xs,z,q,r⟩:=h1
  subst z
  cases e with
  | tup es=>
   obtain⟨a',ys,z,q',r'⟩:=h2
   cases z
   have:xs=ys:=I.tuple_inj q q'
   subst this
   exact eqs_same I n ds es xs k ex ex' r r' (by simpa[eqF] using h)
  | lst es=>
   obtain⟨a',ys,z,q',_,r'⟩:=h2
   cases z
   exact(I.lt_ne q' q).elim
  | dic ds=>simp[eqF] at h
  | err _ _=>exact h2.elim
  | non=>cases(show V.ref a=.non from h2)
  | bl b'=>cases(show V.ref a=.bl b' from h2)
  | int b'=>cases(show V.ref a=.int b' from h2)
  | str b'=>cases(show V.ref a=.str b' from h2)
 | n+1,.lst ds,e,u,k,ex,ex',h1,h2,h=>by
  obtain⟨a,xs,z,q,_,r⟩:=h1
  subst z
  cases e with
  | lst es=>
   obtain⟨a',ys,z,q',_,r'⟩:=h2
   cases z
   have:xs=ys:=I.list_inj q q'
   subst this
   have hl:ds.length=es.length:=r.length.trans r'.length.symm
   exact eqs_same I n ds es xs k ex ex' r r' (by simpa[eqF,hl] using h)
  | tup es=>
   obtain⟨a',ys,z,q',r'⟩:=h2
   cases z
   exact(I.lt_ne q q').elim
  | dic ds=>simp[eqF] at h
  | err _ _=>exact h2.elim
  | non=>cases(show V.ref a=.non from h2)
  | bl b'=>cases(show V.ref a=.bl b' from h2)
  | int b'=>cases(show V.ref a=.int b' from h2)
  | str b'=>cases(show V.ref a=.str b' from h2)
 | n+1,.dic ds,e,u,k,ex,ex',h1,h2,h=>by
  exact(aDy h).elim
 | n+1,.err _ _,e,u,k,ex,ex',h1,h2,h=>h1.elim
theorem eqs_same(I:L2.Inv X pins σV H s):∀(n:Nat) (ds es:List D) (us:List V) (k:Bool) (ex ex':Addr->Prop),Reps X.K H ex ds us->Reps X.K H ex' es us->gQ n ds es=some k->k=true
 | n,[],[],us,k,_,_,h1,h2,h=>by simpa[gQ] using h.symm
 | n,[],e::es,us,k,_,_,h1,h2,h=>by
  obtain⟨x,r,z,_⟩:=h2
  rw[show us=[] from h1] at z;cases z
 | n,d::ds,[],us,k,_,_,h1,h2,h=>by
  obtain⟨x,r,z,_⟩:=h1
  rw[show us=[] from h2] at z;cases z
 | n,d::ds,e::es,us,k,ex,ex',h1,h2,h=>by
  obtain⟨x,r,z,a1,b1⟩:=h1
  obtain⟨x',r',z',a2,b2⟩:=h2
  rw[z] at z'
  cases z'
  rw[gQ] at h
  cases q1:eqF n d e with
  | none=>rw[q1] at h;simp at h
  | some b=>
   cases q2:gQ n ds es with
   | none=>rw[q1,q2] at h;simp at h
   | some b'=>
    rw[q1,q2] at h
    have e1:=uI I n d e x b ex ex' a1 a2 q1
    have e2:=eqs_same I n ds es r b' ex ex' b1 b2 q2
    subst e1 e2
    simpa using h.symm
end
def Eq3(A:Around)(s:Shared)(v z:Value)(k:Bool):Prop:=EqAt A s v z k/\RcAt A s v z k/\RcNeAt A s v z (!k)
theorem aAO{xs:List V}{us:List Value}(r:aU xs us){j:Nat}(h:j<us.toArray.size):∃x,xs[j]? = some x/\bR x us.toArray[j]:=by
 have hl:=r.length
 have hj:j<xs.length:=by rw[Af] at h;omega
 obtain⟨u,e,q⟩:=r.get (Ad hj)
 refine⟨xs[j],Ad hj,?_⟩
 have:us.toArray[j]=u:=by
  have e':us[j]? = some us.toArray[j]:=by simp[Ad (show j<us.length by simpa using h)]
  rw[e'] at e
  exact Ak e
 rw[this]
 exact q
theorem sM(A:Around):A.in1.units=A.units+1:=rfl
theorem aAP(I:L2.Inv X pins σV H s):∀(n:Nat) (A:Around) (d e:D) (u w:V) (v z:Value) (k:Bool) (ex ex':Addr->Prop),A.units+n<cLine->Rep X.K H ex d u->Rep X.K H ex' e w->bR u v->bR w z->eqF n d e=some k->Eq3 A s v z k:=by
 intro n
 induction n with
 | zero=>intro A d e u w v z k ex ex' _ _ _ _ _ h;simp[eqF] at h
 | succ n ih=>
  intro A d e u w v z k ex ex' hA h1 h2 r1 r2 h
  have hu:A.units<cLine:=by omega
  have items:∀{ds es:List D} {xs ys:List V} {its its2:List Value} {k:Bool},Reps X.K H ex ds xs->Reps X.K H ex' es ys->aU xs its->aU ys its2->gQ n ds es=some k ->
   ∀j (_:j<its.toArray.size) (_:j<its2.toArray.size),EqAt A.in1 s its.toArray[j] its2.toArray[j] (jB n ds es j):=by
   intro ds es xs ys its its2 k q1 q2 v1 v2 hk j hj1 hj2
   obtain⟨x,ex1,rx⟩:=aAO v1 hj1
   obtain⟨y,ey1,ry⟩:=aAO v2 hj2
   obtain⟨d',ed,rd⟩:=q1.get' ex1
   obtain⟨e',ee,re⟩:=q2.get' ey1
   obtain⟨b,hb⟩:=aAN hk ed ee
   have hj:jB n ds es j=b:=by simp[jB,ed,ee,hb]
   rw[hj]
   exact(ih A.in1 d' e' x y _ _ b ex ex' (by rw[sM];omega) rd re rx ry hb).1
  cases d with
  | err _ _=>exact h1.elim
  | dic ds=>
   exact(aDy h).elim
  | non=>
   rw[show u=.non from h1] at r1
   cases r1
   cases e with
   | err _ _=>exact h2.elim
   | dic _=>simp[eqF] at h
   | non=>rw[show w=.non from h2] at r2;cases r2;simp[eqF] at h;subst h;exact⟨EqAt.same _,RcAt.none_none,RcNeAt.none_none⟩
   | bl b=>rw[show w=.bl b from h2] at r2;cases r2;simp[eqF] at h;subst h;exact⟨EqAt.none_bool _,RcAt.none_bool _,RcNeAt.none_bool _⟩
   | int b=>rw[show w=.int b from h2] at r2;obtain⟨t,rfl⟩:=r2;simp[eqF] at h;subst h;exact⟨EqAt.none_int _ _,RcAt.none_int _ _,RcNeAt.none_int _ _⟩
   | str b=>rw[show w=.str b from h2] at r2;obtain⟨t,rfl⟩:=r2;simp[eqF] at h;subst h;exact⟨EqAt.none_str _ _,RcAt.none_str _ _,RcNeAt.none_str _ _⟩
   | tup es=>
    obtain⟨b,ys,rfl,q,r⟩:=h2
    cases r2
    obtain⟨its,_,p,_⟩:=I.tuple q
    simp[eqF] at h;subst h
    exact⟨EqAt.none_tuple (show s.heap.IsTuple b its.toArray from p) hu,RcAt.none_tuple (show s.heap.IsTuple b its.toArray from p) hu,RcNeAt.none_tuple (show s.heap.IsTuple b its.toArray from p) hu⟩
   | lst es=>
    obtain⟨b,ys,rfl,q,_,r⟩:=h2
    cases r2
    obtain⟨its,_,p,_⟩:=I.list q
    simp[eqF] at h;subst h
    exact⟨EqAt.none_list p.isList hu,RcAt.none_list p.isList hu,RcNeAt.none_list p.isList hu⟩
  | bl a=>
   rw[show u=.bl a from h1] at r1
   cases r1
   cases e with
   | err _ _=>exact h2.elim
   | dic _=>simp[eqF] at h
   | non=>rw[show w=.non from h2] at r2;cases r2;simp[eqF] at h;subst h;exact⟨EqAt.bool_none _,RcAt.bool_none _,RcNeAt.bool_none _⟩
   | bl b=>rw[show w=.bl b from h2] at r2;cases r2;simp only[eqF,Db] at h;subst h;exact⟨EqAt.bool_bool _ _,RcAt.bool_bool _ _,RcNeAt.bool_bool _ _⟩
   | int b=>rw[show w=.int b from h2] at r2;obtain⟨t,rfl⟩:=r2;simp only[eqF,Db] at h;subst h;exact⟨EqAt.bool_int _ _ _,RcAt.bool_int _ _ _,RcNeAt.bool_int _ _ _⟩
   | str b=>rw[show w=.str b from h2] at r2;obtain⟨t,rfl⟩:=r2;simp[eqF] at h;subst h;exact⟨EqAt.bool_str _ _ _,RcAt.bool_str _ _ _,RcNeAt.bool_str _ _ _⟩
   | tup es=>
    obtain⟨b,ys,rfl,q,r⟩:=h2
    cases r2
    obtain⟨its,_,p,_⟩:=I.tuple q
    simp[eqF] at h;subst h
    exact⟨EqAt.bool_tuple _ (show s.heap.IsTuple b its.toArray from p) hu,RcAt.bool_tuple _ (show s.heap.IsTuple b its.toArray from p) hu,RcNeAt.bool_tuple _ (show s.heap.IsTuple b its.toArray from p) hu⟩
   | lst es=>
    obtain⟨b,ys,rfl,q,_,r⟩:=h2
    cases r2
    obtain⟨its,_,p,_⟩:=I.list q
    simp[eqF] at h;subst h
    exact⟨EqAt.bool_list _ p.isList hu,RcAt.bool_list _ p.isList hu,RcNeAt.bool_list _ p.isList hu⟩
  | int a=>
   rw[show u=.int a from h1] at r1
   obtain⟨t1,rfl⟩:=r1
   cases e with
   | err _ _=>exact h2.elim
   | dic _=>simp[eqF] at h
   | non=>rw[show w=.non from h2] at r2;cases r2;simp[eqF] at h;subst h;exact⟨EqAt.int_none _ _,RcAt.int_none _ _,RcNeAt.int_none _ _⟩
   | bl b=>rw[show w=.bl b from h2] at r2;cases r2;simp only[eqF,Db] at h;subst h;exact⟨EqAt.int_bool _ _ _,RcAt.int_bool _ _ _,RcNeAt.int_bool _ _ _⟩
   | int b=>rw[show w=.int b from h2] at r2;obtain⟨t,rfl⟩:=r2;simp only[eqF,Db] at h;subst h;exact⟨EqAt.int_int _ _ _ _,RcAt.int_int _ _ _ _,RcNeAt.int_int _ _ _ _⟩
   | str b=>rw[show w=.str b from h2] at r2;obtain⟨t,rfl⟩:=r2;simp[eqF] at h;subst h;exact⟨EqAt.int_str _ _ _ _,RcAt.int_str _ _ _ _,RcNeAt.int_str _ _ _ _⟩
   | tup es=>
    obtain⟨b,ys,rfl,q,r⟩:=h2
    cases r2
    obtain⟨its,_,p,_⟩:=I.tuple q
    simp[eqF] at h;subst h
    exact⟨EqAt.int_tuple _ _ (show s.heap.IsTuple b its.toArray from p) hu,RcAt.int_tuple _ _ (show s.heap.IsTuple b its.toArray from p) hu,RcNeAt.int_tuple _ _ (show s.heap.IsTuple b its.toArray from p) hu⟩
   | lst es=>
    obtain⟨b,ys,rfl,q,_,r⟩:=h2
    cases r2
    obtain⟨its,_,p,_⟩:=I.list q
    simp[eqF] at h;subst h
    exact⟨EqAt.int_list _ _ p.isList hu,RcAt.int_list _ _ p.isList hu,RcNeAt.int_list _ _ p.isList hu⟩
  | str a=>
   rw[show u=.str a from h1] at r1
   obtain⟨t1,rfl⟩:=r1
   cases e with
   | err _ _=>exact h2.elim
   | dic _=>simp[eqF] at h
   | non=>rw[show w=.non from h2] at r2;cases r2;simp[eqF] at h;subst h;exact⟨EqAt.str_none _ _,RcAt.str_none _ _,RcNeAt.str_none _ _⟩
   | bl b=>rw[show w=.bl b from h2] at r2;cases r2;simp[eqF] at h;subst h;exact⟨EqAt.str_bool _ _ _,RcAt.str_bool _ _ _,RcNeAt.str_bool _ _ _⟩
   | int b=>rw[show w=.int b from h2] at r2;obtain⟨t,rfl⟩:=r2;simp[eqF] at h;subst h;exact⟨EqAt.str_int _ _ _ _,RcAt.str_int _ _ _ _,RcNeAt.str_int _ _ _ _⟩
   | str b=>rw[show w=.str b from h2] at r2;obtain⟨t,rfl⟩:=r2;simp only[eqF,Db] at h;subst h;exact⟨EqAt.str_str _ _ _ _,RcAt.str_str _ _ _ _,RcNeAt.str_str _ _ _ _⟩
   | tup es=>
    obtain⟨b,ys,rfl,q,r⟩:=h2
    cases r2
    obtain⟨its,_,p,_⟩:=I.tuple q
    simp[eqF] at h;subst h
    exact⟨EqAt.str_tuple _ _ (show s.heap.IsTuple b its.toArray from p) hu,RcAt.str_tuple _ _ (show s.heap.IsTuple b its.toArray from p) hu,RcNeAt.str_tuple _ _ (show s.heap.IsTuple b its.toArray from p) hu⟩
   | lst es=>
    obtain⟨b,ys,rfl,q,_,r⟩:=h2
    cases r2
    obtain⟨its,_,p,_⟩:=I.list q
    simp[eqF] at h;subst h
    exact⟨EqAt.str_list _ _ p.isList hu,RcAt.str_list _ _ p.isList hu,RcNeAt.str_list _ _ p.isList hu⟩
  | tup ds=>
   have h1':=h1
   obtain⟨a,xs,rfl,q1,rp1⟩:=h1
   cases r1
   obtain⟨its1,v1,p1,_⟩:=I.tuple q1
   have p1':s.heap.IsTuple a its1.toArray:=p1
   cases e with
   | err _ _=>exact h2.elim
   | dic _=>simp[eqF] at h
   | non=>rw[show w=.non from h2] at r2;cases r2;simp[eqF] at h;subst h;exact⟨EqAt.tuple_none p1' hu,RcAt.tuple_none p1' hu,RcNeAt.tuple_none p1' hu⟩
   | bl b=>rw[show w=.bl b from h2] at r2;cases r2;simp[eqF] at h;subst h;exact⟨EqAt.tuple_bool _ p1' hu,RcAt.tuple_bool _ p1' hu,RcNeAt.tuple_bool _ p1' hu⟩
   | int b=>rw[show w=.int b from h2] at r2;obtain⟨t,rfl⟩:=r2;simp[eqF] at h;subst h;exact⟨EqAt.tuple_int _ _ p1' hu,RcAt.tuple_int _ _ p1' hu,RcNeAt.tuple_int _ _ p1' hu⟩
   | str b=>rw[show w=.str b from h2] at r2;obtain⟨t,rfl⟩:=r2;simp[eqF] at h;subst h;exact⟨EqAt.tuple_str _ _ p1' hu,RcAt.tuple_str _ _ p1' hu,RcNeAt.tuple_str _ _ p1' hu⟩
   | tup es=>
    have h2':=h2
    obtain⟨b,ys,rfl,q2,rp2⟩:=h2
    cases r2
    obtain⟨its2,v2,p2,_⟩:=I.tuple q2
    have hk:gQ n ds es=some k:=by simpa[eqF] using h
    have hv:=pW hk
    have l1:its1.toArray.size=ds.length:=by rw[Af,<-v1.length,rp1.length]
    have l2:its2.toArray.size=es.length:=by rw[Af,<-v2.length,rp2.length]
    have rc:RcAt A s (.ref a) (.ref b) k:=by
     rw[hv,<-l1,<-l2]
     exact RcAt.tuples p1' (show s.heap.IsTuple b its2.toArray from p2) hu (items rp1 rp2 v1 v2 hk)
    have rn:RcNeAt A s (.ref a) (.ref b) (!k):=by
     rw[hv,<-l1,<-l2]
     exact RcNeAt.tuples p1' (show s.heap.IsTuple b its2.toArray from p2) hu (items rp1 rp2 v1 v2 hk)
    refine⟨?_,rc,rn⟩
    by_cases hab:a=b
    . subst hab
      have:=uI I (n+1) (.tup ds) (.tup es) (.ref a) k ex ex' h1' h2' h
      subst this
      exact EqAt.same _
    . exact EqAt.of_refs hab rc
   | lst es=>
    obtain⟨b,ys,rfl,q2,_,rp2⟩:=h2
    cases r2
    obtain⟨its2,v2,p2,_⟩:=I.list q2
    simp[eqF] at h;subst h
    exact⟨EqAt.tuple_list p1' p2.isList hu,RcAt.tuple_list p1' p2.isList hu,RcNeAt.tuple_list p1' p2.isList hu⟩
  | lst ds=>
   have h1':=h1
   obtain⟨a,xs,rfl,q1,_,rp1⟩:=h1
   cases r1
   obtain⟨its1,v1,p1,_⟩:=I.list q1
   have p1':=p1.isList
   cases e with
   | err _ _=>exact h2.elim
   | dic _=>simp[eqF] at h
   | non=>rw[show w=.non from h2] at r2;cases r2;simp[eqF] at h;subst h;exact⟨EqAt.list_none p1' hu,RcAt.list_none p1' hu,RcNeAt.list_none p1' hu⟩
   | bl b=>rw[show w=.bl b from h2] at r2;cases r2;simp[eqF] at h;subst h;exact⟨EqAt.list_bool _ p1' hu,RcAt.list_bool _ p1' hu,RcNeAt.list_bool _ p1' hu⟩
   | int b=>rw[show w=.int b from h2] at r2;obtain⟨t,rfl⟩:=r2;simp[eqF] at h;subst h;exact⟨EqAt.list_int _ _ p1' hu,RcAt.list_int _ _ p1' hu,RcNeAt.list_int _ _ p1' hu⟩
   | str b=>rw[show w=.str b from h2] at r2;obtain⟨t,rfl⟩:=r2;simp[eqF] at h;subst h;exact⟨EqAt.list_str _ _ p1' hu,RcAt.list_str _ _ p1' hu,RcNeAt.list_str _ _ p1' hu⟩
   | lst es=>
    have h2':=h2
    obtain⟨b,ys,rfl,q2,_,rp2⟩:=h2
    cases r2
    obtain⟨its2,v2,p2,_⟩:=I.list q2
    have l1:its1.toArray.size=ds.length:=by rw[Af,<-v1.length,rp1.length]
    have l2:its2.toArray.size=es.length:=by rw[Af,<-v2.length,rp2.length]
    have both:RcAt A s (.ref a) (.ref b) k/\RcNeAt A s (.ref a) (.ref b) (!k):=by
     by_cases hl:ds.length=es.length
     . have hk:gQ n ds es=some k:=by simpa[eqF,hl] using h
       have hv:=pW hk
       rw[<-hl,Nat.min_self,Bm,Bool.and_true,<-l1] at hv
       rw[hv]
       exact⟨RcAt.lists p1' p2.isList (by rw[l1,l2,hl]) hu (items rp1 rp2 v1 v2 hk),RcNeAt.lists p1' p2.isList (by rw[l1,l2,hl]) hu (items rp1 rp2 v1 v2 hk)⟩
     . have hk:k=false:=by simpa[eqF,hl] using h.symm
       subst hk
       have hz:(its1.toArray.size != its2.toArray.size)=true:=by rw[l1,l2];simpa using hl
       exact⟨RcAt.lists_lengths p1' p2.isList hz hu,RcNeAt.lists_lengths p1' p2.isList hz hu⟩
    refine⟨?_,both.1,both.2⟩
    by_cases hab:a=b
    . subst hab
      have:=uI I (n+1) (.lst ds) (.lst es) (.ref a) k ex ex' h1' h2' h
      subst this
      exact EqAt.same _
    . exact EqAt.of_refs hab both.1
   | tup es=>
    obtain⟨b,ys,rfl,q2,rp2⟩:=h2
    cases r2
    obtain⟨its2,v2,p2,_⟩:=I.tuple q2
    have p2':s.heap.IsTuple b its2.toArray:=p2
    simp[eqF] at h;subst h
    exact⟨EqAt.list_tuple p1' p2' hu,RcAt.list_tuple p1' p2' hu,RcNeAt.list_tuple p1' p2' hu⟩
end
end Hp
end
noncomputable section
namespace HT
open PySem PyProof.Rows
section
open PySem.SeqAt
open PySem.AutoSeq1 (wpAny_loadPart')
open PySem.MeetsSeq PySem.MeetsSeq2 PySem.MeetsSeq3
end
section
variable {prog:Program} {w:World} {A:Around} {E:Value->Shared->Prop} {s:Shared}
end
end HT
end
noncomputable section
namespace Hp
open PySem PySem.Spec PyProof.Rows L2 PySem.SeqAt
section
variable {X:Cx} {σV:L2.St} {H:Hp} {s:Shared} {pins:List (Addr×Obj)}
mutual
theorem aAQ(I:L2.Inv X pins σV H s):∀(d e:D) (u:V) (ex ex':Addr->Prop),Rep X.K H ex d u->Rep X.K H ex' e u->(∀kvs,d≠.dic kvs)->iU d=true->iU e=true->d=e
 | .non,e,u,_,_,h1,h2,_,_,_=>by
  rw[show u=.non from h1] at h2
  cases e with
  | non=>rfl
  | _=>first|(obtain⟨a,xs,z,_⟩:=h2;cases z)|exact h2.elim|(injection h2)
 | .bl b,e,u,_,_,h1,h2,_,_,_=>by
  rw[show u=.bl b from h1] at h2
  cases e with
  | bl b'=>cases(show V.bl b=.bl b' from h2);rfl
  | _=>first|(obtain⟨a,xs,z,_⟩:=h2;cases z)|exact h2.elim|(injection h2)
 | .int b,e,u,_,_,h1,h2,_,_,_=>by
  rw[show u=.int b from h1] at h2
  cases e with
  | int b'=>cases(show V.int b=.int b' from h2);rfl
  | _=>first|(obtain⟨a,xs,z,_⟩:=h2;cases z)|exact h2.elim|(injection h2)
 | .str b,e,u,_,_,h1,h2,_,_,_=>by
  rw[show u=.str b from h1] at h2
  cases e with
  | str b'=>cases(show V.str b=.str b' from h2);rfl
  | _=>first|(obtain⟨a,xs,z,_⟩:=h2;cases z)|exact h2.elim|(injection h2)
 | .tup ds,e,u,ex,ex',h1,h2,_,n1,n2=>by
  obtain⟨a,xs,z,q,r⟩:=h1
  subst z
  cases e with
  | tup es=>
   obtain⟨a',ys,z,q',r'⟩:=h2
   cases z
   have:xs=ys:=I.tuple_inj q q'
   subst this
   rw[reps_inj I ds es xs ex ex' r r' (by simpa[iU] using n1) (by simpa[iU] using n2)]
  | lst es=>
   obtain⟨a',ys,z,q',_,r'⟩:=h2
   cases z
   exact(I.lt_ne q' q).elim
  | dic _=>simp[iU] at n2
  | err _ _=>exact h2.elim
  | _=>injection h2
 | .lst ds,e,u,ex,ex',h1,h2,_,n1,n2=>by
  obtain⟨a,xs,z,q,_,r⟩:=h1
  subst z
  cases e with
  | lst es=>
   obtain⟨a',ys,z,q',_,r'⟩:=h2
   cases z
   have:xs=ys:=I.list_inj q q'
   subst this
   rw[reps_inj I ds es xs ex ex' r r' (by simpa[iU] using n1) (by simpa[iU] using n2)]
  | tup es=>
   obtain⟨a',ys,z,q',r'⟩:=h2
   cases z
   exact(I.lt_ne q q').elim
  | dic _=>simp[iU] at n2
  | err _ _=>exact h2.elim
  | _=>injection h2
 | .dic kvs,e,u,_,_,_,_,hn,_,_=>absurd rfl (hn kvs)
 | .err _ _,e,u,_,_,h1,_,_,_,_=>h1.elim
theorem reps_inj(I:L2.Inv X pins σV H s):∀(ds es:List D) (us:List V) (ex ex':Addr->Prop),Reps X.K H ex ds us->Reps X.K H ex' es us->noDics ds=true->noDics es=true->ds=es
 | [],[],_,_,_,_,_,_,_=>rfl
 | [],e::es,us,_,_,h1,h2,_,_=>by
  obtain⟨x,r,z,_⟩:=h2
  rw[show us=[] from h1] at z;cases z
 | d::ds,[],us,_,_,h1,h2,_,_=>by
  obtain⟨x,r,z,_⟩:=h1
  rw[show us=[] from h2] at z;cases z
 | d::ds,e::es,us,ex,ex',h1,h2,n1,n2=>by
  obtain⟨x,r,z,a1,b1⟩:=h1
  obtain⟨x',r',z',a2,b2⟩:=h2
  rw[z] at z'
  cases z'
  simp only[noDics,bA] at n1 n2
  rw[aAQ I d e x ex ex' a1 a2 (λkvs z=>by subst z;simp[iU] at n1) n1.1 n2.1,reps_inj I ds es r ex ex' b1 b2 n1.2 n2.2]
end
theorem aAR:∀{x:D} {ys:List D} {k:Bool},pN x ys=some k->(∀y∈ys,∃b,eqD y x=some b)/\(k=true↔∃y∈ys,eqD y x=some true)
 | x,[],k,h=>by
  simp[pN] at h
  subst h
  simp
 | x,y::ys,k,h=>by
  rw[pN] at h
  cases q1:eqD y x with
  | none=>rw[q1] at h;simp at h
  | some a=>
   cases q2:pN x ys with
   | none=>rw[q1,q2] at h;simp at h
   | some b=>
    rw[q1,q2] at h
    have hk:(a||b)=k:=Ak h
    obtain⟨i1,i2⟩:=aAR q2
    refine⟨λz hz=>?_,?_⟩
    . rcases An.mp hz with e|e
      . subst e;exact⟨a,q1⟩
      . exact i1 z e
    . rw[<-hk,Cr,i2]
      constructor
      . rintro (e|⟨z,hz,e⟩)
        . exact⟨y,Al,by rw[q1,e]⟩
        . exact⟨z,Ag _ hz,e⟩
      . rintro ⟨z,hz,e⟩
        rcases An.mp hz with e'|e'
        . subst e';rw[q1] at e;exact .inl (Ak e)
        . exact .inr ⟨z,e',e⟩
theorem kY:∀{ds:List D} {d:D},noDics ds=true->d∈ds->iU d=true
 | d'::ds,d,h,hm=>by
  simp only[noDics,bA] at h
  rcases An.mp hm with e|e
  . subst e;exact h.1
  . exact kY h.2 e
open Classical in
theorem jX(I:L2.Inv X pins σV H s){A:Around}(hA:A.units+lQ+1<cLine){x:D}{ux:V}{vx:Value}{ex ex':Addr->Prop}{ys:List D}{xs:List V}{its:List Value}{k:Bool}
 (hx:Rep X.K H ex x ux) (rx:bR ux vx) (r:Reps X.K H ex' ys xs) (v:aU xs its) (hn:noDics ys=true) (h:pN x ys=some k) :
 ∃e:Value->Bool,(∀y,y∈its.toArray->EqAt A.in1 s y vx (e y))/\its.toArray.any e=k:=by
 obtain⟨h1,h2⟩:=aAR h
 have at':∀y∈its,∃u d,bR u y/\Rep X.K H ex' d u/\d∈ys:=λy hy=>by
  obtain⟨j,hj⟩:=Dc hy
  have hl:=v.length
  have hjl:j<xs.length:=by have:=(Aw.mp hj).1;omega
  obtain⟨u',e',q⟩:=v.get (Ad hjl)
  rw[hj] at e'
  cases e'
  obtain⟨d,hd,rd⟩:=r.get' (Ad hjl)
  exact⟨_,d,q,rd,mG hd⟩
 refine⟨λy=>decide (∃u d,bR u y/\Rep X.K H ex' d u/\d∈ys/\eqD d x=some true),λy hy=>?_,?_⟩
 . obtain⟨u,d,q,rd,hd⟩:=at' y (by simpa using hy)
   obtain⟨b,hb⟩:=h1 d hd
   have key:(decide (∃u d,bR u y/\Rep X.K H ex' d u/\d∈ys/\eqD d x=some true))=b:=by
    cases b with
    | true=>exact Am ⟨u,d,q,rd,hd,hb⟩
    | false=>
     refine As ?_
     rintro ⟨u',d',q',rd',hd',hb'⟩
     have e1:u'=u:=q'.inj q
     subst e1
     have n1:=kY hn hd
     have n2:=kY hn hd'
     have e2:d=d':=aAQ I d d' u' ex' ex' rd rd' (λkvs z=>by subst z;simp[iU] at n1) n1 n2
     subst e2
     rw[hb] at hb'
     cases hb'
   show EqAt A.in1 s y vx (decide (∃u d,bR u y/\Rep X.K H ex' d u/\d∈ys/\eqD d x=some true))
   rw[key]
   exact(aAP I lQ A.in1 d x u ux y vx b ex' ex (by rw[sM];omega) rd hx q rx hb).1
 . rw[Dn,h2]
   constructor
   . intro q
     have q':its.any (λy=>decide (∃u d,bR u y/\Rep X.K H ex' d u/\d∈ys/\eqD d x=some true))=true:=by simpa using q
     obtain⟨y,hy,q''⟩:=List.any_eq_true.mp q'
     obtain⟨u,d,_,_,hd,e⟩:=A9 q''
     exact⟨d,hd,e⟩
   . rintro ⟨d,hd,e⟩
     have:its.any (λy=>decide (∃u d,bR u y/\Rep X.K H ex' d u/\d∈ys/\eqD d x=some true))=true:=by
      obtain⟨j,hj⟩:=Dc hd
      obtain⟨u,hu,ru⟩:=r.get hj
      obtain⟨y,hy,q⟩:=v.get hu
      exact List.any_eq_true.mpr ⟨y,mG hy,Am ⟨u,d,q,ru,hd,e⟩⟩
     simpa using this
end
section
variable {X:Cx} {RT Y old:Addr->Prop} {σ:Sg} {σV:L2.St} {H:Hp} {s:Shared} {pins:List (Addr×Obj)} {Q:VK} {ux uy:V} {vx vy:Value} {x y:Vl}
theorem aBU{o:CmpOp}{k:Bool}{σV2:L2.St}(I:L2.Inv X pins σV H s)(hA:X.A.units+200<cLine)(rx:bR ux vx)(ry:bR uy vy)(hx:Rv X.K RT Y old σ σV2 H x ux)(hy:Rv X.K RT Y old σ σV2 H y uy)
 (h:cG o x.d y.d=some k) (q:Q (.bl k) H):wpAny (model X.prog X.w) X.A (compareOp o vx vy) (EP X pins σV Q) X.xe s:=by
 have hu:X.A.units<cLine:=by omega
 have fin:EP X pins σV Q (.bool k) s:=⟨.bl k,H,I,rfl,q⟩
 have hD:lQ=120:=rfl
 have go:∀{f:Value->Value->Sem Value} {r:R2},OpR X f r->r ux uy H Q->wpAny (model X.prog X.w) X.A (f vx vy) (EP X pins σV Q) X.xe s:=λhr q=>hr pins s σV H ux uy vx vy Q I rx ry q
 have e3:∀{b:Bool},eqD x.d y.d=some b->Eq3 X.A s vx vy b:=λ{b} hb=>aAP I lQ X.A x.d y.d ux uy vx vy b _ _ (by omega) hx hy rx ry hb
 cases o with
 | Eq=>exact(e3 h).2.1 X.prog X.w X.xe _ fin
 | NotEq=>
  simp only[cG,Bk] at h
  obtain⟨b,hb,e⟩:=h
  subst e
  exact(e3 hb).2.2 X.prog X.w X.xe _ fin
 | Lt=>
  simp only[cG] at h
  unfold ltD at h
  split at h
  . rename_i a b d1 d2
    exact go aKg ⟨a,b,hx.int d1,hy.int d2,by show Q (.bl (decide (a<b))) H;rw[Ak h];exact q⟩
  . cases h
 | Gt=>
  simp only[cG] at h
  split at h
  . rename_i a b d1 d2
    exact go aKi ⟨a,b,hx.int d1,hy.int d2,by show Q (.bl (decide (b<a))) H;rw[Ak h];exact q⟩
  . cases h
 | LtE=>
  simp only[cG] at h
  unfold leD at h
  split at h
  . rename_i a b d1 d2
    exact go aKh ⟨a,b,hx.int d1,hy.int d2,by show Q (.bl (decide (a<=b))) H;rw[Ak h];exact q⟩
  . cases h
 | GtE=>
  simp only[cG] at h
  split at h
  . rename_i a b d1 d2
    exact go aKj ⟨a,b,hx.int d1,hy.int d2,by show Q (.bl (decide (b<=a))) H;rw[Ak h];exact q⟩
  . cases h
 | Is=>
  simp only[cG] at h
  split at h
  . rename_i d2
    refine go aHO ⟨hy.non d2,?_⟩
    have:decide (ux=V.non)=k:=by
     rw[<-Ak h]
     unfold isNone
     split
     . rename_i d1;rw[hx.non d1];simp
     . rename_i d1
       refine As λz=>?_
       rw[z] at hx
       unfold Rv at hx
       cases q':x.d with
       | non=>exact d1 q'
       | _=>rw[q'] at hx;first|(obtain⟨a,xs,z',_⟩:=hx;cases z')|exact hx.elim|injection hx
    rw[this]
    exact q
  . cases h
 | IsNot=>
  simp only[cG] at h
  split at h
  . rename_i d2
    refine go aFy ⟨hy.non d2,?_⟩
    have:(!decide (ux=V.non))=k:=by
     rw[<-Ak h]
     unfold isNone
     split
     . rename_i d1;rw[hx.non d1];simp
     . rename_i d1
       rw[As λz=>?_]
       rw[z] at hx
       unfold Rv at hx
       cases q':x.d with
       | non=>exact d1 q'
       | _=>rw[q'] at hx;first|(obtain⟨a,xs,z',_⟩:=hx;cases z')|exact hx.elim|injection hx
    rw[this]
    exact q
  . cases h
 | In=>
  simp only[cG] at h
  unfold inD at h
  split at h
  . rename_i ys d2
    by_cases hn:noDics ys=true
    . rw[if_pos hn] at h
      obtain⟨b,xs,e2,p2,_,r2⟩:=hy.lst d2
      subst e2
      cases ry
      obtain⟨its,v2,t2,_⟩:=I.list p2
      obtain⟨e,he,hk⟩:=jX I (A:=X.A) (by omega) hx rx r2 v2 hn h
      exact in_listAt e t2.isList he (by rw[hk];exact fin)
    . rw[if_neg hn] at h;cases h
  . rename_i ys d2
    by_cases hn:noDics ys=true
    . rw[if_pos hn] at h
      obtain⟨b,xs,e2,p2,r2⟩:=hy.tup d2
      subst e2
      cases ry
      obtain⟨its,v2,t2,_⟩:=I.tuple p2
      obtain⟨e,he,hk⟩:=jX I (A:=X.A) (by omega) hx rx r2 v2 hn h
      exact in_tupleAt e (show s.heap.IsTuple b its.toArray from t2) he (by rw[hk];exact fin)
    . rw[if_neg hn] at h;cases h
  . rename_i a b d1 d2
    exact go aBL ⟨a,b,hx.str d1,hy.str d2,by rw[show(!(Builtin.Str.occurrences b a 0 b.length 1).isEmpty)=k from Ak h];exact q⟩
  . cases h
 | NotIn=>
  simp only[cG,Bk] at h
  obtain⟨k',h,ek⟩:=h
  subst ek
  unfold inD at h
  split at h
  . rename_i ys d2
    by_cases hn:noDics ys=true
    . rw[if_pos hn] at h
      obtain⟨b,xs,e2,p2,_,r2⟩:=hy.lst d2
      subst e2
      cases ry
      obtain⟨its,v2,t2,_⟩:=I.list p2
      obtain⟨e,he,hk⟩:=jX I (A:=X.A) (by omega) hx rx r2 v2 hn h
      exact notIn_listAt e t2.isList he (by rw[hk];exact fin)
    . rw[if_neg hn] at h;cases h
  . rename_i ys d2
    by_cases hn:noDics ys=true
    . rw[if_pos hn] at h
      obtain⟨b,xs,e2,p2,r2⟩:=hy.tup d2
      subst e2
      cases ry
      obtain⟨its,v2,t2,_⟩:=I.tuple p2
      obtain⟨e,he,hk⟩:=jX I (A:=X.A) (by omega) hx rx r2 v2 hn h
      exact notIn_tupleAt e (show s.heap.IsTuple b its.toArray from t2) he (by rw[hk];exact fin)
    . rw[if_neg hn] at h;cases h
  . rename_i a b d1 d2
    exact go uD ⟨a,b,hx.str d1,hy.str d2,by rw[show(!(Builtin.Str.occurrences b a 0 b.length 1).isEmpty)=k' from Ak h];exact q⟩
  . cases h
end
end Hp
end
noncomputable section
namespace Hp
open PySem PySem.Spec PyProof.Rows L2
section
variable {X:Cx} {RT Y old:Addr->Prop} {σ:Sg} {σV:L2.St} {H:Hp} {s:Shared} {pins:List (Addr×Obj)} {Q:VK} {ux uy:V} {vx vy:Value} {x y:Vl}
theorem uJ(n:Nat)(k:Int):Hp.ixN n k=L2.ixN n k:=rfl
theorem Rv.ofSub{d:D}{u:V}(h:Rep X.K H (exV RT Y old σ σV x.pa x.al) d u):Ro X.K RT Y old σ σV H H (x.sub d) u:=by
 refine Ro.plain (aX.refl H) ?_ (Rv.sub (ds:=[]) (xs:=[]) (j:=0) h)
 unfold Vl.sub Vl.cl
 split <;> rfl
theorem aBV(t:Tk X.K H)(hx:Rv X.K RT Y old σ σV H x ux)(hy:Rv X.K RT Y old σ σV H y uy)(h:RE (eE x y) (Wn X RT Y old σ σV H Q)):rIx X.K ux uy H (λv H'=>Tk X.K H'->Q v H'):=by
 unfold eE at h
 split at h
 . rename_i ds k d1 d2
   obtain⟨a,xs,e,q,_,r⟩:=hx.lst d1
   cases hj:Hp.ixN ds.length k with
   | none=>rw[hj] at h;exact h.elim
   | some j=>
    rw[hj] at h
    cases hd:ds[j]? with
    | none=>simp only[hd] at h;exact h.elim
    | some d=>
     simp only[hd] at h
     obtain⟨v,hv,rv⟩:=r.get hd
     refine .inl ⟨a,xs,k,v,e,hy.int d2,q,?_,λt'=>h v H t' (Rv.ofSub rv)⟩
     unfold atI
     rw[<-r.length,<-uJ,hj]
     exact hv
 . rename_i ds k d1 d2
   obtain⟨a,xs,e,q,r⟩:=hx.tup d1
   cases hj:Hp.ixN ds.length k with
   | none=>rw[hj] at h;exact h.elim
   | some j=>
    rw[hj] at h
    cases hd:ds[j]? with
    | none=>simp only[hd] at h;exact h.elim
    | some d=>
     simp only[hd] at h
     obtain⟨v,hv,rv⟩:=r.get hd
     refine .inr (.inl ⟨a,xs,k,v,e,hy.int d2,q,?_,λt'=>h v H t' (Rv.ofSub rv)⟩)
     unfold atI
     rw[<-r.length,<-uJ,hj]
     exact hv
 . rename_i z k d1 d2
   obtain⟨c,h⟩:=h.iff
   have c':=A9 c
   cases hj:Hp.ixN z.length k with
   | none=>rw[hj] at h;exact h.elim
   | some j=>
    rw[hj] at h
    cases hd:z.cps.toList[j]? with
    | none=>simp only[hd] at h;exact h.elim
    | some c=>
     simp only[hd] at h
     refine .inr (.inr ⟨z,k,c,hx.str d1,hy.int d2,gC c',?_,λt'=>Wn.val h t' λ_=>rfl⟩)
     unfold atI
     have hl:z.cps.toList.length=z.length:=by simp[Str.length]
     rw[hl,<-uJ,hj]
     exact hd
 . exact h.elim
theorem uK(n d:Nat)(o:Option Int):Hp.sIx n d o=HT.sIx n d o:=by cases o <;> rfl
theorem wU{K:Fg}{ex:Addr->Prop}{ds:List D}{xs:List V}(r:Reps K H ex ds xs)(lo hi:Option Int):Reps K H ex (cut ds lo hi) (wK xs lo hi):=by
 unfold cut wK
 rw[uK,uK,r.length]
 exact(r.drop _).take _
theorem kK{prog:Program}{w:World}{A:Around}{E:Value->Shared->Prop}{t sl:Addr}{items:Array Value}{vl vu:Value}{lo hi:Option Int}{Q:Value->Shared->Prop}(ht:IsTup s.heap t items)(hs:s.heap.IsSliceOf sl vl vu .none)(pl:IsPart vl lo)(pu:IsPart vu hi)
 (hw:HT.sIx items.size 0 lo=0/\HT.sIx items.size items.size hi=items.size) (h:Q (.ref t) s):wpAny (model prog w) A (getItem (.ref t) (.ref sl)) Q E s:=by
 obtain⟨os,hos,hcs,hds⟩:=id hs
 have hTs:s.TypeIs (.ref sl) "slice" := ⟨os,hos,hcs⟩
 unfold getItem
 try with_reducible refine Bp ?_
 first|refine Aa (Ac ?_)|skip
 refine Aa (wpAny_sequenceKey ht.typeIs (by decide) ?_)
 refine Aa (Bh (name:=Str.ofString "__getitem__") ht.typeIs Bx
  (Bt Bx ht.typeIs entry_tuple_getitem ?_ (args_tuple_getitem _ _)))
 show wpAny _ _ (Builtin.Tuple.tupleItemsOf (.ref t) >>= _) _ _ s
 refine Aa (tupleItemsOf_ ht ?_)
 refine Aa (wpAny_typeOf hTs ?_)
 rw[if_pos (by decide)]
 refine Aa (HT.sliceApplied_gen hs pl pu ?_)
 have hyes:(((HT.sIx items.size 0 lo:Nat):Int)==0&&(1:Int)==1&&(HT.sIx items.size items.size hi-HT.sIx items.size 0 lo)==items.size)=true:=by
  rw[hw.1,hw.2]
  simp
 show wpAny _ _ (if (((HT.sIx items.size 0 lo:Nat):Int)==0&&(1:Int)==1&&(HT.sIx items.size items.size hi-HT.sIx items.size 0 lo)==items.size)=true then _ else _) _ _ s
 rw[if_pos hyes]
 unfold Builtin.Tuple.tupleIsExact
 refine Aa (Aa (wpAny_typeOf ht.typeIs (Ac ?_)))
 rw[if_pos (Bm _)]
 exact Aa (wpAny_rule (Ac ⟨_,rfl,Ac h⟩))
def wV(K:Fg):V->Option Int->Option Int->Hp->VK->Prop:=λx lo hi H Q=>∃a xs,x=.ref a/\SqT K H a xs/\(HT.sIx xs.length 0 lo=0/\HT.sIx xs.length xs.length hi=xs.length)/\Q (.ref a) H
theorem aFT:SlR X (wV X.K):=by
 intro pins s σ H x v vl vu lo hi sl Q I rx hs pl pu h
 obtain⟨a,xs,rfl,hx,hw,q⟩:=h
 cases rx
 obtain⟨its,r,ht,hz⟩:=I.tuple hx
 have hlen:its.toArray.size=xs.length:=by rw[Af];exact r.length.symm
 refine⟨"tuple",_,Bx.lookup,ht.typeIs,?_⟩
 exact kK ht hs pl pu (by rw[hlen];exact hw) ⟨.ref a,H,I,rfl,q⟩
theorem aIf:SlR X (λx lo hi H Q=>aDm X.K x lo hi H Q\/aDk X.K x lo hi H Q\/wV X.K x lo hi H Q\/aDv x lo hi H Q):=aFJ.or (aHS.or (aFT.or aIc))
theorem aBW{α:Type}{xs:List α}{lo hi:Option Int}(h1:Hp.sIx xs.length 0 lo=0)(h2:Hp.sIx xs.length xs.length hi=xs.length):cut xs lo hi=xs:=by
 unfold cut
 rw[h1,h2,List.drop_zero,Nat.sub_zero,B8]
theorem aBX{lo hi:Option Int}(S:Sx X.K RT Y old σ σV H)(t:Tk X.K H)(hx:Rv X.K RT Y old σ σV H x ux)(h:RE (dQ x lo hi) (Wn X RT Y old σ σV H Q)) :
 aDm X.K ux lo hi H (λv H'=>Tk X.K H'->Q v H')\/aDk X.K ux lo hi H (λv H'=>Tk X.K H'->Q v H')\/wV X.K ux lo hi H (λv H'=>Tk X.K H'->Q v H')\/aDv ux lo hi H (λv H'=>Tk X.K H'->Q v H'):=by
 unfold dQ at h
 split at h
 . rename_i ds d1
   obtain⟨a,xs,e,q,_,r⟩:=hx.lst d1
   refine .inl ⟨a,xs,e,q,λp hp t'=>h _ _ t' (Ro.fresh hp t' rfl rfl S ?_)⟩
   exact wU (gJ r) lo hi
 . rename_i ds d1
   obtain⟨a,xs,e,q,r⟩:=hx.tup d1
   have r':=gJ r
   by_cases hw:HT.sIx xs.length 0 lo=0/\HT.sIx xs.length xs.length hi=xs.length
   . refine .inr (.inr (.inl ⟨a,xs,e,q,hw,λt'=>h _ _ t' (Ro.plain (aX.refl H) rfl ?_)⟩))
     have e':cut ds lo hi=ds:=aBW (by rw[uK,r.length];exact hw.1) (by rw[uK,r.length];exact hw.2)
     unfold Rv
     show Rep X.K H _ (.tup (cut ds lo hi)) (.ref a)
     rw[e']
     exact⟨a,xs,rfl,q,r'⟩
   . exact .inr (.inl ⟨a,xs,e,q,hw,λp hp t'=>h _ _ t' (Ro.tup hp rfl rfl (wU r' lo hi))⟩)
 . rename_i a d1
   obtain⟨hl,h⟩:=h.iff
   have e:ux=.str a:=by
    have z:=hx
    unfold Rv at z
    rw[d1] at z
    exact z
   exact .inr (.inr (.inr ⟨a,e,gC (A9 hl),λt'=>h _ _ t' (Ro.cl (aX.refl H) rfl)⟩))
 . exact h.elim
theorem iK:∀{ds:List D} {bs:List Bool} {xs:List V} {ex:Addr->Prop},cF ds=some bs->Reps X.K H ex ds xs->xs=bs.map V.bl
 | [],bs,xs,ex,h,r=>by
  simp[cF] at h
  subst h
  exact r
 | .bl a::ds,bs,xs,ex,h,r=>by
  obtain⟨x,r',z,h1,h2⟩:=r
  rw[cF] at h
  cases q:cF ds with
  | none=>rw[q] at h;cases h
  | some ms=>
   rw[q] at h
   cases h
   rw[z,show x=.bl a from h1,iK q h2]
   rfl
 | .non::ds,ns,xs,ex,h,r=>by simp[cF] at h
 | .int _::ds,ns,xs,ex,h,r=>by simp[cF] at h
 | .str _::ds,ns,xs,ex,h,r=>by simp[cF] at h
 | .tup _::ds,ns,xs,ex,h,r=>by simp[cF] at h
 | .lst _::ds,ns,xs,ex,h,r=>by simp[cF] at h
 | .dic _::ds,ns,xs,ex,h,r=>by simp[cF] at h
 | .err _ _::ds,ns,xs,ex,h,r=>by simp[cF] at h
theorem sN:∀{bs:List Bool} {us:List Value},aU (bs.map V.bl) us->us=bs.map Value.bool:=by
 intro bs
 induction bs with
 | nil=>intro us r;rw[mN] at r;cases r;rfl
 | cons b bs ih=>
  intro us r
  rw[mC] at r
  cases r with
  | cons r1 r2=>
   rw[show _=Value.bool b from r1,ih r2]
   rfl
theorem zR(bs:List Bool):((List.range bs.length).all λi=>(bs[i]?).getD true)=bs.all id:=by
 rw[Dn]
 simp only[Bu,Cm,id]
 constructor
 . intro h b hb
   obtain⟨i,hi⟩:=Dc hb
   have:=h i (Aw.mp hi).1
   rw[hi] at this
   simpa using this
 . intro h i hi
   have e:=Ad hi
   rw[e]
   exact h _ (Ba hi)
theorem aBY(hc:X.calm=true):gA X (.builtin "all") (λxs H Q=>∃(p:Addr) (bs:List Bool),xs=[.ref p]/\SqL X.K H p (bs.map V.bl)/\Q (.bl (bs.all id)) H):=by
 intro pins s σ H xs us Q I r h
 obtain⟨p,bs,rfl,hq,q⟩:=h
 obtain⟨u,rfl,rx⟩:=nV r
 cases rx
 obtain⟨its,rv,pl,hz⟩:=I.list hq
 have hit:=sN rv
 subst hit
 have hl:=pl.isList
 have hlt:p<s.heap.objs.size:=pl.lt
 refine call_all_walk (C0 hl ?_)
 refine⟨s.heap.objs.size,[s.heap.objs.size,p],[s.heap.objs.size],(bs.map Value.bool).toArray.size,_,_,λi=>(bs[i]?).getD true,rfl,Walks.list (A:=X.A.in1) (I.ok.hd hc) _ p (Ao hlt) _,
  ⟨⟨_,Ai _ rfl,rfl,rfl⟩,hl.push _⟩,λi v s' Q' E' hP hQ=>?_,λh' tk hk=>?_⟩
 . have hP':bs[i]?.map Value.bool=some v:=by simpa using hP
   cases e:bs[i]? with
   | none=>rw[e] at hP';cases hP'
   | some b=>
    rw[e] at hP'
    cases hP'
    simp only[e,Option.getD_some] at hQ
    exact Cb hQ
 . have e:((List.range (bs.map Value.bool).toArray.size).all λi=>(bs[i]?).getD true)=bs.all id:=by
    rw[Af,lM];exact zR bs
   rw[e]
   refine⟨.bl _,H,I.kept (t':=tk) λb o e'=>hk b o ?_ (Ab _ e'),rfl,q⟩
   intro hm
   rw[Av.mp hm] at e'
   exact Bl _ (Ah e')
theorem zS(bs:List Bool):((List.range bs.length).any λi=>(bs[i]?).getD true)=bs.any id:=by
 rw[Dn]
 simp only[List.any_eq_true,Cm,id]
 constructor
 . rintro ⟨i,hi,h⟩
   rw[Ad hi] at h
   exact⟨bs[i],Ba hi,h⟩
 . rintro ⟨b,hb,h⟩
   obtain⟨i,hi⟩:=Dc hb
   exact⟨i,(Aw.mp hi).1,by rw[hi];exact h⟩
theorem aBZ(hc:X.calm=true):gA X (.builtin "any") (λxs H Q=>∃(p:Addr) (bs:List Bool),xs=[.ref p]/\SqL X.K H p (bs.map V.bl)/\Q (.bl (bs.any id)) H):=by
 intro pins s σ H xs us Q I r h
 obtain⟨p,bs,rfl,hq,q⟩:=h
 obtain⟨u,rfl,rx⟩:=nV r
 cases rx
 obtain⟨its,rv,pl,hz⟩:=I.list hq
 have hit:=sN rv
 subst hit
 have hl:=pl.isList
 have hlt:p<s.heap.objs.size:=pl.lt
 refine call_any_walk (C0 hl ?_)
 refine⟨s.heap.objs.size,[s.heap.objs.size,p],[s.heap.objs.size],(bs.map Value.bool).toArray.size,_,_,λi=>(bs[i]?).getD true,rfl,Walks.list (A:=X.A.in1) (I.ok.hd hc) _ p (Ao hlt) _,
  ⟨⟨_,Ai _ rfl,rfl,rfl⟩,hl.push _⟩,λi v s' Q' E' hP hQ=>?_,λh' tk hk=>?_⟩
 . have hP':bs[i]?.map Value.bool=some v:=by simpa using hP
   cases e:bs[i]? with
   | none=>rw[e] at hP';cases hP'
   | some b=>
    rw[e] at hP'
    cases hP'
    simp only[e,Option.getD_some] at hQ
    exact Cb hQ
 . have e:((List.range (bs.map Value.bool).toArray.size).any λi=>(bs[i]?).getD true)=bs.any id:=by
    rw[Af,lM];exact zS bs
   rw[e]
   refine⟨.bl _,H,I.kept (t':=tk) λb o e'=>hk b o ?_ (Ab _ e'),rfl,q⟩
   intro hm
   rw[Av.mp hm] at e'
   exact Bl _ (Ah e')
def rBi(X:Cx)(b:Bi):List V->Hp->VK->Prop:=match b with
 | .len=>λxs H Q=>(∃p ys,xs=[.ref p]/\(SqL X.K H p ys\/SqT X.K H p ys)/\Q (.int ys.length) H)\/∃z,xs=[.str z]/\z.length<=sizeLine/\Q (.int z.length) H
 | .list=>λxs H Q=>∃p ys,xs=[.ref p]/\(SqL X.K H p ys\/SqT X.K H p ys)/\∀l,H l=none->Q (.ref l) (upd H l (.lst ys))
 | .tuple=>λxs H Q=>∃p ys,xs=[.ref p]/\((SqL X.K H p ys/\∀l,H l=none->Q (.ref l) (upd H l (.tup ys)))\/(SqT X.K H p ys/\Q (.ref p) H))
 | .min=>λxs H Q=>∃i j,xs=[.int i,.int j]/\Q (.int (if j<i then j else i)) H
 | .int=>λxs H Q=>(∃i,xs=[.int i]/\Q (.int i) H)\/∃k,xs=[.bl k]/\Q (.int (if k then 1 else 0)) H
 | .all=>λxs H Q=>∃(p:Addr) (bs:List Bool),xs=[.ref p]/\SqL X.K H p (bs.map V.bl)/\Q (.bl (bs.all id)) H
 | .any=>λxs H Q=>∃(p:Addr) (bs:List Bool),xs=[.ref p]/\SqL X.K H p (bs.map V.bl)/\Q (.bl (bs.any id)) H
 | _=>λ_ _ _=>False
def aGY:Bi->Value
 | .len=>.builtin "len" | .list=>.type "list" | .tuple=>.type "tuple" | .min=>.builtin "min" | .max=>.builtin "max" | .abs=>.builtin "abs" | .int=>.type "int" | .str=>.type "str"
 | .all=>.builtin "all" | .any=>.builtin "any" | .sum=>.builtin "sum" | .sorted=>.builtin "sorted" | .bool=>.type "bool" | .repr=>.builtin "repr"
theorem aFU(hc:X.calm=true)(hg:X.A.guards=some [])(hu:X.A.units+200<cLine)(b:Bi)(hb:aDt b=true):gA X (aGY b) (rBi X b):=by
 cases b with
 | len=>exact uE.or uF
 | list=>exact uG
 | tuple=>exact rV
 | min=>exact aBM hc
 | int=>exact aBN
 | all=>exact aBY hc
 | any=>exact aBZ hc
 | _=>cases hb
theorem aDz{b:Bi}(hb:aDt b=true)(S:Sx X.K RT Y old σ σV H){vs:List Vl}{us:List V}(hv:Rvs X.K RT Y old σ σV H vs us)(h:RE (biD b vs) (Wn X RT Y old σ σV H Q)) :
 rBi X b us H (λv H'=>Tk X.K H'->Q v H'):=by
 unfold biD at h
 split at h
 . rename_i x
   obtain⟨u,r,e,hx,hr⟩:=hv
   rw[show r=[] from hr] at e
   subst e
   cases b with
   | len=>
    dsimp only[zM] at h
    split at h
    . rename_i ds d1
      obtain⟨a,xs,e,q,_,r⟩:=hx.lst d1
      exact .inl ⟨a,xs,by rw[e],.inl q,λt'=>by rw[<-r.length];exact Wn.val h t' λ_=>rfl⟩
    . rename_i ds d1
      obtain⟨a,xs,e,q,r⟩:=hx.tup d1
      exact .inl ⟨a,xs,by rw[e],.inr q,λt'=>by rw[<-r.length];exact Wn.val h t' λ_=>rfl⟩
    . rename_i z d1
      obtain⟨c,h⟩:=h.iff
      exact .inr ⟨z,by rw[hx.str d1],gC (A9 c),λt'=>Wn.val h t' λ_=>rfl⟩
    . exact h.elim
   | list=>
    dsimp only[zM] at h
    split at h
    . rename_i ds d1
      obtain⟨a,xs,e,q,_,r⟩:=hx.lst d1
      exact⟨a,xs,by rw[e],.inl q,λp hp t'=>h _ _ t' (Ro.fresh hp t' rfl rfl S (gJ r))⟩
    . rename_i ds d1
      obtain⟨a,xs,e,q,r⟩:=hx.tup d1
      exact⟨a,xs,by rw[e],.inr q,λp hp t'=>h _ _ t' (Ro.fresh hp t' rfl rfl S (gJ r))⟩
    . exact h.elim
   | tuple=>
    dsimp only[zM] at h
    split at h
    . rename_i ds d1
      obtain⟨a,xs,e,q,_,r⟩:=hx.lst d1
      exact⟨a,xs,by rw[e],.inl ⟨q,λp hp t'=>h _ _ t' (Ro.tup hp rfl rfl (gJ r))⟩⟩
    . rename_i ds d1
      obtain⟨a,xs,e,q,r⟩:=hx.tup d1
      exact⟨a,xs,by rw[e],.inr ⟨q,λt'=>h _ _ t' (Ro.plain (aX.refl H) rfl ⟨a,xs,rfl,q,r⟩)⟩⟩
    . exact h.elim
   | abs=>cases hb
   | int=>
    dsimp only[zM] at h
    split at h
    . rename_i i d1
      exact .inl ⟨i,by rw[hx.int d1],λt'=>Wn.val h t' λ_=>rfl⟩
    . rename_i k d1
      exact .inr ⟨k,by rw[hx.bl d1],λt'=>Wn.val h t' λ_=>rfl⟩
    . exact h.elim
   | str=>cases hb
   | all=>
    dsimp only[zM] at h
    split at h
    . rename_i ds d1
      obtain⟨a,xs,e,q,_,r⟩:=hx.lst d1
      split at h
      . rename_i bs hbs
        rw[iK hbs r] at q
        exact⟨a,bs,by rw[e],q,λt'=>Wn.val h t' λ_=>rfl⟩
      . exact h.elim
    . exact h.elim
   | repr=>cases hb
   | bool=>cases hb
   | sum=>cases hb
   | any=>
    dsimp only[zM] at h
    split at h
    . rename_i ds d1
      obtain⟨a,xs,e,q,_,r⟩:=hx.lst d1
      split at h
      . rename_i bs hbs
        rw[iK hbs r] at q
        exact⟨a,bs,by rw[e],q,λt'=>Wn.val h t' λ_=>rfl⟩
      . exact h.elim
    . exact h.elim
   | sorted=>cases hb
   | min=>exact h.elim
   | max=>exact h.elim
 . rename_i x y
   obtain⟨u,r,e,hx,u',r',e',hy,hr⟩:=hv
   rw[show r'=[] from hr] at e'
   subst e' e
   cases b with
   | min=>
    dsimp only[aKz] at h
    split at h
    . rename_i i j d1 d2
      exact⟨i,j,by rw[hx.int d1,hy.int d2],λt'=>Wn.val h t' λ_=>rfl⟩
    . exact h.elim
   | max=>cases hb
   | _=>exact h.elim
 . exact h.elim
def wW:Cl->Option Value
 | .tInt=>some (.type "int")|.tBool=>some (.type "bool")|.tStr=>some (.type "str")|.tList=>some (.type "list")|.tTuple=>some (.type "tuple")|.tDict=>some (.type "dict")
 | _=>none
def tyD:D->Option String
 | .non=>some "NoneType" | .bl _=>some "bool" | .int _=>some "int" | .str _=>some "str" | .tup _=>some "tuple" | .lst _=>some "list" | .dic _=>some "dict" | .err _ _=>none
theorem iL(K:Fg)(P:Pg){c:Cl}{cv:Value}{d:D}{k:Bool}{T:String}(hc:wW c=some cv)(hT:tyD d=some T)(h:isI [c] P d=some k):PySem.W.kitOne K (.type T) cv=some k:=by
 cases c with
 | own c=>cases hc
 | tValueError=>cases hc
 | tInt=>cases hc;cases d <;> cases hT <;> simp[isI] at h <;> subst h <;> kernel_rfl
 | tBool=>cases hc;cases d <;> cases hT <;> simp[isI] at h <;> subst h <;> kernel_rfl
 | tStr=>cases hc;cases d <;> cases hT <;> simp[isI] at h <;> subst h <;> kernel_rfl
 | tList=>cases hc;cases d <;> cases hT <;> simp[isI] at h <;> subst h <;> kernel_rfl
 | tTuple=>cases hc;cases d <;> cases hT <;> simp[isI] at h <;> subst h <;> kernel_rfl
 | tDict=>cases hc;cases d <;> cases hT <;> simp[isI] at h <;> subst h <;> kernel_rfl
theorem aCa(P:Pg){c:Cl}{cv:Value}{k:Bool}(I:L2.Inv X pins σV H s)(rx:bR ux vx)(hx:Rv X.K RT Y old σ σV H x ux)(hc:wW c=some cv)(h:isI [c] P x.d=some k)(q:Q (.bl k) H) :
 wpAny (model X.prog X.w) X.A (PySem.call (.builtin "isinstance") [vx,cv]) (EP X pins σV Q) X.xe s:=by
 have fin:∀tk,EP X pins σV Q (.bool k) { s with toks:=tk }:=λtk=>⟨.bl k,H,I.tok tk,rfl,q⟩
 cases d:x.d with
 | non=>
  have e:=iL X.K P hc (by rw[d];rfl) h
  rw[hx.non d] at rx;cases rx
  exact Da PySem.W.kitx_none I.kIn True.intro e (λz=>nomatch z) fin
 | bl b=>
  have e:=iL X.K P hc (by rw[d];rfl) h
  rw[hx.bl d] at rx;cases rx
  exact Da PySem.W.kitx_bool I.kIn True.intro e (λz=>nomatch z) fin
 | int i=>
  have e:=iL X.K P hc (by rw[d];rfl) h
  rw[hx.int d] at rx;obtain⟨t,rfl⟩:=rx
  exact Da PySem.W.kitx_int I.kIn True.intro e (λz=>nomatch z) fin
 | str z=>
  have e:=iL X.K P hc (by rw[d];rfl) h
  rw[hx.str d] at rx;obtain⟨t,rfl⟩:=rx
  exact Da PySem.W.kitx_str I.kIn True.intro e (λz=>nomatch z) fin
 | tup ds=>
  have e:=iL X.K P hc (by rw[d];rfl) h
  obtain⟨a,xs,e1,p,_⟩:=hx.tup d
  subst e1
  cases rx
  obtain⟨its,_,t,_⟩:=I.tuple p
  obtain⟨o,h1,h2,_⟩:=t
  exact Da PySem.W.kitx_tuple I.kIn ⟨o,h1,h2⟩ e (λz=>nomatch z) fin
 | lst ds=>
  have e:=iL X.K P hc (by rw[d];rfl) h
  obtain⟨a,xs,e1,p,_⟩:=hx.lst d
  subst e1
  cases rx
  obtain⟨its,_,t,_⟩:=I.list p
  obtain⟨o,n,h1,h2,_⟩:=t
  exact Da PySem.W.kitx_list I.kIn ⟨o,h1,h2⟩ e (λz=>nomatch z) fin
 | dic kvs=>
  have e:=iL X.K P hc (by rw[d];rfl) h
  unfold Rv at hx
  rw[d] at hx
  obtain⟨a,ks,e1,p,_⟩:=hx
  subst e1
  cases rx
  obtain⟨_,_,vs,_,o,es,ep,h1,h2,_⟩:=(show fI X.prog X.w H s.heap a (.dK ks) from I.hok a _ p)
  exact Da PySem.W.kitx_dict I.kIn ⟨o,h1,h2.1⟩ e (λz=>nomatch z) fin
 | err _ _=>
  unfold Rv at hx
  rw[d] at hx
  exact hx.elim
end
end Hp
end
noncomputable section
namespace L2
open PySem PySem.Spec PyProof.Rows
def kL(cells:List (Str×Addr)):List (Str×NameKind)->List (Str×Addr)->List (Str×Addr)
 | [],acc=>acc
 | (n,k)::r,acc=>if k==.free then kL cells r ((n,(cells.lookup n).getD 0)::acc) else kL cells r acc
theorem clos_mem{cells:List (Str×Addr)}:∀{names:List (Str×NameKind)} {acc:List (Str×Addr)} {p:Str×Addr},p∈kL cells names acc->p∈acc\/((p.1,NameKind.free)∈names/\p.2=(cells.lookup p.1).getD 0)
 | [],_,_,h=>.inl h
 | (n,k)::r,acc,p,h=>by
  unfold kL at h
  by_cases hk:(k==NameKind.free)=true
  . rw[if_pos hk] at h
    rcases clos_mem h with q|q
    . rcases An.mp q with q|q
      . subst q
        have:k=.free:=eq_of_beq hk
        subst this
        exact .inr ⟨Al,rfl⟩
      . exact .inl q
    . exact .inr ⟨Ag _ q.1,q.2⟩
  . rw[if_neg hk] at h
    rcases clos_mem h with q|q
    . exact .inl q
    . exact .inr ⟨Ag _ q.1,q.2⟩
theorem pX{cells:List (Str×Addr)}:∀{names:List (Str×NameKind)} {acc:List (Str×Addr)} {p:Str×Addr},p∈acc->p∈kL cells names acc
 | [],_,_,h=>h
 | (n,k)::r,acc,p,h=>by
  unfold kL
  by_cases hk:(k==NameKind.free)=true
  . rw[if_pos hk];exact pX (Ag _ h)
  . rw[if_neg hk];exact pX h
theorem lU{cells:List (Str×Addr)}:∀{names:List (Str×NameKind)} {acc:List (Str×Addr)} {n:Str},(n,NameKind.free)∈names->(n,(cells.lookup n).getD 0)∈kL cells names acc
 | [],_,_,h=>by simp at h
 | (m,k)::r,acc,n,h=>by
  unfold kL
  rcases An.mp h with q|q
  . cases q
    rw[if_pos (by rfl:(NameKind.free==NameKind.free)=true)]
    exact pX Al
  . by_cases hk:(k==NameKind.free)=true
    . rw[if_pos hk];exact lU q
    . rw[if_neg hk];exact lU q
theorem fN{α:Type}:∀{l:List (Str×α)} {x:Str} {a:α},(x,a)∈l->∃b,l.lookup x=some b
 | (y,b)::r,x,a,h=>by
  rw[List.lookup_cons]
  cases hx:x==y with
  | true=>exact⟨b,rfl⟩
  | false=>
   rcases An.mp h with q|q
   . cases q
     simp at hx
   . exact fN q
theorem cZ{cells:List (Str×Addr)}{names:List (Str×NameKind)}(hh:∀n,(n,NameKind.free)∈names->∃c,cells.lookup n=some c){x:Str}{c:Addr}(h:(kL cells names []).lookup x=some c):cells.lookup x=some c:=by
 rcases clos_mem (B9 h) with q|⟨q1,q2⟩
 . simp at q
 . obtain⟨c',e⟩:=hh x q1
   simp only at q2
   rw[e] at q2
   rw[e,q2];rfl
theorem iV{scope:Scope}{env:Env}(hh:∀n,(n,NameKind.free)∈scope.names->∃c,env.cells.lookup n=some c):closureFor scope env=pure (kL env.cells scope.names []):=by
 have go:∀(l:List (Str×NameKind)) (acc:List (Str×Addr)),(∀n,(n,NameKind.free)∈l->∃c,env.cells.lookup n=some c) ->
  (forIn l acc (λ(x:Str×NameKind) (r:List (Str×Addr))=>(match x with|(name,kind)=>if (kind==NameKind.free)=true then do let __do_lift<-cellOf env name;pure (ForInStep.yield ((name,__do_lift)::r)) else pure (ForInStep.yield r):Sem (ForInStep (List (Str×Addr))))))=(pure (kL env.cells l acc):Sem (List (Str×Addr))):=by
  intro l
  induction l with
  | nil=>intro acc _;rfl
  | cons p r ih=>
   intro acc hl
   obtain⟨n,k⟩:=p
   rw[List.forIn_cons]
   unfold kL
   by_cases hk:(k==NameKind.free)=true
   . have:k=.free:=eq_of_beq hk
     subst this
     obtain⟨c,e⟩:=hl n Al
     have e':cellOf env n=pure c:=by unfold cellOf;rw[e]
     simp only[Bm,if_true,e']
     rw[e]
     exact ih _ λm hm=>hl m (Ag _ hm)
   . simp only[hk,if_false]
     exact ih _ λm hm=>hl m (Ag _ hm)
 unfold closureFor
 exact(bind_pure _).trans (go scope.names [] hh)
section
variable {prog:Program} {w:World} {A:Around} {R:Result->Shared->Prop} {s:Shared}
theorem jC{elt target iter:Expr}{ifs:List Expr}{scope:Scope}{pos:Pos}{it acc:Value}{env:Env}(I:Nat->Shared->Prop)
 (turn:∀n s,I n s->wpAny (model prog w) A (pyNext it) (λr s₁=>match r with
  | none=>R (.ok .next) s₁
  | some v=>wpAny (model prog w) A (letOwnedTupleGo target it v) (λ_ s₁'=>wpAny (model prog w) A (assign target env v) (λ_ s₂=>
   wpAny (model prog w) A (forIn ifs true λc r=>if r=true then do let ok<-isTrue c env (eval c env);pure (ForInStep.yield ok) else pure (ForInStep.yield r)) (λok s₃=>
    if ok=true then wpAny (model prog w) A (eval elt env) (λx s₄=>
     wpAny (model prog w) A (call (.builtin "list.append") [acc,x]) (λ_ s₅=>∃m,m<n/\I m s₅) (λ_ _=>False) s₄) (λ_ _=>False) s₃
    else ∃m,m<n/\I m s₃) (λ_ _=>False) s₂) (λ_ _=>False) s₁') (λ_ _=>False) s₁) (λ_ _=>False) s)
 (n:Nat) (h:I n s) :
 codeAny (model prog w) A (.compLoop (.ListComp elt [⟨target,iter,ifs,0⟩] scope pos) 0 it acc env) R s:=by
 refine codeAny_loop rfl I (λn s hI=>?_) n h
 show wpAny _ A ((compTurn (.ListComp elt [⟨target,iter,ifs,0⟩] scope pos) 0 it acc env).onRaise (λx=>do noteFrame x env;theTreesLotGoes x)) _ _ s
 refine wpAny_noted ?_
 rw[compTurn_list]
 refine Aa (wpAny_standAt (Aa (Dh (turn n s hI) (λr s₁ h₁=>?_) λ_ _ h'=>h'.elim)))
 cases r with
 | none=>exact Ac h₁
 | some v=>
  refine Aa (Dh h₁ (λ_ s₁' h₁'=>?_) λ_ _ h'=>h'.elim)
  refine Aa (Dh h₁' (λ_ s₂ h₂=>Aa (Dh h₂ (λok s₃ h₃=>?_) λ_ _ h'=>h'.elim)) λ_ _ h'=>h'.elim)
  cases ok with
  | false=>exact Ac ⟨rfl,h₃⟩
  | true=>
   exact Aa (Aa (Dh h₃ (λx s₄ h₄=>Aa (Dh h₄ (λ_ s₅ h₅=>Ac (Ac ⟨rfl,h₅⟩)) λ_ _ h'=>h'.elim)) λ_ _ h'=>h'.elim))
end
def eQ(X:Cx)(scope:Scope)(N':List Str)(C:Addr)(s₀:Shared)(H₀:Hp)(ex:List Addr):Cx:=
 { X with env:=compEnvC scope (kL X.env.cells scope.names []) C X.env,N:=N',s₀:=s₀,H₀:=H₀,outer:=X.stack,ex:=ex,fn:=λ_=>false,pn:=[],xe:=λ_ _=>False }
def PTs(X:Cx)(ifs:List Expr)(t:TT):Prop:=
 ∀(pins:List (Addr×Obj)) (s:Shared) (σ:St) (H:Hp) (Q:Bool->Hp->Prop),Inv X pins σ H s->t σ H Q ->
  wpAny (model X.prog X.w) X.A (forIn ifs true λc r=>if r=true then do let ok<-isTrue c X.env (eval c X.env);pure (ForInStep.yield ok) else pure (ForInStep.yield r)) (TP X pins σ Q) X.xe s
theorem aFV{X:Cx}:PTs X [] (λ_ H Q=>Q true H):=λpins s σ H Q I h=>Ac ⟨H,I,h⟩
theorem aFW{X:Cx}{c:Expr}{t:TT}(h:PT X c t):PTs X [c] t:=λpins s σ H Q I hw=>wpAny_tests_one (h pins s σ H Q I hw)
structure dY (X:Cx) (scope:Scope) (k:Nat) (caps:List Nat) (N':List Str):Prop where
 kind:scope.kind=.function
 nocell:∀y∈scope.names,y.2≠.cell
 loc:∀y∈scope.names,y.2=.local->scope.names.lookup y.1=some .local
 free:∀n,(n,NameKind.free)∈scope.names->X.env.kindOf n=some .cell\/X.env.kindOf n=some .free
 len:N'.length=k+caps.length
 cap:∀j i,caps[j]? = some i->∃x,N'[k+j]? = some x/\X.N[i]? = some x/\scope.names.lookup x=some .free/\X.env.kindOf x=some .cell
 ndp:X.N.Nodup
def kZ(k:Nat)(caps:List Nat)(σ:St):St:=List.replicate k none++caps.map λi=>(σ[i]?).getD none
def aDA(k:Nat)(caps:List Nat)(wi:TI)(g:TG)(tt:TT)(te:TE):TE:=λσ H Q=>wi σ H λJ H1=>
 ∃W:Nat->Nat->List V->St->Hp->Prop,(∃m,W 0 m [] (kZ k caps σ) H1)/\∀i m ys σ1 H,W i m ys σ1 H ->
  (J.stop i H/\ys.length<=sizeLine/\∀p,H p=none->Q (.ref p) (upd H p (.lst ys))) \/
  (J.go i H/\ys.length<sizeLine/\∀x H',J.yld i H x H'->g x σ1 H' λσ2 H2=>tt σ2 H2 λb H3=>
   if b=true then te σ2 H3 λy H4=>∃m',m'<m/\W (i+1) m' (ys++[y]) σ2 H4 else ∃m',m'<m/\W (i+1) m' ys σ2 H3)
theorem HOk.track{P:Program}{w:World}{H:Hp}{h:Heap}{a:Addr}{o:HO}(ok:HOk P w H h)(n:H a=none)(new:fI P w (upd H a o) h a o):HOk P w (upd H a o) h:=λb u e=>by
 by_cases hb:b=a
 . subst hb;rw[cV] at e;cases e;exact new
 . rw[aZ hb] at e
   exact(ok b u e).stay (λ_ _ _ q=>q) (λc q=>by rw[aZ (bQ q n)];exact q) λc xs q=>by rw[aZ (bQ q n)];exact q
abbrev eJ(its:List Value)(n:Nat):Obj:={ cls:=.type "list",data:=.seq its.toArray n }
section
variable {X:Cx} {scope:Scope} {k:Nat} {caps:List Nat} {N':List Str} {pins:List (Addr×Obj)} {σ:St} {H:Hp} {s:Shared} {fp:List Addr}
theorem Inv.cellLt(I:Inv X pins σ H s){x:Str}{c:Addr}(e:X.env.cells.lookup x=some c):c<s.heap.objs.size:=by
 obtain⟨v,q⟩:=I.cell x c e
 exact q.lt
theorem gK:∀{l:List (Str×NameKind)} {x:Str} {k:NameKind},l.lookup x=some k->(x,k)∈l:=λh=>B9 h
theorem relabel_lookup{env:Env}:∀{names:List (Str×NameKind)} {x:Str} {k:NameKind},
 (names.map λ(n,k)=>if (k==NameKind.free&&env.scope.kind==.function&&env.kindOf n==some .cell) then (n,NameKind.cell) else (n,k)).lookup x=some k ->
 (k=.cell/\names.lookup x=some .free/\env.kindOf x=some .cell)\/names.lookup x=some k
 | [],_,_,h=>by simp at h
 | (n,k')::r,x,k,h=>by
  have ih:=@relabel_lookup env r x k
  rw[mC] at h
  by_cases hc:(k'==NameKind.free&&env.scope.kind==.function&&env.kindOf n==some .cell)=true
  . simp only[hc,if_true,List.lookup_cons] at h ⊢
    cases hx:x==n with
    | true=>
     rw[hx] at h
     simp only at h ⊢
     simp only[bA] at hc
     have e1:k'=.free:=eq_of_beq hc.1.1
     have e2:env.kindOf n=some .cell:=eq_of_beq hc.2
     have e3:x=n:=eq_of_beq hx
     subst e3
     cases h
     exact .inl ⟨rfl,by rw[e1],e2⟩
    | false=>rw[hx] at h;exact ih h
  . simp only[Bool.not_eq_true] at hc
    simp only[hc,if_false,List.lookup_cons,bF] at h ⊢
    cases hx:x==n with
    | true=>rw[hx] at h;exact .inr h
    | false=>rw[hx] at h;exact ih h
theorem aNj(CS:dY X scope k caps N')(I:Inv X pins σ H s)(f:∀b∈fp,lO X pins H b)(hf:∀b∈fp,b<s.heap.objs.size) :
 (eQ X scope N' (s.heap.objs.size+1) { s with heap:=s.heap.push (eJ [] 0) } H (s.heap.objs.size::fp)).Ok:=by
 have hh:∀n,(n,NameKind.free)∈scope.names->∃c,X.env.cells.lookup n=some c:=λn hn=>I.ok.has n (CS.free n hn)
 have ge:∀b o,s.heap.get? b=some o->(s.heap.push (eJ [] 0)).get? b=some o:=λb o e=>Ab _ e
 have fsub:∀b∈frs X.stack,∃o,s.heap.get? b=some o:=λb hb=>by
  obtain⟨_,o,ho,_⟩:=I.stack.mem hb
  exact⟨o,ho⟩
 refine⟨I.ok.mod,?_,I.ok.glob,I.ok.blt,?_,λx y c h1 h2=>?_,λx hx=>?_,λx c h _=>?_,I.ok.hd,I.ok.frames,.inl rfl,λb hb=>?_,λb o e=>?_,?_,λb o e hb=>?_,λb hb=>?_,?_,I.stkFree⟩
 . exact CS.kind
 . show(s.heap.push (eJ [] 0)).objs.size<=s.heap.objs.size+1
   rw[B1]
   exact Aj _
 . exact I.ok.inj x y c (cZ hh h1) (cZ hh h2)
 . have fr:(x,NameKind.free)∈scope.names:=by
    rcases hx with q|q
    . rcases relabel_lookup q with⟨_,z,_⟩|z
      . exact gK z
      . exact absurd rfl (CS.nocell _ (gK z))
    . rcases relabel_lookup q with⟨z,_⟩|z
      . cases z
      . exact gK z
   obtain⟨c,e⟩:=fN (lU (cells:=X.env.cells) (acc:=[]) fr)
   exact⟨c,e⟩
 . cases(show false=true from h)
 . refine⟨?_,λx c e=>?_⟩
   . show b≠s.heap.objs.size+1
     rcases An.mp hb with z|z
     . rw[z];exact Ao (Cy _)
     . exact Ao (B3 (hf b z))
   . have e':=cZ hh e
     rcases An.mp hb with z|z
     . rw[z];exact Ao (I.cellLt e')
     . exact(f b z).2.2.2.2.1 x c e'
 . exact⟨ge b o (I.bs b o e).1,(I.bs b o e).2⟩
 . show X.base.objs.size<=(s.heap.push (eJ [] 0)).objs.size
   rw[B1]
   exact Nat.le_succ_of_le (A4 I.ok.bsz I.sz)
 . have lt:=Ah e
   rcases An.mp hb with z|z
   . subst z
     exact absurd (Ar lt (A4 I.ok.bsz I.sz)) (Bl _)
   . rcases(f b z).2.2.2.1 with q|q
     . exact I.ok.noex b o e q
     . exact absurd (Ar lt (A4 I.ok.bsz q)) (Bl _)
 . show b∉frs X.stack
   intro hs
   rcases An.mp hb with z|z
   . subst z
     obtain⟨o,e⟩:=fsub _ hs
     exact absurd (Ah e) (Bl _)
   . rcases An.mp (I.stkSub b hs) with q|q
     . exact(f b z).2.1 q
     . exact(f b z).2.2.1 q
 . exact I.stack.of_keeps λb o e _=>⟨o,ge b o e,rfl⟩
theorem aDB(CS:dY X scope k caps N'){j:Nat}{v:V}(h:(kZ k caps σ)[j]? = some (some v)):∃j' i,j=k+j'/\caps[j']? = some i/\σ[i]? = some (some v):=by
 unfold kZ at h
 by_cases hj:j<k
 . rw[Bc (by simpa using hj),Ci] at h
   split at h <;> cases h
 . rw[Au (by simpa using hj),A0,Az] at h
   cases e:caps[j-k]? with
   | none=>rw[e] at h;cases h
   | some i=>
    rw[e] at h
    have h':(σ[i]?).getD none=some v:=Ak h
    refine⟨j-k,i,by omega,e,?_⟩
    cases q:σ[i]? with
    | none=>rw[q] at h';cases h'
    | some z=>rw[q] at h';exact congrArg some h'
theorem aKM(CS:dY X scope k caps N')(I:Inv X pins σ H s)(f:∀b∈fp,lO X pins H b)(hf:∀b∈fp,b<s.heap.objs.size){h₁:Heap}{tk:Nat}
 (hns:h₁.Ns (s.heap.objs.size+1) λ_=>none) (hk:∀b o,(s.heap.push (eJ [] 0)).get? b=some o->h₁.get? b=some o) :
 Inv (eQ X scope N' (s.heap.objs.size+1) { s with heap:=s.heap.push (eJ [] 0) } H (s.heap.objs.size::fp)) [] (kZ k caps σ) H { s with heap:=h₁,toks:=tk }:=by
 have hh:∀n,(n,NameKind.free)∈scope.names->∃c,X.env.cells.lookup n=some c:=λn hn=>I.ok.has n (CS.free n hn)
 have ge:∀b o,s.heap.get? b=some o->h₁.get? b=some o:=λb o e=>hk b o (Ab _ e)
 have cellK:∀{c:Addr} {v:Option Value},s.heap.IsCell c v->h₁.IsCell c v:=λ{c v} ⟨o,e,d⟩=>⟨o,ge _ _ e,d⟩
 refine⟨aNj CS I f hf,rfl,I.bare,Un.kept hk,⟨_,hns,λj x v e1 e2 e3=>?_⟩,λx c e=>?_,?_,λx c e=>?_,λp hp=>absurd (show p∈([]:List (Addr×Obj)) from hp) (by simp),I.hok.kept ge,?_⟩
 . obtain⟨j',i,ej,ec,es⟩:=aDB CS e2
   obtain⟨y,h1,h2,h3,h4⟩:=CS.cap j' i ec
   have e1':N'[j]? = some x:=e1
   rw[ej,h1] at e1'
   have ey:y=x:=Ak e1'
   subst ey
   obtain⟨m,hn,hl⟩:=I.loc
   obtain⟨u,ru,lk⟩:=hl i y v h2 es (.inr (.inl h4))
   rcases lk with⟨k1,_⟩|⟨_,c,ec',hc⟩
   . rw[h4] at k1;cases k1
   . refine⟨u,ru,.inr ⟨?_,c,?_,cellK hc⟩⟩
     . have e3':Vis (relabel scope X.env) y:=e3
       rcases e3' with z|z|z
       . rcases relabel_lookup z with⟨z,_⟩|z
         . cases z
         . rw[h3] at z;cases z
       . exact .inl z
       . exact .inr z
     . obtain⟨c',e⟩:=fN (lU (cells:=X.env.cells) (acc:=[]) (gK h3))
       have e':=cZ hh e
       rw[ec'] at e'
       cases e'
       exact e
 . obtain⟨v,q⟩:=I.cell x c (cZ hh e)
   exact⟨v,cellK q⟩
 . exact I.hok.fresh (Dt _)
 . exact I.freeC x c (cZ hh e)
 . show(kZ k caps σ).length=N'.length
   unfold kZ
   rw[lA,A0,lM,CS.len]
theorem wX{tg iter elt:Expr}{ifs:List Expr}{pos:Pos}{g:TG}{tt:TT}{te:TE}{it:Addr}{tn:Nat->Heap->Prop}{J:It}{RR:Value->Addr->Result->Shared->Prop}{E:Value->Shared->Prop}{Q:VK}
 (CS:dY X scope k caps N') (hc:X.calm=true) (I:Inv X pins σ H s) (T:wG X.prog X.w X.K tg J fp it tn) (st:tn 0 s.heap) (f:∀b∈fp,lO X pins H b)
 (hch:∀C s₀ H₀ ex,PG (eQ X scope N' C s₀ H₀ ex) tg g/\PTs (eQ X scope N' C s₀ H₀ ex) ifs tt/\PE (eQ X scope N' C s₀ H₀ ex) elt te)
 (hw:∃W:Nat->Nat->List V->St->Hp->Prop,(∃m,W 0 m [] (kZ k caps σ) H)/\∀i m ys σ1 H,W i m ys σ1 H ->
  (J.stop i H/\ys.length<=sizeLine/\∀p,H p=none->Q (.ref p) (upd H p (.lst ys))) \/
  (J.go i H/\ys.length<sizeLine/\∀x H',J.yld i H x H'->g x σ1 H' λσ2 H2=>tt σ2 H2 λb H3=>
   if b=true then te σ2 H3 λy H4=>∃m',m'<m/\W (i+1) m' (ys++[y]) σ2 H4 else ∃m',m'<m/\W (i+1) m' ys σ2 H3))
 (hR:∀D C s' H' m,Inv X pins σ H' s'->s'.heap.Ns C m->s.heap.objs.size<C->(∀(σ':St) (s'':Shared) (h':Heap),Inv X pins σ' H' s''->Heap.SameBut C s''.heap h'->Inv X pins σ' H' { s'' with heap:=h' })->Q (.ref D) H'->RR (.ref D) C (.ok .next) s') :
 wpAny (model X.prog X.w) X.A (newList []) (λacc s₃=>wpAny (model X.prog X.w) X.A (newFunctionEnv scope X.env.globals (kL X.env.cells scope.names []) [] X.env.qual none .none (some X.env)) (λcenv s₄=>
  codeAny (model X.prog X.w) X.A (.compStart (.ListComp elt [⟨tg,iter,ifs,0⟩] scope pos) 0 (.ref it) acc { cenv with scope:=relabel scope X.env }) (RR acc cenv.locals) s₄) E s₃) E s:=by
 obtain⟨W,⟨m0,w0⟩,turn⟩:=hw
 have hf:∀b∈fp,b<s.heap.objs.size:=λb hb=>by
  obtain⟨o,e,_⟩:=T.obj 0 _ st b hb
  exact Ah e
 refine Bz (wpAny_newFunctionEnv CS.nocell (by intro y hy;simp at hy) (λh₁ hns₁ hsb₁=>?_) CS.kind)
 have hsz:(s.heap.push (eJ [] 0)).objs.size=s.heap.objs.size+1:=B1 _ _
 have hns:h₁.Ns (s.heap.objs.size+1) λ_=>none:=by
  have:=hns₁
  rw[show({ s with heap:=s.heap.push (eJ [] 0) }:Shared).heap.objs.size=s.heap.objs.size+1 from hsz] at this
  exact this
 have hk:∀b o,(s.heap.push (eJ [] 0)).get? b=some o->h₁.get? b=some o:=λb o e=>
  hsb₁.extBut b o (Ao (by have:=Ah e;rw[hsz] at this;show b<(s.heap.push (eJ [] 0)).objs.size;rw[hsz];exact this)) (Ab _ e)
 have I0:=aKM (N':=N') CS I f hf (tk:=s.toks+([]:List (Str×Value)).length) hns hk
 have noC:∀{b:Addr},b<s.heap.objs.size->b≠s.heap.objs.size+1:=λ{b} hb=>Ao (B3 hb)
 have hDn:H s.heap.objs.size=none:=I.fresh
 have hh:∀n,(n,NameKind.free)∈scope.names->∃c,X.env.cells.lookup n=some c:=λn hn=>I.ok.has n (CS.free n hn)
 have hD1:h₁.get? s.heap.objs.size=some (eJ [] 0):=hk _ _ (Ai _ rfl)
 have stFs:∀b∈frs X.stack,b<s.heap.objs.size:=λb hb=>by
  obtain⟨_,o,ho,_⟩:=I.stack.mem hb
  exact Ah ho
 have fpc:∀(pl:List (Addr×Obj)),(∀p∈pl,p.1=s.heap.objs.size)->∀{H':Hp},(∀b∈fp,H' b=none)->∀b∈fp,lO (eQ X scope N' (s.heap.objs.size+1) { s with heap:=s.heap.push (eJ [] 0) } H (s.heap.objs.size::fp)) pl H' b:=by
  intro pl hpl H' hn b hb
  refine⟨hn b hb,noC (hf b hb),λz=>?_,.inl (Ag _ hb),λx c e=>(f b hb).2.2.2.2.1 x c (cZ hh e),λp hp z=>?_⟩
  . rcases An.mp (I.stkSub b z) with q|q
    . exact(f b hb).2.1 q
    . exact(f b hb).2.2.1 q
  . have hp':p∈pl:=by simpa[eQ] using hp
    rw[hpl p hp'] at z
    exact absurd (hf b hb) (by rw[<-z];exact Bl _)
 have pinD:∀{σ':St} {H':Hp} {s':Shared} {its:List Value} {n:Nat} {pl:List (Addr×Obj)},Inv (eQ X scope N' (s.heap.objs.size+1) { s with heap:=s.heap.push (eJ [] 0) } H (s.heap.objs.size::fp)) pl σ' H' s' ->
  s'.heap.get? s.heap.objs.size=some (eJ its n)->H' s.heap.objs.size=none->Inv (eQ X scope N' (s.heap.objs.size+1) { s with heap:=s.heap.push (eJ [] 0) } H (s.heap.objs.size::fp)) [(s.heap.objs.size,eJ its n)] σ' H' s':=by
  intro σ' H' s' its n pl J e nn
  refine J.pins_of λp hp=>?_
  have:p=(s.heap.objs.size,eJ its n):=by simpa using hp
  subst this
  refine⟨e,nn,Ao (Cy _),λz=>absurd (stFs _ z) (Bl _),λv z=>by cases z⟩
 have start:codeAny (model X.prog X.w) X.A (.compLoop (.ListComp elt [⟨tg,iter,ifs,0⟩] scope pos) 0 (.ref it) (.ref s.heap.objs.size) (compEnvC scope (kL X.env.cells scope.names []) (s.heap.objs.size+1) X.env))
  (RR (.ref s.heap.objs.size) (s.heap.objs.size+1)) { s with heap:=h₁,toks:=s.toks+([]:List (Str×Value)).length }:=by
  refine jC (λn s'=>∃i ys its cnt σ1 H',Inv (eQ X scope N' (s.heap.objs.size+1) { s with heap:=s.heap.push (eJ [] 0) } H (s.heap.objs.size::fp)) [(s.heap.objs.size,eJ its cnt)] σ1 H' s' /\
   tn i s'.heap/\(∀b∈fp,H' b=none)/\aU ys its/\W i n ys σ1 H') ?_ m0 ⟨0,[],[],0,_,H,pinD I0 hD1 hDn,T.keep _ _ _ st λb _ o e=>hk b o (Ab _ e),λb hb=>(f b hb).1,.nil,w0⟩
  rintro n s3 ⟨i,ys,its,cnt,σ1,H3,I3,st3,fr3,rv3,w3⟩
  obtain⟨hD3,nD3,_⟩:=I3.pin (s.heap.objs.size,eJ its cnt) (by simp[eQ])
  have pl1:∀p∈[(s.heap.objs.size,eJ its cnt)],p.1=s.heap.objs.size:=λp hp=>by
   have:p=(s.heap.objs.size,eJ its cnt):=by simpa using hp
   rw[this]
  rcases turn i n ys σ1 H3 w3 with⟨stop,hz,qn⟩|⟨go,hz,step⟩
  . refine thn (T.done (eQ X scope N' (s.heap.objs.size+1) { s with heap:=s.heap.push (eJ [] 0) } H (s.heap.objs.size::fp)) rfl rfl rfl hc i _ s3 _ H3 _ I3 (fpc _ pl1 fr3) st3 stop) λr s4 ⟨hr,I4⟩=>?_
    subst hr
    obtain⟨hD4,nD4,_⟩:=I4.pin (s.heap.objs.size,eJ its cnt) (by simp[eQ])
    have u4:=I4.base
    have nb:∀{b:Addr} {o:Obj},s.heap.get? b=some o->b∉fp->b∉s.heap.objs.size::fp:=λ{b o} e hb z=>by
     rcases An.mp z with z|z
     . exact absurd (Ah e) (by rw[z];exact Bl _)
     . exact hb z
    have neD:∀{b:Addr} {o:Obj},s.heap.get? b=some o->b≠s.heap.objs.size:=λ{b o} e=>Ao (Ah e)
    have trD:∀{b:Addr} {o:HO},H b=some o->b≠s.heap.objs.size:=λ{b o} e=>bQ e hDn
    have u:Un (frs X.stack) fp H (upd H3 s.heap.objs.size (.lst ys)) s.heap s4.heap:={
     keep:=λb o e nn hb hx=>u4.keep b o (Ab _ e) nn hb (nb e hx)
     slot:=λb o e nn hb hx=>u4.slot b o (Ab _ e) nn hb (nb e hx)
     free:=λb o e nn hx=>by rw[aZ (neD e)];exact u4.free b o (Ab _ e) nn (nb e hx)
     there:=λb o e hx=>u4.there b o (Ab _ e) (nb e hx)
     tups:=λb xs e=>by rw[aZ (trD e)];exact u4.tups b xs e
     frzs:=λb o u e=>by rw[aZ (trD e)];exact u4.frzs b o u e
     tbls:=λb ps e=>by rw[aZ (trD e)];exact u4.tbls b ps e }
    have hl:=rv3.length
    have hok:HOk X.prog X.w (upd H3 s.heap.objs.size (.lst ys)) s4.heap:=HOk.track I4.hok nD4 ⟨hz,its,cnt,rv3,hD4⟩
    have I5:Inv X pins σ (upd H3 s.heap.objs.size (.lst ys)) s4:=I.call' I4.os u hok I4.bare λb hb=>⟨(f b hb).2.2.2.1,(f b hb).2.1,(f b hb).2.2.2.2.1,(f b hb).2.2.2.2.2⟩
    obtain⟨m4,hn4,_⟩:=I4.loc
    refine hR s.heap.objs.size (s.heap.objs.size+1) s4 _ m4 I5 hn4 (Cy _) (λσ' s'' h' I6 hs'=>?_) (qn _ nD4)
    have:=I6.turned (t':=s''.toks) (h':=h') (it:=s.heap.objs.size+1) (λb o hb e=>hs'.extBut b o hb e) (by rw[aZ (Cg (Cy _))];exact I4.free)
     (Cg (B3 I.lt)) (.inr (Nat.le_succ_of_le I.sz)) (λx c e=>Ao (B3 (I.cellLt e))) λp hp z=>?_
    . exact this
    . have:=Ah (I.pin p hp).1
      rw[z] at this
      exact absurd this (Nat.not_lt.mpr (Dt _))
  . refine thn (T.item (eQ X scope N' (s.heap.objs.size+1) { s with heap:=s.heap.push (eJ [] 0) } H (s.heap.objs.size::fp)) rfl rfl rfl hc i _ s3 _ H3 _ I3 (fpc _ pl1 fr3) st3 go) λr s4 ⟨u,hr,h4⟩=>?_
    subst hr
    refine thn h4 λ_ s5 ⟨x,H5,I5,r5,y5,st5,fr5⟩=>?_
    obtain⟨hg,ht,he⟩:=hch (s.heap.objs.size+1) { s with heap:=s.heap.push (eJ [] 0) } H (s.heap.objs.size::fp)
    have I5':=I5.pinned (fpc _ pl1 fr5) (T.obj _ _ st5)
    have keep:∀{σ7:St} {H7:Hp} {s7:Shared},Inv (eQ X scope N' (s.heap.objs.size+1) { s with heap:=s.heap.push (eJ [] 0) } H (s.heap.objs.size::fp)) ([(s.heap.objs.size,eJ its cnt)]++pK fp s5.heap) σ7 H7 s7 ->
     tn (i+1) s7.heap/\(∀b∈fp,H7 b=none)/\s7.heap.get? s.heap.objs.size=some (eJ its cnt)/\H7 s.heap.objs.size=none:=by
     intro σ7 H7 s7 I7
     obtain⟨hD7,nD7,_⟩:=I7.pin (s.heap.objs.size,eJ its cnt) (by simp[eQ])
     refine⟨T.keep _ _ _ st5 λb hb o e=>(I7.pin (b,o) (Aq _ (Aq _ (iH hb e)))).1,λb hb=>?_,hD7,nD7⟩
     obtain⟨o,e,d⟩:=T.obj _ _ st5 b hb
     exact(I7.pin (b,o) (Aq _ (Aq _ (iH hb e)))).2.1
    refine thn (hg _ s5 _ H5 x u _ I5' r5 (step x H5 y5)) λ_ s6 ⟨σ6,H6,I6,q6⟩=>?_
    refine thn (ht _ s6 σ6 H6 _ I6 q6) λb s7 ⟨H7,I7,q7⟩=>?_
    cases b with
    | false=>
     rw[if_neg bN] at q7 ⊢
     obtain⟨m',hm,w7⟩:=q7
     obtain⟨t7,f7,d7,n7⟩:=keep I7
     exact⟨m',hm,i+1,ys,its,cnt,σ6,H7,pinD I7 d7 n7,t7,f7,rv3,w7⟩
    | true=>
     rw[if_pos rfl] at q7 ⊢
     refine thn (he _ s7 σ6 H7 _ I7 q7) λyv s8 ⟨y,H8,I8,r8,q8⟩=>?_
     obtain⟨m',hm,w8⟩:=q8
     obtain⟨t8,f8,d8,n8⟩:=keep I8
     have hl:=rv3.length
     have hzv:its.toArray.size<=sizeLine:=by rw[Af];omega
     refine call_meets F.slot_list_append ⟨_,d8,rfl⟩ F.entry_list_append (F.args_list_append_2 _ _) (PySem.list_append s.heap.objs.size its.toArray cnt yv hzv) ⟨d8,?_⟩
     have q:=PySem.IsL.update d8 (λa=>a.push yv)
     have e':its.toArray.push yv=(its++[yv]).toArray:=by simp
     rw[e'] at q
     have I9:=(I8.unpinned (pins:=[(s.heap.objs.size,eJ its cnt)])).pins_of (pins':=[]) (λp hp=>absurd hp (by simp))
     have I10:=I9.turned (t':=s8.toks) (it:=s.heap.objs.size) (h':=s8.heap.update s.heap.objs.size (Obj.mapSeq λa=>a.push yv)) (λb o hb e=>(Dl s8.heap _ (Ne.symm hb)).trans e) n8
      (Ao (Cy _)) (.inl Al) (λx c e=>Ao (I.cellLt (cZ hh e))) (λp hp=>absurd (show p∈([]:List (Addr×Obj)) from by simpa[eQ] using hp) (by simp))
     refine⟨m',hm,i+1,ys++[y],its++[yv],_,σ6,H8,pinD I10 q n8,?_,f8,rv3.append (.cons r8 .nil),w8⟩
     refine T.keep _ _ _ t8 λb hb o e=>(Dl s8.heap _ ?_).trans e
     intro z
     exact absurd (hf b hb) (by rw[<-z];exact Bl _)
 have startC:∀C,C=s.heap.objs.size+1->codeAny (model X.prog X.w) X.A (.compLoop (.ListComp elt [⟨tg,iter,ifs,0⟩] scope pos) 0 (.ref it) (.ref s.heap.objs.size) (compEnvC scope (kL X.env.cells scope.names []) C X.env))
  (RR (.ref s.heap.objs.size) C) { s with heap:=h₁,toks:=s.toks+([]:List (Str×Value)).length }:=by
  rintro C rfl
  exact start
 exact codeAny_compStart_list (startC _ hsz) (T.self X.A 0 _ _ _ (T.keep _ _ _ st λb _ o e=>hk b o (Ab _ e)) (startC _ hsz))
end
section
variable {X:Cx} {scope:Scope} {k:Nat} {caps:List Nat} {N':List Str} {tg iter elt:Expr} {ifs:List Expr} {pos:Pos} {wi:TI} {g:TG} {tt:TT} {te:TE}
theorem aAS(CS:dY X scope k caps N')(hc:X.calm=true)(hi:PI X tg iter wi)
 (hch:∀C s₀ H₀ ex,PG (eQ X scope N' C s₀ H₀ ex) tg g/\PTs (eQ X scope N' C s₀ H₀ ex) ifs tt/\PE (eQ X scope N' C s₀ H₀ ex) elt te) (hs:∀x,foldedSetIterable iter X.env x=pure x) :
 PE X (.ListComp elt [⟨tg,iter,ifs,0⟩] scope pos) (aDA k caps wi g tt te):=by
 intro pins s σ H Q I h
 rw[eval_ListComp]
 refine wpAny_comprehension_free (use:=none) rfl hs (iV λn hn=>I.ok.has n (CS.free n hn)) CS.kind CS.loc (thn (hi pins s σ H _ I h) λxv s1 h1=>thn h1 λitv s2 h2=>?_)
 obtain⟨it,fp,tn,J,H2,e,I2,T,st2,f2,hw⟩:=h2
 subst e
 exact wX (RR:=λacc C=>compPost (model X.prog X.w) X.A X.xe none (EP X pins σ Q) acc C) (Q:=Q) CS hc I2 T st2 f2 hch hw λD C s' H' m J hn _ hall q=>⟨m,hn,λh' hs'=>⟨.ref D,H',hall σ s' h' J hs',rfl,q⟩⟩
theorem zT{i:Nat}{x:Str}{pos' spos:Pos}(CS:dY X scope k caps N')(hc:X.calm=true)(hi:PI X tg iter wi)
 (hch:∀C s₀ H₀ ex,PG (eQ X scope N' C s₀ H₀ ex) tg g/\PTs (eQ X scope N' C s₀ H₀ ex) ifs tt/\PE (eQ X scope N' C s₀ H₀ ex) elt te) (hs:∀x,foldedSetIterable iter X.env x=pure x)
 (hN:X.N.Nodup) (hx':X.N[i]? = some x) (hx:Loc X.env.scope x) (hf:X.fn x=true\/X.env.scope.names.lookup x=some .local) :
 PS X (.Assign [.Name x pos'] (.ListComp elt [⟨tg,iter,ifs,0⟩] scope pos) spos) (aHF (aDA k caps wi g tt te) (sC i)):=by
 have hb:∃b,swapsWith (.ListComp elt [⟨tg,iter,ifs,0⟩] scope pos) (some (.Name x pos')) spos.line X.env=pure b:=⟨_,rfl⟩
 obtain⟨b,hb⟩:=hb
 cases b with
 | false=>exact yZ hN hx' hx (aAS CS hc hi hch hs) hb hf
 | true=>
  intro pins s σ H D I h
  rw[exec_Assign_Name_used x pos' _ spos hb]
  refine Aa (wpAny_standAt (Aa ?_))
  show wpAny _ _ (comprehension (.ListComp elt [⟨tg,iter,ifs,0⟩] scope pos) scope X.env (firstIterPos [⟨tg,iter,ifs,0⟩] pos) (newList []) (firstAsync [⟨tg,iter,ifs,0⟩]) (firstIter [⟨tg,iter,ifs,0⟩] X.env) (some (assign (.Name x pos') X.env)) >>= λ_=>pure ()) _ _ s
  refine Aa (wpAny_comprehension_free (use:=some (assign (.Name x pos') X.env)) rfl hs (iV λn hn=>I.ok.has n (CS.free n hn)) CS.kind CS.loc (thn (hi pins s σ H _ I h) λxv s1 h1=>thn h1 λitv s2 h2=>?_))
  obtain⟨it,fp,tn,J,H2,e,I2,T,st2,f2,hw⟩:=h2
  subst e
  refine wX (Q:=λv H'=>D.nx (σ.set i (some v)) H') (RR:=λacc C=>compPost (model X.prog X.w) X.A X.xe (some (assign (.Name x pos') X.env)) (λ_ s'=>wpAny (model X.prog X.w) X.A (pure ()) (λ_ s'=>wpAny (model X.prog X.w) X.A (pure Flow.next) (SP X pins D) X.xe s') X.xe s') acc C) CS hc I2 T st2 f2 hch hw λD' C s' H' m J hn lt hall q=>?_
  show wpAny _ _ (assign (.Name x pos') X.env (.ref D')) _ _ s'
  refine wpAny_assign_Name (sB (v:=V.ref D') J hN hx' hx rfl (λs'' J' hsb=>?_) hf)
  obtain⟨a,sb,ha⟩:=hsb
  refine⟨m,hn.sameBut sb ?_,λh' hs'=>?_⟩
  . rcases ha with z|z
    . rw[z];exact Cg (Nat.lt_trans I2.lt lt)
    . exact Cg (Nat.lt_trans (I2.cellLt z) lt)
  . exact Ac (Ac ⟨_,H',hall _ s'' h' J' hs',q⟩)
end
end L2
end
noncomputable section
namespace Hp
open PySem PySem.Spec PyProof.Rows L2
def Rr(K:Fg)(H H':Hp)(Y:Addr->Prop)(r:Rt)(u:V):Prop:=
 if r.2.1=true then ∃a xs ds,u=.ref a/\r.1=.lst ds/\H a=none/\H' a=some (.lst xs)/\Reps K H' (λb=>b=a\/Y b\/(r.2.2=false/\H b≠none)) ds xs
 else Rep K H' (λb=>Y b\/(r.2.2=false/\H b≠none)) r.1 u
def spF(K:Fg)(P:Pg)(n:Nat)(f:Nat):Sp:=λvs H Q _=>∃(ds:List D) (Y:Addr->Prop),(∀a,Y a->H a≠none)/\Reps K H Y ds vs/\RE (call P n f ds) λr=>∀u H',Tk K H'->aX H H'->Rr K H H' Y r u->Q u H'
def bltNames:List Str:=["len", "list", "tuple", "min", "max", "abs", "int", "str", "sum", "all", "any", "sorted", "bool", "range", "zip", "enumerate", "reversed", "set", "isinstance", "dict", "repr"]
structure Md (X:Cx) (P:Pg) (Γ:Ct) (n:Nat):Prop where
 fn:∀(f:Nat) (x:Str),Γ.fns[f]? = some x->∃fa fd ps,X.mg x=some (.ref fa)/\PySem.W.keepIn X.K (.ref fa)=true/\kM X.K fd ps []/\oD X.prog X.w X.K X.mg X.base CX0 n fa fd ps (spF X.K P n f)
 blt:∀x∈bltNames,X.mg x=none
 cns:∀(x:Str) (d:D),Γ.cns.lookup x=some d->∃u v,X.mg x=some u/\bR v u/\∀H ex,Rep X.K H ex d v
 tab:∀(i:Nat) (x:Str),Γ.tbs[i]? = some x->∃a t,X.mg x=some (.ref a)/\P.tabs[i]? = some t/\sL X.prog X.w X.K a t
structure Mc (X:Cx) (P:Pg) (Γ:Ct) (n:Nat):Prop where
 md:Md X P Γ n
 N:X.N=Γ.N
 nd:X.N.Nodup
 sc:X.env.scope.names=Γ.sc
 calm:X.calm=true
 room:kW n X.A
 xe:X.xe=λ_ _=>False
 st:∀x:Str,wP Γ x=true->X.fn x=true\/X.env.scope.names.lookup x=some .local
 fk:X.env.scope.kind=.function
section
variable {X:Cx} {P:Pg} {Γ:Ct} {n:Nat}
theorem Mc.units(M:Mc X P Γ n):X.A.units+200<cLine:=by have:=M.room.un;omega
theorem Mc.vis(M:Mc X P Γ n){x:Str}(h:aDs Γ x=true):Vis X.env.scope x:=by
 unfold aDs at h
 unfold Vis
 rw[M.sc]
 cases q:Γ.sc.lookup x with
 | none=>rw[q] at h;cases h
 | some k=>rw[q] at h;cases k <;> first|exact .inl rfl|exact .inr (.inl rfl)|exact .inr (.inr rfl)|cases h
theorem Mc.loc(M:Mc X P Γ n){x:Str}(h:wP Γ x=true):L2.Loc X.env.scope x:=by
 unfold wP at h
 unfold L2.Loc
 rw[M.sc]
 cases q:Γ.sc.lookup x with
 | none=>rw[q] at h;cases h
 | some k=>rw[q] at h;cases k <;> first|exact .inl rfl|exact .inr rfl|cases h
theorem Mc.gl(M:Mc X P Γ n){x:Str}(h:dR Γ x=true):Gl X x:=by
 unfold dR at h
 unfold Gl
 show X.env.scope.names.lookup x=_
 rw[M.sc]
 cases q:Γ.sc.lookup x with
 | none=>rw[q] at h;cases h
 | some k=>rw[q] at h;cases k <;> first|rfl|cases h
theorem bC{x:Str}(h:dA x=true):(x==("__debug__" : Str))=false:=by
 unfold dA at h
 simp only[bA,D8] at h
 exact h.1
theorem nA{x:Str}(h:dA x=true):(x==("__classdict__" : Str))=false:=by
 unfold dA at h
 simp only[bA,D8] at h
 exact h.2
theorem aIg:∀{d d':D},eqK d d'=true->d=d':=by
 intro d d' h
 cases d <;> cases d' <;> simp[eqK] at h <;> first|rfl|(subst h;rfl)
def bK:Expr->Bool
 | .Starred _ _=>false
 | .Slice _ _ _ _=>false
 | .Set _ _ _=>false
 | _=>true
theorem aDC{α:Type}{o:Option α}{f:α->Bool}(h:oB o f=true):∃a,o=some a/\f a=true:=by
 cases o with
 | none=>cases h
 | some a=>exact⟨a,rfl,h⟩
theorem aI{α:Type}{q:α->Prop}{o:Option { a:α // q a }}{f:α->Bool}(h:oS o f=true):∃a,q a/\f a=true:=by
 cases o with
 | none=>cases h
 | some a=>exact⟨a.1,a.2,h⟩
theorem aT{c:E}{e:Expr}(h:bB Γ c e=true):bK e=true:=by
 cases c with
 | c d=>
  rcases(Cr _ _).mp (show(oS (asC e) (eqC d)||oS (asN e) λx=>dR Γ x&&dA x&&oB (Γ.cns.lookup x) (eqK d))=true from h) with h|h
  . obtain⟨_,⟨_,_,rfl⟩,_⟩:=aI h;rfl
  . obtain⟨_,⟨_,rfl⟩,_⟩:=aI h;rfl
 | v i=>obtain⟨_,⟨_,rfl⟩,_⟩:=aI h;rfl
 | op o a b=>obtain⟨_,⟨_,rfl⟩,_⟩:=aI h;rfl
 | neg a=>obtain⟨_,⟨_,rfl⟩,_⟩:=aI h;rfl
 | nt a=>obtain⟨_,⟨_,rfl⟩,_⟩:=aI h;rfl
 | an a b=>obtain⟨_,rfl,_⟩:=aI h;rfl
 | orr a b=>obtain⟨_,rfl,_⟩:=aI h;rfl
 | ife t a b=>obtain⟨_,⟨_,rfl⟩,_⟩:=aI h;rfl
 | cmp o a b=>obtain⟨_,⟨_,rfl⟩,_⟩:=aI h;rfl
 | cmp2 o1 o2 a b c=>obtain⟨_,⟨_,rfl⟩,_⟩:=aI h;rfl
 | idx a b=>obtain⟨_,⟨_,rfl⟩,_⟩:=aI h;rfl
 | sli a lo hi=>obtain⟨_,⟨_,rfl⟩,_⟩:=aI h;rfl
 | tup es=>obtain⟨_,⟨_,_,rfl⟩,_⟩:=aI h;rfl
 | lst es=>obtain⟨_,⟨_,rfl⟩,_⟩:=aI h;rfl
 | call f es=>obtain⟨_,⟨_,_,rfl⟩,_⟩:=aI h;rfl
 | bi b es=>obtain⟨_,⟨_,_,rfl⟩,_⟩:=aI h;rfl
 | mth _ _ _=>cases h
 | isi a cs=>obtain⟨_,⟨_,_,rfl⟩,_⟩:=aI h;rfl
 | comp k caps t it cond elt=>obtain⟨_,⟨_,rfl⟩,_⟩:=aI h;rfl
 | numset a=>obtain⟨_,⟨_,_,rfl⟩,_⟩:=aI h;rfl
 | tget i a=>obtain⟨_,⟨_,_,rfl,_⟩,_⟩:=aI h;rfl
 | lzip _ _=>cases h
 | dic ks vs=>cases h
 | sset a=>obtain⟨_,⟨_,_,rfl⟩,_⟩:=aI h;rfl
 | attr _ _=>cases h
theorem aE{e:Expr}{es:List Expr}{env:Env}(h:bK e=true):starEach (e::es) env=(false,eval e env)::starEach es env:=by
 cases e <;> first|rfl|cases h
theorem jD:∀{cs:Es} {es:List Expr},chkEs Γ cs es=true->es.all bK=true
 | .z,[],_=>rfl
 | .z,_::_,h=>by cases h
 | .k _ _,[],h=>by cases h
 | .k c cs,e::es,h=>by
  simp only[chkEs,bA] at h
  rw[List.all_cons,aT h.1,jD h.2]
  rfl
theorem dB{pos:Pos}{env:Env}:∀{es:List Expr},es.all bK=true->(backTo pos (starEach es env)).any (·.1)=false
 | [],_=>rfl
 | e::es,h=>by
  rw[List.all_cons,bA] at h
  rw[aE h.1]
  show(false||(backTo pos (starEach es env)).any (·.1))=false
  rw[dB h.2]
  rfl
theorem zU{e:Expr}(h:bK e=true):aAM e:=by
 intro o i
 cases e <;> first|rfl|cases h
theorem nB{e:Expr}{env:Env}(h:bK e=true):∀x,foldedSetIterable e env x=pure x:=by
 intro x
 cases e <;> first|rfl|cases h
theorem pY{op:CmpOp}{e:Expr}(h:bK e=true):behindInMarks op e=false:=by
 cases e <;> first|rfl|cases h
variable {RT Y old:Addr->Prop} {σ:Sg} {pos:Pos}
abbrev WE(X:Cx)(P:Pg)(n:Nat)(RT Y old:Addr->Prop)(σ:Sg)(c:E):TE:=wE X P (call P n) RT Y old σ c
abbrev WT(X:Cx)(P:Pg)(n:Nat)(RT Y old:Addr->Prop)(σ:Sg)(c:E):TT:=wT X P (call P n) RT Y old σ c
abbrev WA(X:Cx)(P:Pg)(n:Nat)(RT Y old:Addr->Prop)(σ:Sg)(c:Es):TA:=wA X P (call P n) RT Y old σ c
theorem RE.bind'{α β:Type}{x:R α}{f:α->R β}{p:β->Prop}(h:RE (x >>= f) p):RE x λa=>RE (f a) p:=by rwa [RE.bind] at h
theorem wE.one{a:E}{σV:L2.St}{H:Hp}{p:Vl->Prop}{Q:V->Hp->Prop}(S:Sx X.K RT Y old σ σV H)(h:RE (ev P (call P n) σ a) p)
 (f:∀x u H',p x->Tk X.K H'->Sx X.K RT Y old σ σV H'->Ro X.K RT Y old σ σV H H' x u->Q u H'):WE X P n RT Y old σ a σV H Q:=
 ⟨S,h.mono λx hx u H' t r=>f x u H' hx t (S.grow r.1 t) r⟩
theorem aNk{o:Operator}{a b:E}{ea eb:Expr}(ha:PE X ea (WE X P n RT Y old σ a))(hb:PE X eb (WE X P n RT Y old σ b)):PE X (.BinOp ea o eb pos) (WE X P n RT Y old σ (.op o a b)):=by
 intro pins s σV H Q I hw
 obtain⟨S,h⟩:=hw
 have h:=RE.bind' (show RE (ev P (call P n) σ a >>= λx=>ev P (call P n) σ b >>= λy=>opD o x y) _ from h)
 refine wpAny_BinOp (thn (ha pins s σV H (λux H1=>WE X P n RT Y old σ b σV H1 λuy H2=>∃x y,Sx X.K RT Y old σ σV H2/\aX H H2/\Rv X.K RT Y old σ σV H2 x ux/\Rv X.K RT Y old σ σV H2 y uy/\(x.fr=true->∃a xs,ux=.ref a/\H2 a=some (.lst xs))/\RE (opD o x y) (Wn X RT Y old σ σV H Q)) I
  (wE.one S h λx u H1 hx t1 S1 r1=>wE.one S1 (RE.bind' hx) λy u' H2 hy t2 S2 r2=>⟨x,y,S2,r1.1.trans r2.1,(r1.rv S).grow r2.1,r2.rv S1,λhf=>?_,hy⟩)) λv s1 ⟨x',H1,I1,rx,q1⟩=>thn (hb pins s1 σV H1 _ I1 q1) λu s2 ⟨y',H2,I2,ry,q2⟩=>?_)
 . have:=r1.2
   rw[if_pos hf] at this
   obtain⟨a',xs,ds,e1,_,_,e4,_⟩:=this
   exact⟨a',xs,e1,r2.1 _ _ e4⟩
 . obtain⟨x,y,S2,sm,hx,hy,hf,h⟩:=q2
   exact aDx I2 S2 rx ry hx hy hf (h.mono λv hv u H' t r=>hv u H' t (r.from sm))
theorem aKN{a:E}{ea:Expr}(ha:PE X ea (WE X P n RT Y old σ a)):PE X (.UnaryOp .USub ea pos) (WE X P n RT Y old σ (.neg a)):=by
 refine(aKe aHN ha).imp λσV H Q t ⟨S,h⟩=>?_
 have h:=RE.bind' (show RE (ev P (call P n) σ a >>= λx=>(match x.d with|.int i=>R.ok (Vl.cl (.int (-i)))|_=>.bad)) _ from h)
 refine wE.one S h λx u H1 hx t1 S1 r1=>?_
 split at hx
 . rename_i i d1
   exact⟨i,(r1.rv S).int d1,λt'=>hx _ _ t' (Ro.cl r1.1 rfl)⟩
 . exact hx.elim
theorem aDD{H:Hp}{σV:L2.St}{x:Vl}{u:V}{k:Bool}(hx:Rv X.K RT Y old σ σV H x u)(h:aDo x.d=some k):aFB X.K u H k:=by
 unfold aDo at h
 split at h
 . rename_i d;rw[hx.non d];exact(Ak h).symm
 . rename_i b d;rw[hx.bl d];exact(Ak h).symm
 . rename_i i d;rw[hx.int d];exact(Ak h).symm
 . rename_i z d
   by_cases hl:z.length<=lim
   . rw[if_pos hl] at h
     rw[hx.str d]
     refine⟨gC hl,?_⟩
     rw[<-Ak h]
     cases hz:z.length with
     | zero=>rfl
     | succ m=>simp;omega
   . rw[if_neg hl] at h;cases h
 . rename_i ds d
   obtain⟨a,xs,e,q,r⟩:=hx.tup d
   rw[e]
   refine .inr (.inl ⟨xs,q,?_⟩)
   rw[<-Ak h]
   have:=r.length
   cases ds <;> cases xs <;> first|rfl|(simp at this)
 . rename_i ds d
   obtain⟨a,xs,e,q,_,r⟩:=hx.lst d
   rw[e]
   refine .inl ⟨xs,q,?_⟩
   rw[<-Ak h]
   have:=r.length
   cases ds <;> cases xs <;> first|rfl|(simp at this)
 . cases h
theorem RE.tru{x:Vl}{p:Bool->Prop}(h:RE (gH x) p):∃k,aDo x.d=some k/\p k:=by
 unfold gH at h
 cases q:aDo x.d with
 | none=>rw[q] at h;exact h.elim
 | some k=>rw[q] at h;exact⟨k,rfl,h⟩
theorem aKO{a:E}{ea:Expr}(ha:PE X ea (WE X P n RT Y old σ a)):PE X (.UnaryOp .Not ea pos) (WE X P n RT Y old σ (.nt a)):=by
 intro pins s σV H Q I hw
 obtain⟨S,h⟩:=hw
 have h:=RE.bind' (show RE (ev P (call P n) σ a >>= λx=>gH x >>= λk=>R.ok (Vl.cl (.bl (!k)))) _ from h)
 refine UnaryOp_ (thn (ha pins s σV H (λu H1=>∃k,aFB X.K u H1 k/\Q (.bl (!k)) H1) I (wE.one S h λx u H1 hx t1 S1 r1=>?_)) λv s1 ⟨u,H1,I1,ru,k,hk,q⟩=>?_)
 . obtain⟨k,hk,hp⟩:=RE.tru (RE.bind' hx)
   exact⟨k,aDD (r1.rv S) hk,(show Wn X RT Y old σ σV H Q (Vl.cl (.bl (!k))) from hp) _ _ t1 (Ro.cl r1.1 rfl)⟩
 . refine not_of (thn (aDe pins s1 σV H1 u v (λk' H'=>k'=k/\H'=H1) I1 ru ⟨k,hk,rfl,rfl⟩) λb s2 ⟨H2,I2,e1,e2⟩=>?_)
   subst e1 e2
   exact⟨.bl (!b),H2,I2,rfl,q⟩
theorem sO{c:E}{e:Expr}(ha:PE X e (WE X P n RT Y old σ c))(he:∀whole,isTrue e X.env whole=(do let v<-whole;standAt e.pos;holding [v] (truthy v)))
 (hc:∀p,RE (tst P (call P n) σ c) p->RE (ev P (call P n) σ c) λx=>RE (gH x) p):PT X e (WT X P n RT Y old σ c):=by
 refine(aDf ha he).imp λσV H Q t ⟨S,h⟩=>?_
 refine wE.one S (hc _ h) λx u H1 hx t1 S1 r1=>?_
 obtain⟨k,hk,hp⟩:=RE.tru hx
 exact⟨k,aDD (r1.rv S) hk,λt'=>hp _ t' r1.1⟩
theorem aKP{a b:E}{ea eb:Expr}{r:List Expr}(ha:PE X ea (WE X P n RT Y old σ a))(hb:PE X (.BoolOp .And (eb::r) pos) (WE X P n RT Y old σ b)):PE X (.BoolOp .And (ea::eb::r) pos) (WE X P n RT Y old σ (.an a b)):=by
 refine(aHz ha hb).imp λσV H Q t ⟨S,h⟩=>?_
 have h:=RE.bind' (show RE (ev P (call P n) σ a >>= λx=>(match x.d with|.bl true=>ev P (call P n) σ b|.bl false=>R.ok (Vl.cl (.bl false))|_=>.bad)) _ from h)
 refine wE.one S h λx u H1 hx t1 S1 r1=>?_
 split at hx
 . rename_i d1
   refine⟨true,(r1.rv S).bl d1,?_⟩
   rw[if_pos rfl]
   exact⟨S1,hx.mono λv hv u H' t r=>λ_=>hv u H' t (r.from r1.1)⟩
 . rename_i d1
   refine⟨false,(r1.rv S).bl d1,?_⟩
   rw[if_neg bN]
   exact λt'=>hx _ _ t' (Ro.cl r1.1 rfl)
 . exact hx.elim
theorem aGZ{a b:E}{ea eb:Expr}{r:List Expr}(ha:PE X ea (WE X P n RT Y old σ a))(hb:PE X (.BoolOp .Or (eb::r) pos) (WE X P n RT Y old σ b)):PE X (.BoolOp .Or (ea::eb::r) pos) (WE X P n RT Y old σ (.orr a b)):=by
 refine(aJT ha hb).imp λσV H Q t ⟨S,h⟩=>?_
 have h:=RE.bind' (show RE (ev P (call P n) σ a >>= λx=>(match x.d with|.bl true=>R.ok (Vl.cl (.bl true))|.bl false=>ev P (call P n) σ b|_=>.bad)) _ from h)
 refine wE.one S h λx u H1 hx t1 S1 r1=>?_
 split at hx
 . rename_i d1
   refine⟨true,(r1.rv S).bl d1,?_⟩
   rw[if_pos rfl]
   exact λt'=>hx _ _ t' (Ro.cl r1.1 rfl)
 . rename_i d1
   refine⟨false,(r1.rv S).bl d1,?_⟩
   rw[if_neg bN]
   exact⟨S1,hx.mono λv hv u H' t r=>λ_=>hv u H' t (r.from r1.1)⟩
 . exact hx.elim
theorem aKQ{t a b:E}{et ea eb:Expr}(ht:PT X et (WT X P n RT Y old σ t))(ha:PE X ea (WE X P n RT Y old σ a))(hb:PE X eb (WE X P n RT Y old σ b)):PE X (.IfExp et ea eb pos) (WE X P n RT Y old σ (.ife t a b)):=by
 refine(aCV ht ha hb).imp λσV H Q t0 ⟨S,h⟩=>?_
 have h:=RE.bind' (show RE (tst P (call P n) σ t >>= λx=>if x=true then ev P (call P n) σ a else ev P (call P n) σ b) _ from h)
 refine⟨S,h.mono λk hk H1 t1 s1=>?_⟩
 cases k with
 | true=>rw[if_pos rfl] at hk ⊢;exact⟨S.grow s1 t1,hk.mono λv hv u H' t r=>λ_=>hv u H' t (r.from s1)⟩
 | false=>rw[if_neg bN] at hk ⊢;exact⟨S.grow s1 t1,hk.mono λv hv u H' t r=>λ_=>hv u H' t (r.from s1)⟩
def w2(X:Cx)(P:Pg)(n:Nat)(RT Y old:Addr->Prop)(σ:Sg)(σV:L2.St)(H:Hp)(p:Vl->Vl->Prop)(ux uy:V)(H2:Hp):Prop:=
 ∃x y,Sx X.K RT Y old σ σV H2/\aX H H2/\Rv X.K RT Y old σ σV H2 x ux/\Rv X.K RT Y old σ σV H2 y uy/\p x y
theorem jY(M:Mc X P Γ n)(o:CmpOp):OpR X (compareOp o) (λux uy H Q=>∃(σ:Sg) (σV:L2.St) (x y:Vl) (k:Bool),Rv X.K RT Y old σ σV H x ux/\Rv X.K RT Y old σ σV H y uy/\cG o x.d y.d=some k/\Q (.bl k) H):=by
 intro pins s σV H ux uy v u Q I rx ry h
 obtain⟨σ',σV',x,y,k,hx,hy,hk,q⟩:=h
 exact aBU I M.units rx ry hx hy hk q
theorem aKR(M:Mc X P Γ n){o:CmpOp}{a b:E}{ea eb:Expr}(ha:PE X ea (WE X P n RT Y old σ a))(hb:PE X eb (WE X P n RT Y old σ b))(hp:bK eb=true):PE X (.Compare ea [o] [eb] pos) (WE X P n RT Y old σ (.cmp o a b)):=by
 refine(aFz (jY (RT:=RT) (Y:=Y) (old:=old) M o) ha hb (pY hp)).imp λσV H Q t ⟨S,h⟩=>?_
 have h:=RE.bind' (show RE (ev P (call P n) σ a >>= λx=>ev P (call P n) σ b >>= λy=>(match cG o x.d y.d with|some k=>R.ok (Vl.cl (.bl k))|none=>.bad)) _ from h)
 refine wE.two S (h.mono λx hx=>RE.bind' hx) λx y ux uy H2 hp t2 s2 S2 hx hy=>?_
 split at hp
 . rename_i k hk
   exact⟨σ,σV,x,y,k,hx,hy,hk,λt'=>hp _ _ t' (Ro.cl s2 rfl)⟩
 . exact hp.elim
theorem cA(M:Mc X P Γ n){o:CmpOp}{a b:E}{ea eb:Expr}(ha:PE X ea (WE X P n RT Y old σ a))(hb:PE X eb (WE X P n RT Y old σ b))(hp:bK eb=true):PT X (.Compare ea [o] [eb] pos) (WT X P n RT Y old σ (.cmp o a b)):=by
 refine(aFA (jY (RT:=RT) (Y:=Y) (old:=old) M o) ha hb (pY hp)).imp λσV H Q t ⟨S,h⟩=>?_
 have h:=RE.bind' (show RE (ev P (call P n) σ a >>= λx=>ev P (call P n) σ b >>= λy=>(match cG o x.d y.d with|some k=>R.ok k|none=>.bad)) _ from h)
 refine wE.two S (h.mono λx hx=>RE.bind' hx) λx y ux uy H2 hp t2 s2 S2 hx hy=>?_
 split at hp
 . rename_i k hk
   exact⟨σ,σV,x,y,k,hx,hy,hk,k,rfl,λt'=>hp _ t' s2⟩
 . exact hp.elim
theorem aKS{a b:E}{ea eb:Expr}(ha:PE X ea (WE X P n RT Y old σ a))(hb:PE X eb (WE X P n RT Y old σ b))(hp:bK eb=true):PE X (.Subscript ea eb pos) (WE X P n RT Y old σ (.idx a b)):=by
 refine(aKq aHV ha hb (zU hp)).imp λσV H Q t ⟨S,h⟩=>?_
 have h:=RE.bind' (show RE (ev P (call P n) σ a >>= λx=>ev P (call P n) σ b >>= λy=>eE x y) _ from h)
 refine wE.two S (h.mono λx hx=>RE.bind' hx) λx y ux uy H2 hp t2 s2 S2 hx hy=>?_
 exact aBV t2 hx hy (hp.mono λv hv u H' t r=>hv u H' t (r.from s2))
theorem wY:PA X [] (WA X P n RT Y old σ .z):=mX.imp λσV H Q t ⟨S,h⟩ t'=>h [] H t' (aX.refl H) rfl
theorem lB{c:E}{cs:Es}{e:Expr}{es:List Expr}(ha:PE X e (WE X P n RT Y old σ c))(hr:PA X es (WA X P n RT Y old σ cs))(hp:bK e=true):PA X (e::es) (WA X P n RT Y old σ (.k c cs)):=by
 refine(jU ha hr (aE hp)).imp λσV H Q t ⟨S,h⟩=>?_
 have h:=RE.bind' (show RE (ev P (call P n) σ c >>= λx=>evs P (call P n) σ cs >>= λxs=>R.ok (x::xs)) _ from h)
 refine wE.one S h λx u H1 hx t1 S1 r1=>⟨S1,(RE.bind' hx).mono λvs hv us H2 t2 s2 r2 t'=>?_⟩
 exact hv (u::us) H2 t' (r1.1.trans s2) ⟨u,us,rfl,(r1.rv S).grow s2,r2⟩
theorem uL:∀{cs:Es} {es:List Expr} {vs:List Vl},chkEs Γ cs es=true->evs P (call P n) σ cs=.ok vs->vs.length=es.length
 | .z,[],vs,_,h=>by cases(show R.ok []=R.ok vs from h);rfl
 | .z,_::_,_,h,_=>by cases h
 | .k _ _,[],_,h,_=>by cases h
 | .k c cs,e::es,vs,hc,h=>by
  simp only[chkEs,bA] at hc
  have h:(ev P (call P n) σ c >>= λx=>evs P (call P n) σ cs >>= λxs=>R.ok (x::xs))=R.ok vs:=h
  cases q1:ev P (call P n) σ c with
  | ok x=>
   cases q2:evs P (call P n) σ cs with
   | ok xs=>
    rw[q1] at h
    have h:(evs P (call P n) σ cs >>= λxs=>R.ok (x::xs))=R.ok vs:=h
    rw[q2] at h
    cases(show R.ok (x::xs)=R.ok vs from h)
    rw[lC,lC,uL hc.2 q2]
   | exc z=>rw[q1] at h;have h:(evs P (call P n) σ cs >>= λxs=>R.ok (x::xs))=R.ok vs:=h;rw[q2] at h;cases h
   | bad=>rw[q1] at h;have h:(evs P (call P n) σ cs >>= λxs=>R.ok (x::xs))=R.ok vs:=h;rw[q2] at h;cases h
  | exc z=>rw[q1] at h;cases h
  | bad=>rw[q1] at h;cases h
theorem RE.eq{α:Type}{x:R α}{p:α->Prop}(h:RE x p):∃a,x=.ok a/\p a:=by
 cases x with
 | ok a=>exact⟨a,rfl,h⟩
 | exc e=>exact h.elim
 | bad=>exact h.elim
theorem aKT{cs:Es}{es:List Expr}{k:Nat}(ha:PA X es (WA X P n RT Y old σ cs))(hc:chkEs Γ cs es=true)(hl:es.length<=1000):PE X (.Tuple es k pos) (WE X P n RT Y old σ (.tup cs)):=by
 refine(aHP ha).imp λσV H Q t ⟨S,h⟩=>?_
 have h:=RE.bind' (show RE (evs P (call P n) σ cs >>= λvs=>R.ok (sK vs)) _ from h)
 obtain⟨vs,e,hv⟩:=h.eq
 refine⟨S,?_⟩
 show RE (evs P (call P n) σ cs) _
 rw[e]
 intro us H1 t1 s1 r1
 have hn:us.length<=sizeLine:=by rw[<-r1.length,uL hc e,C2];omega
 exact⟨hn,λp hp t'=>(show Wn X RT Y old σ σV H Q (sK vs) from hv) _ _ t' ((Ro.tup hp rfl rfl r1.all).from s1)⟩
theorem aKU{cs:Es}{es:List Expr}(ha:PA X es (WA X P n RT Y old σ cs))(hc:chkEs Γ cs es=true)(hl:es.length<=1000):PE X (.List es pos) (WE X P n RT Y old σ (.lst cs)):=by
 refine(aHQ ha).imp λσV H Q t ⟨S,h⟩=>?_
 have h:=RE.bind' (show RE (evs P (call P n) σ cs >>= λvs=>R.ok (pP vs)) _ from h)
 obtain⟨vs,e,hv⟩:=h.eq
 refine⟨S,?_⟩
 show RE (evs P (call P n) σ cs) _
 rw[e]
 intro us H1 t1 s1 r1
 have hn:us.length<=sizeLine:=by rw[<-r1.length,uL hc e,C2];omega
 exact⟨hn,λp hp t'=>(show Wn X RT Y old σ σV H Q (pP vs) from hv) _ _ t' ((Ro.fresh hp t' rfl rfl (S.grow s1 t1) r1.all).from s1)⟩
theorem aFX:∀b:Bi,aDt b=true->bootBuiltins (kX b)=some (aGY b):=by
 intro b hb
 cases b <;> first|kernel_rfl|cases hb
theorem eK:∀b:Bi,kX b∈bltNames:=by
 intro b
 cases b <;> decide +kernel
theorem fD:∀b:Bi,kX b ≠ "__name__" := by
 intro b
 cases b <;> decide +kernel
theorem aNl(M:Mc X P Γ n){b:Bi}{cs:Es}{x:Str}{p:Pos}{e:Expr}{es:List Expr}(hb:aDt b=true)(hx:kX b=x)(hg:dR Γ x=true)(ho:dA x=true)(ha:PA X (e::es) (WA X P n RT Y old σ cs))(hp:(e::es).all bK=true) :
 PE X (.Call (.Name x p) (e::es) [] pos) (WE X P n RT Y old σ (.bi b cs)):=by
 subst hx
 have hp':bK e=true/\es.all bK=true:=by simpa using hp
 have body:∀(f:PE X (.Call (.Name (kX b) p) (e::es) [] pos) (tCB (rBi X b) (WA X P n RT Y old σ cs))),PE X (.Call (.Name (kX b) p) (e::es) [] pos) (WE X P n RT Y old σ (.bi b cs)):=λf=>f.imp λσV H Q t ⟨S,h⟩=>by
  have h:=RE.bind' (show RE (evs P (call P n) σ cs >>= λvs=>biD b vs) _ from h)
  refine⟨S,h.mono λvs hv us H1 t1 s1 r1=>?_⟩
  exact aDz hb (S.grow s1 t1) r1 (hv.mono λv hv u H' t r=>hv u H' t (r.from s1))
 refine body ?_
 have r:=aFU M.calm M.room.gd M.units b hb
 have bo:=aFX b hb
 cases b with
 | len=>exact lP r (M.gl hg) (M.md.blt _ (eK _)) bo ha (fD _) (bC ho) (aE hp'.1) (dB hp'.2)
 | min=>exact lP r (M.gl hg) (M.md.blt _ (eK _)) bo ha (fD _) (bC ho) (aE hp'.1) (dB hp'.2)
 | all=>exact lP r (M.gl hg) (M.md.blt _ (eK _)) bo ha (fD _) (bC ho) (aE hp'.1) (dB hp'.2)
 | any=>exact lP r (M.gl hg) (M.md.blt _ (eK _)) bo ha (fD _) (bC ho) (aE hp'.1) (dB hp'.2)
 | list=>exact mY r (M.gl hg) (M.md.blt _ (eK _)) bo ha (fD _) (bC ho) (aE hp'.1) (dB hp'.2)
 | tuple=>exact mY r (M.gl hg) (M.md.blt _ (eK _)) bo ha (fD _) (bC ho) (aE hp'.1) (dB hp'.2)
 | int=>exact mY r (M.gl hg) (M.md.blt _ (eK _)) bo ha (fD _) (bC ho) (aE hp'.1) (dB hp'.2)
 | _=>cases hb
theorem aFY{σV:L2.St}{H H1 H':Hp}{vs:List Vl}{r:Rt}{u:V}(S1:Sx X.K RT Y old σ σV H1)(s1:aX H H1)(s':aX H1 H')(h:Rr X.K H1 H' (λb=>H1 b≠none/\exV RT Y old σ σV (dZ vs) (bT vs) b) r u) :
 Ro X.K RT Y old σ σV H H' (iI vs r) u:=by
 obtain⟨d,fr,pa⟩:=r
 have key:∀b,exV RT Y old σ σV (iI vs (d,fr,pa)).pa (iI vs (d,fr,pa)).al b->(H1 b≠none/\exV RT Y old σ σV (dZ vs) (bT vs) b)\/(pa=false/\H1 b≠none):=by
  intro b z
  have tk:=exV.trk S1 z
  cases pa with
  | true=>exact .inl ⟨tk,z⟩
  | false=>exact .inr ⟨rfl,tk⟩
 have efr:(iI vs (d,fr,pa)).fr=fr:=by unfold iI;split <;> rfl
 have ed:(iI vs (d,fr,pa)).d=d:=by unfold iI;split <;> rfl
 refine⟨s1.trans s',?_⟩
 rw[efr]
 unfold Rr at h
 cases fr with
 | true=>
  rw[if_pos rfl] at h ⊢
  obtain⟨a,xs,ds,e1,e2,e3,e4,rr⟩:=h
  exact⟨a,xs,ds,e1,by rw[ed];exact e2,s1.free e3,e4,rr.weak λb z=>z.elim (λz=>.inl z) λz=>.inr (key b z)⟩
 | false=>
  rw[if_neg bN] at h ⊢
  unfold Rv
  rw[ed]
  exact Rep.weak h key
theorem aDE{f:Nat}{cs:Es}{σV:L2.St}{H:Hp}{Q:VK}(S:Sx X.K RT Y old σ σV H)(h:RE (ev P (call P n) σ (.call f cs)) (Wn X RT Y old σ σV H Q)) :
 WA X P n RT Y old σ cs σV H λus H1=>spF X.K P n f (us++[]) H1 (λv H'=>Tk X.K H'->Q v H') E0:=by
 have h:=RE.bind' (show RE (evs P (call P n) σ cs >>= λvs=>call P n f (vs.map (·.d)) >>= λr=>R.ok (iI vs r)) _ from h)
 refine⟨S,h.mono λvs hv us H1 t1 s1 r1=>?_⟩
 have S1:=S.grow s1 t1
 refine⟨vs.map (·.d),λb=>H1 b≠none/\exV RT Y old σ σV (dZ vs) (bT vs) b,λa z=>z.1,by rw[Ch];exact r1.all.weak λa z=>z.2,(RE.bind' hv).mono λr hr u H' t' s' rr _=>?_⟩
 exact(show Wn X RT Y old σ σV H Q (iI vs r) from hr) u H' t' (aFY S1 s1 s' rr)
theorem aIh(M:Mc X P Γ n){f:Nat}{cs:Es}{x:Str}{p:Pos}{es:List Expr}(hf:Γ.fns[f]? = some x)(hg:dR Γ x=true)(ho:dA x=true)(ha:PA X es (WA X P n RT Y old σ cs))(hp:es.all bK=true)(hc:chkEs Γ cs es=true) :
 PE X (.Call (.Name x p) es [] pos) (WE X P n RT Y old σ (.call f cs)):=by
 obtain⟨fa,fd,ps,h1,h2,h3,h4⟩:=M.md.fn f x hf
 cases es with
 | cons e es=>
  have hp':bK e=true/\es.all bK=true:=by simpa using hp
  exact(aFD h4 M.room (M.gl hg) h1 h2 h3 .nil aGR ha (bC ho) (aE hp'.1) (dB hp'.2)).imp λσV H Q t ⟨S,h⟩=>aDE S h
 | nil=>
  cases cs with
  | k _ _=>cases hc
  | z=>
   refine(aDh h4 M.room (M.gl hg) h1 h2 h3 .nil aGR (bC ho)).imp λσV H Q t ⟨S,h⟩=>?_
   exact(aDE S h).2 [] H t (aX.refl H) rfl
theorem aIi(M:Mc X P Γ n){i:Nat}{a:E}{m x:Str}{p ap:Pos}{ea:Expr}(hm:m=("get" : Str))(hx:Γ.tbs[i]? = some x)(hg:dR Γ x=true)(ho:dA x=true)(hl:(ap.endLine==pos.line)=true)
 (ha:PE X ea (WE X P n RT Y old σ a)) (hp:bK ea=true):PE X (.Call (.Attribute (.Name x p) m ap) [ea] [] pos) (WE X P n RT Y old σ (.tget i a)):=by
 subst hm
 obtain⟨b,t,h1,h2,h3⟩:=M.md.tab i x hx
 refine(aFP h3 (M.gl hg) h1 (bC ho) ha hl (aE hp)).imp λσV H Q tk ⟨S,h⟩=>?_
 have h:=RE.bind' (show RE (ev P (call P n) σ a >>= λx=>(match x.d,P.tabs[i]? with|.str k,some t=>R.ok (Vl.cl ((t.lookup k).getD .non))|_,_=>.bad)) _ from h)
 refine wE.one S h λy u H1 hy t1 S1 r1=>?_
 rw[h2] at hy
 cases hd:y.d with
 | str k=>
  rw[hd] at hy
  have hu:u=.str k:=by
   have z:=r1.rv S
   unfold Rv at z
   rw[hd] at z
   exact z
  exact⟨k,hu,λv hv t'=>(show Wn X RT Y old σ σV H Q (Vl.cl ((t.lookup k).getD .non)) from hy) v H1 t' (Ro.val r1.1 (hv H1))⟩
 | _=>rw[hd] at hy;exact hy.elim
theorem aCb{c:Cl}{cv:Value}{x:Str}(hc:wW c=some cv)(hx:zO Γ c=some x):bootBuiltins x=some cv/\x∈bltNames/\x ≠ "__name__" := by
 cases c <;> cases hc <;> cases hx <;> exact⟨by kernel_rfl,by decide +kernel,by decide +kernel⟩
theorem aKV(M:Mc X P Γ n){a:E}{c:Cl}{cv:Value}{f x:Str}{pf py:Pos}{ea:Expr}(hf:f=("isinstance" : Str))(hg:dR Γ f=true)(hc:wW c=some cv)(hx:zO Γ c=some x)(hgx:dR Γ x=true)(hox:dA x=true)
 (ha:PE X ea (WE X P n RT Y old σ a)) (hp:bK ea=true):PE X (.Call (.Name f pf) [ea,.Name x py] [] pos) (WE X P n RT Y old σ (.isi a [c])):=by
 subst hf
 intro pins s σV H Q I hw
 obtain⟨S,h⟩:=hw
 have h:=RE.bind' (show RE (ev P (call P n) σ a >>= λx=>(match isI [c] P x.d with|some k=>R.ok (Vl.cl (.bl k))|none=>.bad)) _ from h)
 obtain⟨b1,b2,b3⟩:=aCb hc hx
 refine B4 (fL I (M.gl hg) (M.md.blt _ (by decide +kernel)) (show bootBuiltins "isinstance" = some (.builtin "isinstance") by kernel_rfl) ?_ (by decide +kernel) (by decide +kernel))
 refine Cw ?_ (aE hp) rfl
 rw[aE hp]
 show wpAny _ _ (spliced ((false,eval ea X.env)::backTo pos (starEach [.Name x py] X.env))) _ _ s
 refine Dj (thn (ha pins s σV H (λu H1=>∃y k,Rv X.K RT Y old σ σV H1 y u/\isI [c] P y.d=some k/\Q (.bl k) H1) I (wE.one S h λy u H1 hy t1 S1 r1=>?_)) λv s1 ⟨u,H1,I1,ru,y,k,hy,hk,q⟩=>?_)
 . split at hy
   . rename_i k hk
     exact⟨y,k,r1.rv S,hk,(show Wn X RT Y old σ σV H Q (Vl.cl (.bl k)) from hy) _ _ t1 (Ro.cl r1.1 rfl)⟩
   . exact hy.elim
 . show wpAny _ _ (spliced ((false,eval (.Name x py) X.env)::backTo pos (starEach [] X.env))) _ _ s1
   refine Dj (fL I1 (M.gl hgx) (M.md.blt _ b2) b1 (D5 ?_) b3 (bC hox))
   exact aCa P I1 ru hy hc hk q
end
section
variable {X:Cx} {P:Pg} {n:Nat} {RT Y old:Addr->Prop} {σ:Sg} {pos:Pos}
end
section
variable {X:Cx} {P:Pg} {Γ:Ct} {n:Nat} {RT Y old:Addr->Prop} {σ:Sg} {pos:Pos}
theorem pZ{o o':CmpOp}{eb ec:Expr}(hq:bK ec=true):lastMarks [o,o'] [eb,ec]=false:=pY hq
theorem aIj(M:Mc X P Γ n){o o':CmpOp}{a b c:E}{ea eb ec:Expr}(ha:PE X ea (WE X P n RT Y old σ a))(hb:PE X eb (WE X P n RT Y old σ b))(hc:PE X ec (WE X P n RT Y old σ c))(hq:bK ec=true) :
 PE X (.Compare ea [o,o'] [eb,ec] pos) (WE X P n RT Y old σ (.cmp2 o o' a b c)):=by
 refine(aDc (jY (RT:=RT) (Y:=Y) (old:=old) M o) (jY (RT:=RT) (Y:=Y) (old:=old) M o') ha hb hc (pZ hq)).imp λσV H Q t ⟨S,h⟩=>?_
 have h:=RE.bind' (show RE (ev P (call P n) σ a >>= λx=>ev P (call P n) σ b >>= λy=>(match cG o x.d y.d with
  | some true=>ev P (call P n) σ c >>= λz=>(match cG o' y.d z.d with|some k=>R.ok (Vl.cl (.bl k))|none=>.bad)
  | some false=>R.ok (Vl.cl (.bl false))
  | none=>.bad)) _ from h)
 refine wE.two S (h.mono λx hx=>RE.bind' hx) λx y ux uy H2 hp t2 s2 S2 hx hy=>?_
 split at hp
 . rename_i hk
   refine⟨σ,σV,x,y,true,hx,hy,hk,true,rfl,?_⟩
   rw[if_pos rfl]
   refine wE.one S2 (RE.bind' hp) λz u H3 hz t3 S3 r3=>?_
   split at hz
   . rename_i k' hk'
     exact⟨σ,σV,y,z,k',hy.grow r3.1,r3.rv S2,hk',λt'=>hz _ _ t' (Ro.cl (s2.trans r3.1) rfl)⟩
   . exact hz.elim
 . rename_i hk
   refine⟨σ,σV,x,y,false,hx,hy,hk,false,rfl,?_⟩
   rw[if_neg bN]
   exact λt'=>hp _ _ t' (Ro.cl s2 rfl)
 . exact hp.elim
theorem aIk(M:Mc X P Γ n){o o':CmpOp}{a b c:E}{ea eb ec:Expr}(ha:PE X ea (WE X P n RT Y old σ a))(hb:PE X eb (WE X P n RT Y old σ b))(hc:PE X ec (WE X P n RT Y old σ c))(hq:bK ec=true) :
 PT X (.Compare ea [o,o'] [eb,ec] pos) (WT X P n RT Y old σ (.cmp2 o o' a b c)):=by
 refine(aDd (jY (RT:=RT) (Y:=Y) (old:=old) M o) (jY (RT:=RT) (Y:=Y) (old:=old) M o') ha hb hc (pZ hq)).imp λσV H Q t ⟨S,h⟩=>?_
 have h:=RE.bind' (show RE (ev P (call P n) σ a >>= λx=>ev P (call P n) σ b >>= λy=>(match cG o x.d y.d with
  | some true=>ev P (call P n) σ c >>= λz=>(match cG o' y.d z.d with|some k=>R.ok k|none=>.bad)
  | some false=>R.ok false
  | none=>.bad)) _ from h)
 refine wE.two S (h.mono λx hx=>RE.bind' hx) λx y ux uy H2 hp t2 s2 S2 hx hy=>?_
 split at hp
 . rename_i hk
   refine⟨σ,σV,x,y,true,hx,hy,hk,true,rfl,?_⟩
   rw[if_pos rfl]
   refine wE.one S2 (RE.bind' hp) λz u H3 hz t3 S3 r3=>?_
   split at hz
   . rename_i k' hk'
     exact⟨σ,σV,y,z,k',hy.grow r3.1,r3.rv S2,hk',k',rfl,λt'=>hz _ t' (s2.trans r3.1)⟩
   . exact hz.elim
 . rename_i hk
   refine⟨σ,σV,x,y,false,hx,hy,hk,false,rfl,?_⟩
   rw[if_neg bN]
   exact⟨false,rfl,λt'=>hp _ t' s2⟩
 . exact hp.elim
theorem dF{a:E}{ea:Expr}(ha:PT X ea (WT X P n RT Y old σ a)):PT X (.UnaryOp .Not ea pos) (WT X P n RT Y old σ (.nt a)):=by
 refine(aHy ha).imp λσV H Q t ⟨S,h⟩=>?_
 have h:=RE.bind' (show RE (tst P (call P n) σ a >>= λx=>R.ok (!x)) _ from h)
 exact⟨S,h.mono λk hk H1 t1 s1 t'=>(show ∀H',Tk X.K H'->aX H H'->Q (!k) H' from hk) _ t' s1⟩
theorem aDF{e:Expr}{t t':TT}(h:PW X e t)(f:∀σV H Q,Tk X.K H->t' σV H Q->t σV H λv H'=>Tk X.K H'->Q v H'):PW X e t':=λwh pins s σV H Q I hw=>
 thn (h wh pins s σV H _ I (f σV H Q I.tk hw)) λk s' ⟨H',I',q⟩=>⟨H',I',q I'.tk⟩
theorem aKW{a b:E}{ea eb:Expr}{r:List Expr}(ha:PT X ea (WT X P n RT Y old σ a))(hb:PW X (.BoolOp .And (eb::r) pos) (WT X P n RT Y old σ b)):PW X (.BoolOp .And (ea::eb::r) pos) (WT X P n RT Y old σ (.an a b)):=by
 refine aDF (aHx ha hb) λσV H Q t ⟨S,h⟩=>?_
 have h:=RE.bind' (show RE (tst P (call P n) σ a >>= λx=>if x=true then tst P (call P n) σ b else R.ok false) _ from h)
 refine⟨S,h.mono λk hk H1 t1 s1=>?_⟩
 cases k with
 | true=>rw[if_pos rfl] at hk ⊢;exact⟨S.grow s1 t1,hk.mono λv hv H' t s' _=>hv H' t (s1.trans s')⟩
 | false=>rw[if_neg bN] at hk ⊢;exact λt'=>(show ∀H',Tk X.K H'->aX H H'->Q false H' from hk) _ t' s1
theorem aHa{a b:E}{ea eb:Expr}{r:List Expr}(ha:PT X ea (WT X P n RT Y old σ a))(hb:PW X (.BoolOp .Or (eb::r) pos) (WT X P n RT Y old σ b)):PW X (.BoolOp .Or (ea::eb::r) pos) (WT X P n RT Y old σ (.orr a b)):=by
 refine aDF (aJR ha hb) λσV H Q t ⟨S,h⟩=>?_
 have h:=RE.bind' (show RE (tst P (call P n) σ a >>= λx=>if x=true then R.ok true else tst P (call P n) σ b) _ from h)
 refine⟨S,h.mono λk hk H1 t1 s1=>?_⟩
 cases k with
 | true=>rw[if_pos rfl] at hk ⊢;exact λt'=>(show ∀H',Tk X.K H'->aX H H'->Q true H' from hk) _ t' s1
 | false=>rw[if_neg bN] at hk ⊢;exact⟨S.grow s1 t1,hk.mono λv hv H' t s' _=>hv H' t (s1.trans s')⟩
def wO(X:Cx)(P:Pg)(n:Nat)(RT Y old:Addr->Prop)(σ:Sg)(cs:Es):TO:=λσV H Q=>Sx X.K RT Y old σ σV H/\RE (evs P (call P n) σ cs) λvs=>
 (vs=[]/\∀H',Tk X.K H'->aX H H'->Q none H')\/∃v i,vs=[v]/\v.d=.int i/\∀H',Tk X.K H'->aX H H'->Q (some i) H'
theorem aDG{e:Option Expr}{t t':TO}(h:PO X e t)(f:∀σV H Q,Tk X.K H->t' σV H Q->t σV H λv H'=>Tk X.K H'->Q v H'):PO X e t':=λpins s σV H Q I hw=>
 thn (h pins s σV H _ I (f σV H Q I.tk hw)) λu s' ⟨o,H',I',r,q⟩=>⟨o,H',I',r,q I'.tk⟩
theorem aKX:PO X none (wO X P n RT Y old σ .z):=aDG aFF λσV H Q t ⟨S,h⟩ t'=>by
 rcases(show([]:List Vl)=[]/\_\/_ from h) with⟨_,q⟩|⟨v,i,e,_⟩
 . exact q H t' (aX.refl H)
 . cases e
theorem aKY{c:E}{e:Expr}(ha:PE X e (WE X P n RT Y old σ c)):PO X (some e) (wO X P n RT Y old σ (.k c .z)):=by
 refine aDG (aFG ha) λσV H Q t ⟨S,h⟩=>?_
 have h:=RE.bind' (show RE (ev P (call P n) σ c >>= λx=>evs P (call P n) σ .z >>= λxs=>R.ok (x::xs)) _ from h)
 refine wE.one S h λx u H1 hx t1 S1 r1=>?_
 rcases(show([x]:List Vl)=[]/\_\/∃v i,([x]:List Vl)=[v]/\_/\_ from hx) with⟨e,_⟩|⟨v,i,e,hd,q⟩
 . cases e
 . cases e
   exact⟨i,(r1.rv S).int hd,λt'=>q _ t' r1.1⟩
theorem aKZ{a:E}{lo hi:Es}{ea:Expr}{el eh:Option Expr}{p2:Pos}(ha:PE X ea (WE X P n RT Y old σ a))(hl:PO X el (wO X P n RT Y old σ lo))(hh:PO X eh (wO X P n RT Y old σ hi)) :
 PE X (.Subscript ea (.Slice el eh none p2) pos) (WE X P n RT Y old σ (.sli a lo hi)):=by
 refine(aDj (aIf (X:=X)) ha hl hh).imp λσV H Q t ⟨S,h⟩=>?_
 have h:=RE.bind' (show RE (ev P (call P n) σ a >>= λx=>evs P (call P n) σ lo >>= λl=>evs P (call P n) σ hi >>= λh=>(match l,h with
  | [],[]=>dQ x none none
  | [l],[]=>(match l.d with|.int l=>R.iff (aN l) (dQ x (some l) none)|_=>.bad)
  | [],[h]=>(match h.d with|.int h=>R.iff (aN h) (dQ x none (some h))|_=>.bad)
  | [l],[h]=>(match l.d,h.d with|.int l,.int h=>R.iff (aN l&&aN h) (dQ x (some l) (some h))|_,_=>.bad)
  | _,_=>.bad)) _ from h)
 refine wE.one S h λx u H1 hx t1 S1 r1=>?_
 have hx:=RE.bind' hx
 refine⟨S1,hx.mono λl hl=>?_⟩
 have hl:=RE.bind' hl
 have up:∀(L:Option Int) (H2:Hp),Tk X.K H2->aX H1 H2->(RE (evs P (call P n) σ hi) λh=>(h=[]/\RE (dQ x L none) (Wn X RT Y old σ σV H Q))\/∃v i,h=[v]/\v.d=.int i/\RE (dQ x L (some i)) (Wn X RT Y old σ σV H Q)) ->
  wO X P n RT Y old σ hi σV H2 λhv H3=>aDm X.K u L hv H3 (λv H'=>Tk X.K H'->Q v H')\/aDk X.K u L hv H3 (λv H'=>Tk X.K H'->Q v H')\/wV X.K u L hv H3 (λv H'=>Tk X.K H'->Q v H')\/aDv u L hv H3 (λv H'=>Tk X.K H'->Q v H'):=by
  intro L H2 t2 s2 hh
  refine⟨S1.grow s2 t2,hh.mono λhv hq=>?_⟩
  have fin:∀(U:Option Int) (H3:Hp),Tk X.K H3->aX H2 H3->RE (dQ x L U) (Wn X RT Y old σ σV H Q) ->
   aDm X.K u L U H3 (λv H'=>Tk X.K H'->Q v H')\/aDk X.K u L U H3 (λv H'=>Tk X.K H'->Q v H')\/wV X.K u L U H3 (λv H'=>Tk X.K H'->Q v H')\/aDv u L U H3 (λv H'=>Tk X.K H'->Q v H'):=λU H3 t3 s3 hs=>
   aBX (S1.grow (s2.trans s3) t3) t3 ((r1.rv S).grow (s2.trans s3)) (hs.mono λv hv u H' t r=>hv u H' t (r.from (r1.1.trans (s2.trans s3))))
  rcases hq with⟨e,hs⟩|⟨v,i,e,hd,hs⟩
  . exact .inl ⟨e,λH3 t3 s3=>fin none H3 t3 s3 hs⟩
  . exact .inr ⟨v,i,e,hd,λH3 t3 s3=>fin (some i) H3 t3 s3 hs⟩
 match l,hl with
 | [],hl=>
  refine .inl ⟨rfl,λH2 t2 s2=>up none H2 t2 s2 (hl.mono λh hh=>?_)⟩
  match h,hh with
  | [],hh=>exact .inl ⟨rfl,hh⟩
  | [h],hh=>
   have hh:RE (match h.d with|.int h=>R.iff (aN h) (dQ x none (some h))|_=>.bad) _:=hh
   split at hh
   . rename_i i hd
     exact .inr ⟨h,i,rfl,hd,hh.iff.2⟩
   . exact hh.elim
  | _::_::_,hh=>exact hh.elim
 | [l],hl=>
  have hd:∃i,l.d=.int i:=by
   obtain⟨h,_,hh⟩:=hl.eq
   match h,hh with
   | [],hh=>
    have hh:RE (match l.d with|.int l=>R.iff (aN l) (dQ x (some l) none)|_=>.bad) _:=hh
    split at hh
    . rename_i i hd;exact⟨i,hd⟩
    . exact hh.elim
   | [h],hh=>
    have hh:RE (match l.d,h.d with|.int l,.int h=>R.iff (aN l&&aN h) (dQ x (some l) (some h))|_,_=>.bad) _:=hh
    split at hh
    . rename_i i j hd _;exact⟨i,hd⟩
    . exact hh.elim
   | _::_::_,hh=>exact hh.elim
  obtain⟨i,hd⟩:=hd
  refine .inr ⟨l,i,rfl,hd,λH2 t2 s2=>up (some i) H2 t2 s2 (hl.mono λh hh=>?_)⟩
  match h,hh with
  | [],hh=>
   have hh:RE (match l.d with|.int l=>R.iff (aN l) (dQ x (some l) none)|_=>.bad) _:=hh
   rw[hd] at hh
   exact .inl ⟨rfl,hh.iff.2⟩
  | [h],hh=>
   have hh:RE (match l.d,h.d with|.int l,.int h=>R.iff (aN l&&aN h) (dQ x (some l) (some h))|_,_=>.bad) _:=hh
   rw[hd] at hh
   split at hh
   . rename_i i' j e1 e2
     cases e1
     exact .inr ⟨h,j,rfl,e2,hh.iff.2⟩
   . exact hh.elim
  | _::_::_,hh=>exact hh.elim
 | _::_::_,hl=>exact(by
     obtain⟨h,_,hh⟩:=hl.eq
     match h,hh with
     | [],hh=>exact hh.elim
     | [_],hh=>exact hh.elim
     | _::_::_,hh=>exact hh.elim)
end
end Hp
end
noncomputable section
namespace L2
open PySem PySem.Spec PyProof.Rows
set_option maxRecDepth 100000
instance:LawfulBEq Key where
 eq_of_beq:=λ{a b} h=>by
  cases a with
  | inl x=>cases b with
   | inl y=>exact congrArg Sum.inl (eq_of_beq (show(x==y)=true from h))
   | inr y=>cases h
  | inr x=>cases b with
   | inl y=>cases h
   | inr y=>exact congrArg Sum.inr (eq_of_beq (show(x==y)=true from h))
 rfl:=λ{a}=>by
  cases a with
  | inl x=>exact(Bm x:(x==x)=true)
  | inr x=>exact(Bm x:(x==x)=true)
def lV(σ:List Key)(v:Key):List Key:=if σ.any (·==v) then σ else σ++[v]
def eC(ks:List Key):List Key:=ks.foldl lV []
theorem nY(ks:List Key)(k:Key):eC (ks++[k])=lV (eC ks) k:=by unfold eC;rw[Ds];rfl
theorem aCc(σ:List Key)(v k:Key):(lV σ v).any (·==k)=(σ.any (·==k)||decide (k=v)):=by
 unfold lV
 by_cases h:σ.any (·==v)=true
 . rw[if_pos h]
   by_cases e:k=v
   . subst e;rw[h];simp
   . simp[e]
 . rw[if_neg h,List.any_append]
   by_cases e:k=v
   . subst e;simp
   . have hb:(v==k)=false:=by
      cases q:v==k with
      | false=>rfl
      | true=>exact absurd (eq_of_beq q).symm e
     simp[hb,e]
theorem sP(σ:List Key)(v:Key):(lV σ v).length=if σ.any (·==v)=true then σ.length else σ.length+1:=by
 unfold lV
 split <;> simp
theorem sQ:∀(ks:List Key) (σ:List Key),(ks.foldl lV σ).length<=σ.length+ks.length
 | [],σ=>by simp
 | k::ks,σ=>by
  have h1:=sQ ks (lV σ k)
  have h2:(lV σ k).length<=σ.length+1:=by
   rw[sP]
   split <;> omega
  rw[B6,lC]
  omega
def aDH(prog:Program)(w:World)(vs:List Value)(ks:List Key):Prop:=Paired (λv k=>(bS prog w).is k v=true) vs ks
theorem aDH.get{prog:Program}{w:World}:∀{vs:List Value} {ks:List Key},aDH prog w vs ks->∀{i:Nat} {v:Value},vs[i]? = some v->∃k,ks[i]? = some k/\(bS prog w).is k v=true
 | _,_,.nil,_,_,h=>by simp at h
 | _,_,.cons r _,0,_,h=>by simp at h;subst h;exact⟨_,rfl,r⟩
 | _,_,.cons _ t,i+1,v,h=>by
  obtain⟨k,h1,h2⟩:=aDH.get t (i:=i) (v:=v) (by simpa using h)
  exact⟨k,by simpa using h1,h2⟩
theorem aFZ{prog:Program}{w:World}{k:Key}{v:Value}(h:(bS prog w).is k v=true):v.scannable=true:=by
 rcases keyIs_shape h with⟨i,t,rfl,rfl⟩|⟨x,t,rfl,rfl⟩ <;> rfl
section
variable {prog:Program} {w:World} {A:Around} {R:Result->Shared->Prop} {I:Addr} {fp wr:List Addr} {G:Array GenState->Array GenState->Prop} {n:Nat} {P:Nat->Value->Prop} {St:Nat->Shared->Prop}
theorem aCd(W:WalksS prog w A.in1 I fp wr G n P St)(S:Addr)(hSf:S∉fp)(ks:List Key)(hval:∀i v,P i v->∃k,ks[i]? = some k/\(bS prog w).is k v=true)(hn:ks.length=n)(hb:n+1<scanBound) :
 ∀(m i:Nat) (s:Shared),n-i=m->i<=n->St i s ->
  s.heap.SetOf (bS prog w) S (λk'=>(eC (ks.take i)).any (·==k')) (eC (ks.take i)).length ->
  (∀s',Moved (S::wr) G s s'->s'.heap.SetOf (bS prog w) S (λk'=>(eC ks).any (·==k')) (eC ks).length->R (.ok (.ret .none)) s') ->
  codeAny (model prog w) A (.builtin "set.update.loop" ⟨[.ref S,.ref I],[]⟩) R s:=by
 have nw:S∉wr:=λh=>hSf (W.sub _ h)
 have sb:∀b∈wr,b∈S::wr:=λb hb=>Ag _ hb
 have stay:∀{s s':Shared} {T:Key->Bool} {c:Nat},Moved wr G s s'->s.heap.SetOf (bS prog w) S T c->s'.heap.SetOf (bS prog w) S T c:=λhm hS=>by
  obtain⟨o,es,ep,t,ho,rest⟩:=hS
  exact⟨o,es,ep,t,hm.heap S _ nw ho,rest⟩
 intro m
 induction m with
 | zero=>
  intro i s hk hi hst hS hR
  obtain rfl:i=n:=by omega
  refine Cs Ca ?_
  rw[Cj Bj _]
  show wpAny _ A.in1 (pyNext (.ref I) >>= _) _ _ s
  refine Aa (W.done s _ _ hst λs' hm=>?_)
  show wpAny _ A.in1 (ret Value.none) _ _ s'
  rw[Bv (by omega)] at hS
  exact Ac (hR s' (hm.mono sb) (stay hm hS))
 | succ m ih=>
  intro i s hk hi hst hS hR
  have hlt:i<n:=by omega
  refine Cs Ca ?_
  rw[Cj Bj _]
  show wpAny _ A.in1 (pyNext (.ref I) >>= _) _ _ s
  refine Aa (W.item i s _ _ hlt hst λv s' hP hst' hm=>?_)
  obtain⟨k,hk1,hk2⟩:=hval i v hP
  have hS':=stay hm hS
  have htk:ks.take (i+1)=ks.take i++[k]:=by
   rw[List.take_succ,hk1];rfl
  show wpAny _ A.in1 (holding [v] (setAdd S v) >>= _) _ _ s'
  refine Aa (Bp ?_)
  unfold setAdd
  refine Bp ?_
  have hroom:(eC (ks.take i)).length+1<scanBound:=by
   have h1:=sQ (ks.take i) []
   have h2:(ks.take i).length<=i:=by rw[A2];omega
   unfold eC
   simp only[lN] at h1
   omega
  refine Aa ((bS prog w).pyHash hk2 ?_)
  refine wpAny_setAddHashed_of (knd:=bS prog w) (s:={ s' with toks:=s'.toks+1 }) hk2 (aFZ hk2) hS' hroom λh' hsb hS2=>?_
  have hSi:h'.SetOf (bS prog w) S (λk'=>(eC (ks.take (i+1))).any (·==k')) (eC (ks.take (i+1))).length:=
   SetOf_congr hS2 (λk'=>by rw[htk,nY,aCc]) (by rw[htk,nY,sP])
  refine Ac ⟨plainId_quiet Bj _,ih (i+1) _ (by omega) hlt (W.frame _ s' _ _ hst' (Dt _) λb hb o e=>?_) hSi λs'' hm'' hS''=>?_⟩
  . rw[hsb.2 b λh:b=S=>hSf (by rw[<-h];exact hb)];exact e
  . refine hR s'' (Moved.trans W.gtrans ((hm.mono sb).then_heap (Dt _) λb o hb e=>?_) hm'') hS''
    rw[hsb.2 b λh:b=S=>hb (by rw[h];exact Al)];exact e
end
section
variable {prog:Program} {w:World} {A:Around} {E:Value->Shared->Prop} {s:Shared}
set_option maxHeartbeats 3200000 in
theorem aCe{l:Addr}{items:Array Value}{ks:List Key}{Q:Value->Shared->Prop}(hh:A.handled=none)(hl:s.heap.IsList l items)(hi:aDH prog w items.toList ks)(hn:ks.length=items.size)(hb:items.size+1<scanBound)
 (h:∀(h':Heap) (tk:Nat),h'.SetOf (bS prog w) s.heap.objs.size (λk'=>(eC ks).any (·==k')) (eC ks).length ->
  (∀b o,b<s.heap.objs.size->s.heap.get? b=some o->h'.get? b=some o)->Q (.ref s.heap.objs.size) { s with heap:=h',toks:=tk }) :
 wpAny (model prog w) A (call (.type "set") [.ref l]) Q E s:=by
 obtain⟨c,tl,hmro⟩:=A7.mro
 have hmade:=A7.made
 have hsub:=A7.sub
 refine wpAny_call (codeAny_of_tree ?_)
 show wpAny _ _ (callAny (.type "set") _) _ _ _
 refine Ac ⟨Code.quiet_builtin _ (by decide +kernel),Cs F.entry_type_call ?_⟩
 rw[Around.under_plain (weight_type_call_type "set" [.ref l] []) rfl]
 have h1:=A7.notType
 have h2:=A7.canCreate
 have hct:=PySem.F.typeCall_set_1 (.ref l)
 repeat (any_goals (first|assumption|wp_step))
 refine Du (code_set_new_1 (.ref l) (E:=E) (Q₁:=λobj s₁=>∃led:Bool,obj=.ref s.heap.objs.size/\s₁={ s with heap:=s.heap.push { cls:=.type "set",dict:=none,data:=.set #[] 0 (.fresh 0 0 led) } }) λled=>⟨led,rfl,rfl⟩) λr s₁ hr=>?_
 cases r with
 | error e=>exact hr
 | ok fl=>
  cases fl with
  | ret obj=>
   obtain⟨led,rfl,rfl⟩:=hr
   have hS:(s.heap.push { cls:=.type "set",dict:=none,data:=.set #[] 0 (.fresh 0 0 led) }).get? s.heap.objs.size=some { cls:=.type "set",dict:=none,data:=.set #[] 0 (.fresh 0 0 led) }:=Ai _ rfl
   have hT:Shared.TypeIs { s with heap:=s.heap.push { cls:=.type "set",dict:=none,data:=.set #[] 0 (.fresh 0 0 led) } } (.ref s.heap.objs.size) "set" := ⟨_,hS,rfl⟩
   have hli:=A7.init.lookup
   have hbi:=A7.init.bind (.ref s.heap.objs.size)
   repeat (any_goals (first|assumption|wp_step))
   refine Du (codeAny_call_builtin (R:=wants (λr s₂=>r=.none/\∃h' tk,s₂={ s with heap:=h',toks:=tk } /\
    h'.SetOf (bS prog w) s.heap.objs.size (λk'=>(eC ks).any (·==k')) (eC ks).length /\
    (∀b o,b<s.heap.objs.size->s.heap.get? b=some o->h'.get? b=some o)) E) A7.init.plain F.entry_set_init (check_set_init_1 hT ?_)) λr₂ s₂ hr₂=>?_
   . obtain⟨ol,hol,hcl,nl,hdl⟩:=hl
     obtain⟨ocls,odict,odata,oslots⟩:=ol
     simp only at hcl hdl
     subst hcl;subst hdl
     have hol':(s.heap.push { cls:=.type "set",dict:=none,data:=.set #[] 0 (.fresh 0 0 led) }).get? l=some { cls:=.type "list",dict:=odict,data:=.seq items nl,slots:=oslots }:=Ab _ hol
     have hsls:=PySem.F.sub_list_set
     have hslf:=PySem.F.sub_list_frozenset
     have hne:(Value.type "list" == Value.type "dict")=false:=by decide
     have hl1:(s.heap.push { cls:=.type "set",dict:=none,data:=.set #[] 0 (.fresh 0 0 led) }).IsList l items:=⟨_,hol',rfl,nl,rfl⟩
     unfold Builtin.«set.__init__» noKeywords Builtin.Frozenset.updateFrom
     generalize hPI:pyIter=PI
     wp_walk
     subst hPI
     refine C0 hl1 ?_
     refine Aa (wpAny_runValue ?_)
     have hlS:l<s.heap.objs.size:=Ah hol
     have hh3:A.in1.in1.in1.handled=none:=by simp[hh]
     have hsz:(s.heap.push { cls:=.type "set",dict:=none,data:=.set #[] 0 (.fresh 0 0 led) }).objs.size=s.heap.objs.size+1:=B1 _ _
     refine aCd ((Walks.list hh3 _ l (by rw[hsz];exact Ao (B3 hlS)) items).toS) s.heap.objs.size
      (by
       rw[hsz]
       intro z
       rcases An.mp z with q|q
       . exact absurd q (Ao (Cy _))
       . exact absurd (Av.mp q) (Cg hlS)) ks
      (λi v hv=>hi.get (by rw[C7];exact hv)) hn hb (items.size-0) 0 _ (by omega) (B5 _)
      ⟨⟨_,Ai _ rfl,rfl,rfl⟩,(hl1.push _)⟩ ?hS0 ?hR
     case hS0=>
      have hget:((s.heap.push { cls:=.type "set",dict:=none,data:=.set #[] 0 (.fresh 0 0 led) }).push { cls:=.type "list_iterator",data:=.fields #[.ref l,.int 0 0] }).get? s.heap.objs.size
       = some { cls:=.type "set",dict:=none,data:=.set #[] 0 (.fresh 0 0 led) }:=Ab _ hS
      exact SetOf_congr ((setObjOf_fresh (knd:=bS prog w) led).setOf hget (by unfold scanBound;omega)) (λ_=>rfl) rfl
     case hR=>
      intro s' hm hS'
      obtain⟨h',g',d',tk',os'⟩:=s'
      have eg:g'=s.gens:=hm.gens
      have ed:d'=s.drawn:=hm.drawn
      have eo:os'=s.os:=hm.os
      subst eg;subst ed;subst eo
      show wpAny _ _ _ _ _ _
      refine Ac ?_
      show wpAny _ _ (ret Value.none) _ _ _
      refine Ac ⟨rfl,h',tk',rfl,hS',λb o hb e=>?_⟩
      refine hm.heap b o ?_ (Ab _ (Ab _ e))
      rw[hsz]
      intro z
      rcases An.mp z with q|q
      . exact absurd q (Ao hb)
      . exact absurd (Av.mp q) (Ao (B3 hb))
   . cases r₂ with
     | error e=>exact hr₂
     | ok fl₂=>
      cases fl₂ with
      | ret r=>
       obtain⟨rfl,h',tk,rfl,hS',hk'⟩:=hr₂
       repeat (any_goals (first|assumption|wp_step))
       exact h _ _ hS' hk'
      | next=>exact hr₂
      | brk=>exact hr₂
      | cont=>exact hr₂
  | next=>exact hr
  | brk=>exact hr
  | cont=>exact hr
end
end L2
end
noncomputable section
namespace Hp
open PySem PySem.Spec PyProof.Rows L2
section
variable {X:Cx} {P:Pg} {Γ:Ct} {n:Nat} {RT Y old:Addr->Prop} {σ:Sg} {pos:Pos} {K:Fg} {H:Hp}
theorem nC{prog:Program}{w:World}:∀{ds:List D} {ks:List Key} {ex:Addr->Prop} {vs:List V} {us:List Value},gB ds=some ks->Reps K H ex ds vs->aU vs us->aDH prog w us ks/\ks.length=ds.length
 | [],ks,ex,vs,us,h,r,rv=>by
  cases h
  rw[show vs=[] from r] at rv
  cases rv
  exact⟨.nil,rfl⟩
 | d::ds,ks,ex,vs,us,h,r,rv=>by
  obtain⟨v,vr,e,h1,h2⟩:=r
  subst e
  cases rv with
  | cons r1 r2=>
   cases d with
   | str x=>
    unfold gB at h
    cases q:gB ds with
    | none=>rw[q] at h;cases h
    | some ys=>
     rw[q] at h
     cases h
     rw[show v=.str x from h1] at r1
     obtain⟨t,rfl⟩:=r1
     obtain⟨g1,g2⟩:=nC (prog:=prog) (w:=w) q h2 r2
     exact⟨.cons (wB prog w x t) g1,by rw[lC,lC,g2]⟩
   | int x=>
    unfold gB at h
    cases q:gB ds with
    | none=>rw[q] at h;cases h
    | some ys=>
     rw[q] at h
     cases h
     rw[show v=.int x from h1] at r1
     obtain⟨t,rfl⟩:=r1
     obtain⟨g1,g2⟩:=nC (prog:=prog) (w:=w) q h2 r2
     exact⟨.cons (vZ prog w x t) g1,by rw[lC,lC,g2]⟩
   | _=>cases h
theorem aDI(ks:List Key):pO ks=eC ks:=rfl
theorem aDJ(M:Mc X P Γ n){a:E}{ea:Expr}{f g:Str}{pf pg p2:Pos}(hf:f=("len" : Str))(hg:dR Γ f=true)(hf2:g=("set" : Str))(hg2:dR Γ g=true)(ha:PE X ea (WE X P n RT Y old σ a))(hp:bK ea=true) :
 PE X (.Call (.Name f pf) [.Call (.Name g pg) [ea] [] p2] [] pos) (WE X P n RT Y old σ (.numset a)):=by
 subst hf hf2
 intro pins s σV H Q I hw
 obtain⟨S,h⟩:=hw
 have h:=RE.bind' (show RE (ev P (call P n) σ a >>= λx=>(match x.d with
  | .lst ds=>(match gB ds with|some ks=>R.iff (decide (ds.length<=1000)) (R.ok (Vl.cl (.int (pO ks).length)))|none=>.bad)
  | _=>.bad)) _ from h)
 obtain⟨x,ex,h⟩:=h.eq
 cases hd:x.d with
 | lst ds=>
  rw[hd] at h
  cases hk:gB ds with
  | none=>simp only[hk] at h;exact h.elim
  | some ks=>
   simp only[hk] at h
   obtain⟨hl,h⟩:=h.iff
   have hl:=A9 hl
   refine B4 (fL I (M.gl hg) (M.md.blt _ (by decide +kernel)) PySem.boot_len ?_ (by decide +kernel) (by decide +kernel))
   refine Cw ?_ (aE (e:=.Call (.Name "set" pg) [ea] [] p2) (es:=[]) rfl) rfl
   rw[aE (e:=.Call (.Name "set" pg) [ea] [] p2) (es:=[]) rfl]
   show wpAny _ _ (spliced ((false,eval (.Call (.Name "set" pg) [ea] [] p2) X.env)::backTo pos (starEach [] X.env))) _ _ s
   refine Dj (B4 (fL I (M.gl hg2) (M.md.blt _ (by decide +kernel)) (show bootBuiltins "set" = some (.type "set") by kernel_rfl) ?_ (by decide +kernel) (by decide +kernel)))
   refine Bw (thn (jU (es:=[]) ha mX (aE hp) p2 pins s σV H (λus H1=>∃u,us=[u]/\Tk X.K H1/\Ro X.K RT Y old σ σV H H1 x u) I ⟨S,?_⟩) λus s1 ⟨vs,H1,I1,r1,u,e1,t1,ro⟩=>?_) (aE hp) rfl
   . rw[ex]
     intro u H1 t1 ro
     exact⟨u,rfl,t1,ro⟩
   . subst e1
     obtain⟨u',rfl,ru⟩:=r1.one
     obtain⟨b,xs,rfl,hS,_,rr⟩:=(ro.rv S).lst hd
     cases ru
     obtain⟨its,r2,p,_⟩:=I1.list hS
     obtain⟨hK,hKl⟩:=nC (prog:=X.prog) (w:=X.w) hk rr r2
     have l1:=rr.length
     have l2:=r2.length
     refine aCe (I1.ok.hd M.calm) p.isList (by simpa using hK) (by rw[Af];omega) (by rw[Af];unfold scanBound;omega) λh' tk hset hkeep=>?_
     have I2:L2.Inv X pins σV H1 { s1 with heap:=h',toks:=tk }:=I1.kept λb o e=>hkeep b o (Ah e) e
     refine D5 ?_
     obtain⟨o,es,ep,tb,ho,hex,hdt,_,_,hb,hfit,hn⟩:=hset
     have hsz:((es.size:Nat):Int)<2 ^ 63:=by unfold scanBound at hb;omega
     refine PySem.call_len_set ho hex hdt hfit hsz ?_
     refine⟨.int es.size,H1,I2.tok _,⟨_,rfl⟩,?_⟩
     rw[hn,<-aDI]
     exact(show Wn X RT Y old σ σV H Q (Vl.cl (.int (pO ks).length)) from h) _ _ t1 (Ro.cl ro.1 rfl)
 | _=>rw[hd] at h;exact h.elim
end
end Hp
end
noncomputable section
namespace L2
open PySem PySem.Spec PyProof.Rows
section
variable {X:Cx} {pins:List (Addr×Obj)} {σ:St} {H:Hp} {s:Shared} {h':Heap}
theorem Inv.turnsNew{its:List Addr}{T:Addr}{o:HO}{t':Nat}(I:Inv X pins σ H s)(f:∀b∈its,lO X pins H b)(k:∀b o,b∉its->s.heap.get? b=some o->h'.get? b=some o)(there:∀b∈its,∃o,h'.get? b=some o)
 (hT:s.heap.objs.size<=T) (new:fI X.prog X.w (upd H T o) h' T o):Inv X pins σ (upd H T o) { s with heap:=h',toks:=t' }:=by
 have nit:∀b u,H b=some u->b∉its:=λb u e z=>by rw[(f b z).1] at e;cases e
 have hn:H T=none:=I.hok.fresh hT
 have neT:∀b o,s.heap.get? b=some o->b≠T:=λb o e=>Ao (Ar (Ah e) hT)
 refine I.step (g':=s.gens) (d':=s.drawn) (ch:=its) (λb hb=>?_) (λb o _ _ hc e _=>k b o hc e) (λb o _ _ hc e _=>⟨o.slots,k b o hc e⟩) (λb o _ e n=>by rw[aZ (neT b o e)];exact n)
  (λb o hc e=>⟨o,k b o hc e⟩) (λb xs e=>by rw[aZ (bQ e hn)];exact e) (λb o u e=>by rw[aZ (bQ e hn)];exact e) (λb ps e=>⟨#[],by rw[aZ (bQ e hn),e];simp⟩) (λm hm=>?_) (λb u e=>?_) I.bare
 . obtain⟨_,f1,f2,f3,f4,f5⟩:=f b hb
   exact⟨f3,f1,f4,f5⟩
 . obtain⟨o,es,ep,ho,r⟩:=hm
   exact⟨o,es,ep,k _ o (λz=>(f _ z).2.1 rfl) ho,r⟩
 . by_cases hb:b=T
   . subst hb
     rw[cV] at e
     cases e
     exact new
   . rw[aZ hb] at e
     refine(I.hok b u e).stay (λc v hc q=>k c v ?_ q) (λc q=>by rw[aZ (bQ q hn)];exact q) λc xs q=>by rw[aZ (bQ q hn)];exact q
     rcases hc with z|z
     . rw[z];exact nit b u e
     . exact nit c _ z
theorem Inv.turns{its:List Addr}{t':Nat}(I:Inv X pins σ H s)(f:∀b∈its,lO X pins H b)(k:∀b o,b∉its->s.heap.get? b=some o->h'.get? b=some o):Inv X pins σ H { s with heap:=h',toks:=t' }:=by
 have nit:∀b u,H b=some u->b∉its:=λb u e z=>by rw[(f b z).1] at e;cases e
 refine I.step (g':=s.gens) (d':=s.drawn) (ch:=its) (λb hb=>?_) (λb o _ _ hc e _=>k b o hc e) (λb o _ _ hc e _=>⟨o.slots,k b o hc e⟩) (λb o _ e n=>n)
  (λb o hc e=>⟨o,k b o hc e⟩) (λb xs e=>e) (λb o u e=>e) (λb ps e=>⟨#[],by rw[e];simp⟩) (λm hm=>?_) (λb u e=>?_) I.bare
 . obtain⟨_,f1,f2,f3,f4,f5⟩:=f b hb
   exact⟨f3,f1,f4,f5⟩
 . obtain⟨o,es,ep,ho,r⟩:=hm
   exact⟨o,es,ep,k _ o (λz=>(f _ z).2.1 rfl) ho,r⟩
 . refine(I.hok b u e).stay (λc v hc q=>k c v ?_ q) (λc q=>q) λc xs q=>q
   rcases hc with z|z
   . rw[z];exact nit b u e
   . exact nit c _ z
theorem Inv.newK(I:Inv X pins σ H s):X.K.lookup s.heap.objs.size=none:=by
 cases q:X.K.lookup s.heap.objs.size with
 | none=>rfl
 | some o=>exact absurd (Ah (I.bk _ o (I.ok.mod.kin _ o q))) (Bl _)
def Sq(k:Bool)(K:PySem.W.Frag)(H:Hp)(a:Addr)(xs:List V):Prop:=match k with
 | true=>SqL K H a xs
 | false=>SqT K H a xs
def eL(k:Bool)(h:Heap)(a:Addr)(its:Array Value):Prop:=match k with
 | true=>h.IsList a its
 | false=>h.IsTuple a its
def cT(k:Bool)(h:Heap)(it a:Addr)(i:Nat):Prop:=match k with
 | true=>h.IsListIter it a i
 | false=>h.IsTupleIter it a i
theorem eL.at{k:Bool}{h:Heap}{a:Addr}{its:Array Value}(q:eL k h a its)(e:∀o,h.get? a=some o->h'.get? a=some o):eL k h' a its:=by
 cases k with
 | true=>exact Heap.IsList.at q e
 | false=>exact Heap.IsTuple.at q e
theorem cT.at{k:Bool}{h:Heap}{a it:Addr}{i:Nat}(q:cT k h it a i)(e:∀o,h.get? it=some o->h'.get? it=some o):cT k h' it a i:=by
 cases k with
 | true=>exact Heap.IsListIter.at q e
 | false=>exact Heap.IsTupleIter.at q e
theorem cT.obj{k:Bool}{h:Heap}{a it:Addr}{i:Nat}(q:cT k h it a i):∃o,h.get? it=some o/\∀v,o.data≠.cell v:=by
 cases k with
 | true=>obtain⟨o,e,c,d⟩:=q;exact⟨o,e,λv z=>by rw[d] at z;cases z⟩
 | false=>obtain⟨o,e,c,d⟩:=q;exact⟨o,e,λv z=>by rw[d] at z;cases z⟩
theorem Inv.sq{k:Bool}{a:Addr}{xs:List V}(I:Inv X pins σ H s)(h:Sq k X.K H a xs):∃its:List Value,aU xs its/\eL k s.heap a its.toArray/\xs.length<=sizeLine:=by
 cases k with
 | true=>obtain⟨its,r,p,z⟩:=I.list h;exact⟨its,r,p.isList,z⟩
 | false=>obtain⟨its,r,p,z⟩:=I.tuple h;exact⟨its,r,p,z⟩
theorem Inv.sq_inj{k:Bool}{a:Addr}{xs ys:List V}(I:Inv X pins σ H s)(h:Sq k X.K H a xs)(h':Sq k X.K H a ys):xs=ys:=by
 cases k with
 | true=>exact I.list_inj h h'
 | false=>exact I.tuple_inj h h'
theorem Sq.there{k:Bool}{K:PySem.W.Frag}{a:Addr}{xs:List V}(h:Sq k K H a xs):H a≠none\/∃o,K.lookup a=some o:=by
 cases k with
 | true=>
  rcases h with(h|⟨o,h⟩)|⟨o,its,n,q,_⟩
  . exact .inl (by rw[h];simp)
  . exact .inl (by rw[h];simp)
  . exact .inr ⟨_,q⟩
 | false=>
  rcases h with(h|⟨o,h⟩)|⟨o,its,n,q,_⟩
  . exact .inl (by rw[h];simp)
  . exact .inl (by rw[h];simp)
  . exact .inr ⟨_,q⟩
theorem Inv.sqNe{k:Bool}{a b:Addr}{xs:List V}(I:Inv X pins σ H s)(h:Sq k X.K H a xs)(f:lO X pins H b):a≠b:=by
 intro e
 subst e
 rcases h.there with z|⟨o,z⟩
 . exact z f.1
 . have hb:=I.ok.mod.kin a o z
   rcases f.2.2.2.1 with q|q
   . exact I.ok.noex a o hb q
   . exact absurd (Ar (Ah hb) (A4 I.ok.bsz q)) (Bl _)
end
section
variable {prog:Program} {w:World} {A:Around} {E:Value->Shared->Prop} {s:Shared}
theorem lW{it l:Addr}{i:Nat}{items}{x:Value}{Q:Value->Shared->Prop}(hit:s.heap.IsTupleIter it l i)
 (hl:s.heap.IsTuple l items) (hx:items[i]? = some x)
 (hQ:∀h',h'.IsTupleIter it l (i+1)->Heap.SameBut it s.heap h'->Q x { s with heap:=h' }) :
 wpAny (model prog w) A (Builtin.SmallTypes.nextOf (.ref it)) Q E s:=by
 obtain⟨o,ho,hc,hd⟩:=id hit
 obtain⟨ol,hol,_,nl,hdl⟩:=hl
 unfold Builtin.SmallTypes.nextOf
 refine Aa (Bh (name:=Str.ofString "__next__") hit.typeIs C3
  (Bt C3 hit.typeIs F.entry_tuple_iterator_next ?_ (F.args_tuple_iterator_next_1 _)))
 show wpAny _ _ (field (.ref it) 0 >>= _) _ _ s
 refine Aa (Bn ho hd (x:=.ref l) rfl ?_)
 show wpAny _ _ (if (Value.ref l==Value.none)=true then _ else _) _ _ s
 rw[if_neg (show ¬ ((Value.ref l==Value.none)=true) from bN)]
 show wpAny _ _ (field (.ref it) 1 >>= _) _ _ s
 refine Aa (Bn ho hd (x:=.int i 0) rfl ?_)
 show wpAny _ _ (seqItems? (.ref l) >>= _) _ _ s
 refine Aa (C4 hol hdl ?_)
 simp only[Ce,hx]
 refine Aa (wpAny_setField ho hd (by simp) (Ac ⟨x,rfl,Ac (hQ _ ?_ (Heap.SameBut.update ..))⟩))
 exact⟨_,Heap.get?_update_self _ ho (Obj.isFreed_of_fields (Obj.data_mapFields hd _)),(Obj.cls_mapFields ..).trans hc,by
  rw[Obj.data_mapFields hd];simp[rawInt]⟩
theorem nD{it l:Addr}{i:Nat}{items}{Q:Value->Shared->Prop}(hh:A.handled=none)
 (hit:s.heap.IsTupleIter it l i) (hl:s.heap.IsTuple l items) (hx:items[i]? = none)
 (hE:∀h' e,Heap.ExtBut it s.heap h'->(∃o,h'.get? e=some o/\o.cls=.type "StopIteration")->E (.ref e) { s with heap:=h' }) :
 wpAny (model prog w) A (Builtin.SmallTypes.nextOf (.ref it)) Q E s:=by
 obtain⟨o,ho,hc,hd⟩:=id hit
 obtain⟨ol,hol,_,nl,hdl⟩:=hl
 unfold Builtin.SmallTypes.nextOf
 refine Aa (Bh (name:=Str.ofString "__next__") hit.typeIs C3
  (Bt C3 hit.typeIs F.entry_tuple_iterator_next ?_ (F.args_tuple_iterator_next_1 _)))
 show wpAny _ _ (field (.ref it) 0 >>= _) _ _ s
 refine Aa (Bn ho hd (x:=.ref l) rfl ?_)
 show wpAny _ _ (if (Value.ref l==Value.none)=true then _ else _) _ _ s
 rw[if_neg (show ¬ ((Value.ref l==Value.none)=true) from bN)]
 show wpAny _ _ (field (.ref it) 1 >>= _) _ _ s
 refine Aa (Bn ho hd (x:=.int i 0) rfl ?_)
 show wpAny _ _ (seqItems? (.ref l) >>= _) _ _ s
 refine Aa (C4 hol hdl ?_)
 simp only[Ce,hx]
 refine Aa (wpAny_rule (Aa (wpAny_setField ho hd (by simp) ?_)))
 show wpAny _ _ (newExc (.type "StopIteration") [] >>= _) _ _ _
 refine Aa ?_
 simp only[newExc,newTuple]
 refine Aa (Bz ?_ (by size_fits))
 refine Aa (m:=firstArgMember _ _) (wpAny_of_eq (a:=Value.none) (by first|rfl|(simp only[firstArgMember];rfl)) ?_)
 refine Bz ?_ (by size_fits)
 simp only[raiseNew]
 refine Aa (wpAny_handled ?_)
 first|rw[show A.in1.handled=none from hh]|rw[hh]
 refine Aa (Ac (wpAny_throw ?_))
 exact hE _ _ (((Heap.SameBut.update ..).extBut.push _).push _) ⟨_,Ai _ rfl,rfl⟩
theorem gL{k:Bool}{it l:Addr}{i:Nat}{items:Array Value}{x:Value}{Q:Value->Shared->Prop}(hit:cT k s.heap it l i)(hl:eL k s.heap l items)(hx:items[i]? = some x)
 (hQ:∀h',cT k h' it l (i+1)->Heap.SameBut it s.heap h'->Q x { s with heap:=h' }):wpAny (model prog w) A (Builtin.SmallTypes.nextOf (.ref it)) Q E s:=by
 cases k with
 | true=>exact wpAny_nextOf_list_item hit hl hx hQ
 | false=>exact lW hit hl hx hQ
theorem lD{k:Bool}{it l:Addr}{i:Nat}{items:Array Value}{Q:Value->Shared->Prop}(hh:A.handled=none)(hit:cT k s.heap it l i)(hl:eL k s.heap l items)(hx:items[i]? = none)
 (hE:∀h' e,Heap.ExtBut it s.heap h'->(∃o,h'.get? e=some o/\o.cls=.type "StopIteration")->E (.ref e) { s with heap:=h' }):wpAny (model prog w) A (Builtin.SmallTypes.nextOf (.ref it)) Q E s:=by
 cases k with
 | true=>exact wpAny_nextOf_list_end hh hit hl hx hE
 | false=>exact nD hh hit hl hx hE
theorem aCf{ka kb:Bool}{z TI TO i1 i2 l1 l2:Addr}{k1 k2:Nat}{xs ys:Array Value}{x y a b:Value}{Q:Value->Shared->Prop}(D:ZipApart z TI TO i1 i2 l1 l2)
 (hz:IsZip s.heap z TI TO .none) (hTI:IsPair s.heap TI (.ref i1) (.ref i2)) (hTO:IsPair s.heap TO a b)
 (h1:cT ka s.heap i1 l1 k1) (h2:cT kb s.heap i2 l2 k2) (hl1:eL ka s.heap l1 xs) (hl2:eL kb s.heap l2 ys) (hx:xs[k1]? = some x) (hy:ys[k2]? = some y)
 (hQ:∀h',IsZip h' z TI TO (rawInt s.heap.objs.size)->IsPair h' TO x y->cT ka h' i1 l1 (k1+1)->cT kb h' i2 l2 (k2+1)->IsPair h' s.heap.objs.size x y->h'.objs.size=s.heap.objs.size+1 ->
  (∀c o,c≠z->c≠TO->c≠i1->c≠i2->s.heap.get? c=some o->h'.get? c=some o)->Q (.ref s.heap.objs.size) { s with heap:=h' }) :
 wpAny (model prog w) A (Builtin.«zip.__next__» ⟨[.ref z],[]⟩) (λfin s'=>∃v,fin=.done (.ret v)/\Q v s') E s:=by
 show wpAny _ _ (field (.ref z) 2 >>= _) _ _ _
 refine Aa (Bn hz rfl (x:=.bool false) rfl ?_)
 show wpAny _ _ (field (.ref z) 3 >>= _) _ _ _
 refine Aa (Bn hz rfl (x:=.ref TI) rfl ?_)
 refine Aa (C4 hTI rfl ?_)
 show wpAny _ _ (Builtin.SmallTypes.ownedTupleIsFree (.ref z) >>= _) _ _ _
 refine Aa ?_
 unfold Builtin.SmallTypes.ownedTupleIsFree
 refine Aa (Bn hz rfl (x:=.none) rfl (Ac ?_))
 simp only[if_true]
 refine Aa (wpAny_rule ?_)
 refine Aa (Bn hz rfl (x:=.ref TO) rfl ?_)
 refine Aa (Bd hz (by simp) λh₁ hz₁ hs₁=>?_)
 replace hz₁:IsZip h₁ z TI TO .ellipsis:=hz₁
 refine Aa ?_
 simp only[List.zipIdx_cons,List.zipIdx_nil,List.forIn_cons,List.forIn_nil]
 refine Aa (Aa (wpAny_onRaise ?_))
 show wpAny _ _ (Builtin.SmallTypes.nextOf (.ref i1) >>= _) _ _ _
 refine Aa (gL (h1.at λo e=>hs₁.extBut _ _ D.i1z e) (hl1.at λo e=>hs₁.extBut _ _ D.l1z e) hx λh₂ h1₂ hs₂=>Ac ?_)
 have hTO₂:IsPair h₂ TO a b:=hs₂.extBut _ _ D.TOi1 (hs₁.extBut _ _ D.TOz hTO)
 refine Aa (C4 hTO₂ rfl ?_)
 refine Aa (wpAny_updateSeq_pair hTO₂ λh₃ hTO₃ hs₃=>?_)
 replace hTO₃:IsPair h₃ TO x b:=hTO₃
 refine Aa (wpAny_letGo (Ac ?_))
 refine Aa (Aa (wpAny_onRaise ?_))
 show wpAny _ _ (Builtin.SmallTypes.nextOf (.ref i2) >>= _) _ _ _
 refine Aa (gL (h2.at λo e=>hs₃.extBut _ _ D.TOi2.symm (hs₂.extBut _ _ D.i12.symm (hs₁.extBut _ _ D.i2z e)))
  (hl2.at λo e=>hs₃.extBut _ _ D.l2TO (hs₂.extBut _ _ D.l2i1 (hs₁.extBut _ _ D.l2z e))) hy λh₄ h2₄ hs₄=>Ac ?_)
 have hTO₄:IsPair h₄ TO x b:=hs₄.extBut _ _ D.TOi2 hTO₃
 refine Aa (C4 hTO₄ rfl ?_)
 refine Aa (wpAny_updateSeq_pair hTO₄ λh₅ hTO₅ hs₅=>?_)
 replace hTO₅:IsPair h₅ TO x y:=hTO₅
 refine Aa (wpAny_letGo (Ac (Ac ?_)))
 refine Aa (C4 hTO₅ rfl ?_)
 refine Aa (wpAny_newTuple ?_)
 have hsz:h₅.objs.size=s.heap.objs.size:=by rw[hs₅.1,hs₄.1,hs₃.1,hs₂.1,hs₁.1]
 have hz₅:IsZip h₅ z TI TO .ellipsis:=hs₅.extBut _ _ D.TOz.symm (hs₄.extBut _ _ D.i2z.symm (hs₃.extBut _ _ D.TOz.symm (hs₂.extBut _ _ D.i1z.symm hz₁)))
 have hk₅:∀c o,c≠z->c≠TO->c≠i1->c≠i2->s.heap.get? c=some o->h₅.get? c=some o:=λc o c1 c2 c3 c4 e=>
  hs₅.extBut _ _ c2 (hs₄.extBut _ _ c4 (hs₃.extBut _ _ c2 (hs₂.extBut _ _ c3 (hs₁.extBut _ _ c1 e))))
 have h1₅:cT ka h₅ i1 l1 (k1+1):=h1₂.at λo e=>hs₅.extBut _ _ D.TOi1.symm (hs₄.extBut _ _ D.i12 (hs₃.extBut _ _ D.TOi1.symm e))
 have h2₅:cT kb h₅ i2 l2 (k2+1):=h2₄.at λo e=>hs₅.extBut _ _ D.TOi2.symm e
 have hzlt:z<h₅.objs.size:=Ah hz₅
 have hTOlt:TO<h₅.objs.size:=Ah hTO₅
 show wpAny _ _ (Builtin.SmallTypes.ownedTupleHandOut (.ref z) (.ref h₅.objs.size) >>= _) _ _ _
 refine Aa ?_
 unfold Builtin.SmallTypes.ownedTupleHandOut
 have hz₆:IsZip (h₅.push { cls:=.type "tuple",data:=.seq #[x,y] }) z TI TO .ellipsis:=Ab _ hz₅
 refine Aa (Bd hz₆ (by simp) λh₇ hz₇ hs₇=>?_)
 replace hz₇:IsZip h₇ z TI TO (rawInt h₅.objs.size):=hz₇
 refine Bd hz₇ (by simp) λh₈ hz₈ hs₈=>?_
 replace hz₈:IsZip h₈ z TI TO (rawInt h₅.objs.size):=hz₈
 have up:∀c o,c≠z->h₅.get? c=some o->h₈.get? c=some o:=λc o c1 e=>hs₈.extBut _ _ c1 (hs₇.extBut _ _ c1 (Ab _ e))
 have hT₈:IsPair h₈ h₅.objs.size x y:=hs₈.extBut _ _ (Cg hzlt) (hs₇.extBut _ _ (Cg hzlt) (Ai _ rfl))
 have hz8:h₈.objs.size=h₅.objs.size+1:=by rw[hs₈.1,hs₇.1,B1]
 rw[hsz] at hz₈ hT₈ hz8
 refine Ac ⟨_,rfl,?_⟩
 show Q (.ref h₅.objs.size) _
 rw[hsz]
 exact hQ h₈ hz₈ (up _ _ D.TOz hTO₅) (h1₅.at λo e=>up _ o D.i1z e) (h2₅.at λo e=>up _ o D.i2z e) hT₈ hz8 λc o c1 c2 c3 c4 e=>up c o c1 (hk₅ c o c1 c2 c3 c4 e)
theorem aDK{ka kb:Bool}{z TI TO i1 i2 l1 l2:Addr}{k1 k2:Nat}{xs ys:Array Value}{a b:Value}{Q:Fin->Shared->Prop}(hh:A.handled=none)(D:ZipApart z TI TO i1 i2 l1 l2)
 (hz:IsZip s.heap z TI TO .none) (hTI:IsPair s.heap TI (.ref i1) (.ref i2)) (hTO:IsPair s.heap TO a b)
 (h1:cT ka s.heap i1 l1 k1) (h2:cT kb s.heap i2 l2 k2) (hl1:eL ka s.heap l1 xs) (hl2:eL kb s.heap l2 ys) (hend:xs[k1]? = none\/ys[k2]? = none)
 (hE:∀h' e,(∀c o,c≠z->c≠TO->c≠i1->c≠i2->s.heap.get? c=some o->h'.get? c=some o)->(∃o,h'.get? e=some o/\o.cls=.type "StopIteration")->E (.ref e) { s with heap:=h' }) :
 wpAny (model prog w) A (Builtin.«zip.__next__» ⟨[.ref z],[]⟩) Q E s:=by
 show wpAny _ _ (field (.ref z) 2 >>= _) _ _ _
 refine Aa (Bn hz rfl (x:=.bool false) rfl ?_)
 show wpAny _ _ (field (.ref z) 3 >>= _) _ _ _
 refine Aa (Bn hz rfl (x:=.ref TI) rfl ?_)
 refine Aa (C4 hTI rfl ?_)
 show wpAny _ _ (Builtin.SmallTypes.ownedTupleIsFree (.ref z) >>= _) _ _ _
 refine Aa ?_
 unfold Builtin.SmallTypes.ownedTupleIsFree
 refine Aa (Bn hz rfl (x:=.none) rfl (Ac ?_))
 simp only[if_true]
 refine Aa (wpAny_rule ?_)
 refine Aa (Bn hz rfl (x:=.ref TO) rfl ?_)
 refine Aa (Bd hz (by simp) λh₁ hz₁ hs₁=>?_)
 replace hz₁:IsZip h₁ z TI TO .ellipsis:=hz₁
 refine Aa ?_
 simp only[List.zipIdx_cons,List.zipIdx_nil,List.forIn_cons,List.forIn_nil]
 refine Aa (Aa (wpAny_onRaise ?_))
 show wpAny _ _ (Builtin.SmallTypes.nextOf (.ref i1) >>= _) _ _ _
 cases hx:xs[k1]? with
 | none=>
  refine Aa (lD hh (h1.at λo e=>hs₁.extBut _ _ D.i1z e) (hl1.at λo e=>hs₁.extBut _ _ D.l1z e) hx λh₂ e hs₂ he=>?_)
  obtain⟨oe,hoe,hce⟩:=he
  have hz₂:IsZip h₂ z TI TO .ellipsis:=hs₂ _ _ D.i1z.symm hz₁
  have hez:e≠z:=λx=>by subst x;rw[hz₂] at hoe;cases hoe;simp at hce
  refine Bd hz₂ (by simp) λh₃ _ hs₃=>hE h₃ e (λc o c1 _ c3 _ x=>hs₃.extBut _ _ c1 (hs₂ _ _ c3 (hs₁.extBut _ _ c1 x))) ⟨oe,hs₃.extBut _ _ hez hoe,hce⟩
 | some x=>
  have hy:ys[k2]? = none:=by rcases hend with h|h;rw[hx] at h;cases h;exact h
  refine Aa (gL (h1.at λo e=>hs₁.extBut _ _ D.i1z e) (hl1.at λo e=>hs₁.extBut _ _ D.l1z e) hx λh₂ h1₂ hs₂=>Ac ?_)
  have hTO₂:IsPair h₂ TO a b:=hs₂.extBut _ _ D.TOi1 (hs₁.extBut _ _ D.TOz hTO)
  refine Aa (C4 hTO₂ rfl ?_)
  refine Aa (wpAny_updateSeq_pair hTO₂ λh₃ hTO₃ hs₃=>?_)
  refine Aa (wpAny_letGo (Ac ?_))
  refine Aa (Aa (wpAny_onRaise ?_))
  show wpAny _ _ (Builtin.SmallTypes.nextOf (.ref i2) >>= _) _ _ _
  refine Aa (lD hh (h2.at λo e=>hs₃.extBut _ _ D.TOi2.symm (hs₂.extBut _ _ D.i12.symm (hs₁.extBut _ _ D.i2z e)))
   (hl2.at λo e=>hs₃.extBut _ _ D.l2TO (hs₂.extBut _ _ D.l2i1 (hs₁.extBut _ _ D.l2z e))) hy λh₄ e hs₄ he=>?_)
  obtain⟨oe,hoe,hce⟩:=he
  have hz₄:IsZip h₄ z TI TO .ellipsis:=hs₄ _ _ D.i2z.symm (hs₃.extBut _ _ D.TOz.symm (hs₂.extBut _ _ D.i1z.symm hz₁))
  have hez:e≠z:=λx=>by subst x;rw[hz₄] at hoe;cases hoe;simp at hce
  refine Bd hz₄ (by simp) λh₅ _ hs₅=>hE h₅ e (λc o c1 c2 c3 c4 x=>hs₅.extBut _ _ c1 (hs₄ _ _ c4 (hs₃.extBut _ _ c2 (hs₂.extBut _ _ c3 (hs₁.extBut _ _ c1 x))))) ⟨oe,hs₅.extBut _ _ hez hoe,hce⟩
theorem oG{ka kb:Bool}{z TI TO i1 i2 l1 l2:Addr}{k1 k2:Nat}{xs ys:Array Value}{x y a b:Value}{Q:Option Value->Shared->Prop}(D:ZipApart z TI TO i1 i2 l1 l2)
 (hz:IsZip s.heap z TI TO .none) (hTI:IsPair s.heap TI (.ref i1) (.ref i2)) (hTO:IsPair s.heap TO a b)
 (h1:cT ka s.heap i1 l1 k1) (h2:cT kb s.heap i2 l2 k2) (hl1:eL ka s.heap l1 xs) (hl2:eL kb s.heap l2 ys) (hx:xs[k1]? = some x) (hy:ys[k2]? = some y)
 (hQ:∀h',IsZip h' z TI TO (rawInt s.heap.objs.size)->IsPair h' TO x y->cT ka h' i1 l1 (k1+1)->cT kb h' i2 l2 (k2+1)->IsPair h' s.heap.objs.size x y->h'.objs.size=s.heap.objs.size+1 ->
  (∀c o,c≠z->c≠TO->c≠i1->c≠i2->s.heap.get? c=some o->h'.get? c=some o)->Q (some (.ref s.heap.objs.size)) { s with heap:=h' }) :
 wpAny (model prog w) A (pyNext (.ref z)) Q E s:=by
 have hT:s.TypeIs (.ref z) "zip" := ⟨_,hz,rfl⟩
 unfold pyNext
 exact Aa (D1 (Bh (name:=Str.ofString "__next__") hT F.slot_zip_next
  (Bt F.slot_zip_next hT F.entry_zip_next
   (aCf D hz hTI hTO h1 h2 hl1 hl2 hx hy λh' a1 a2 a3 a4 a5 a6 a7=>Ac (hQ h' a1 a2 a3 a4 a5 a6 a7)) (F.args_zip_next_1 _))))
theorem qB{ka kb:Bool}{z TI TO i1 i2 l1 l2:Addr}{k1 k2:Nat}{xs ys:Array Value}{a b:Value}{Q:Option Value->Shared->Prop}(hh:A.handled=none)(D:ZipApart z TI TO i1 i2 l1 l2)
 (hz:IsZip s.heap z TI TO .none) (hTI:IsPair s.heap TI (.ref i1) (.ref i2)) (hTO:IsPair s.heap TO a b)
 (h1:cT ka s.heap i1 l1 k1) (h2:cT kb s.heap i2 l2 k2) (hl1:eL ka s.heap l1 xs) (hl2:eL kb s.heap l2 ys) (hend:xs[k1]? = none\/ys[k2]? = none)
 (hQ:∀h',(∀c o,c≠z->c≠TO->c≠i1->c≠i2->s.heap.get? c=some o->h'.get? c=some o)->Q none { s with heap:=h' }):wpAny (model prog w) A (pyNext (.ref z)) Q E s:=by
 have hT:s.TypeIs (.ref z) "zip" := ⟨_,hz,rfl⟩
 unfold pyNext
 refine Aa (D1 (Bh (name:=Str.ofString "__next__") hT F.slot_zip_next
  (Bt F.slot_zip_next hT F.entry_zip_next (aDK hh D hz hTI hTO h1 h2 hl1 hl2 hend λh' e hk he=>?_) (F.args_zip_next_1 _))))
 obtain⟨o,ho,hc⟩:=he
 refine Aa (wpAny_isInstance (T:= "StopIteration") (b:=true) ⟨o,ho,hc⟩ isSubtype_stop ?_)
 exact Ac (hQ _ hk)
end
def iW(k:Bool)(l:Addr):Obj:=match k with
 | true=>{ cls:=.type "list_iterator",data:=.fields #[.ref l,.int 0 0] }
 | false=>{ cls:=.type "tuple_iterator",data:=.fields #[.ref l,.int 0 0] }
abbrev zH1(k:Bool)(h:Heap)(l1:Addr):Heap:=h.push (iW k l1)
abbrev zH2(ka kb:Bool)(h:Heap)(l1 l2:Addr):Heap:=(zH1 ka h l1).push (iW kb l2)
abbrev zH3(ka kb:Bool)(h:Heap)(l1 l2:Addr):Heap:=(zH2 ka kb h l1 l2).push { cls:=.type "tuple",data:=.seq #[.ref h.objs.size,.ref (zH1 ka h l1).objs.size] }
abbrev zH4(ka kb:Bool)(h:Heap)(l1 l2:Addr):Heap:=(zH3 ka kb h l1 l2).push { cls:=.type "tuple",data:=.seq #[.none,.none] }
abbrev zH5(ka kb:Bool)(h:Heap)(l1 l2:Addr):Heap:=(zH4 ka kb h l1 l2).push { cls:=.type "zip",data:=.fields #[.none,.bool false,.bool false,.ref (zH2 ka kb h l1 l2).objs.size,.ref (zH3 ka kb h l1 l2).objs.size] }
theorem jZ{prog:Program}{w:World}{A:Around}{E:Value->Shared->Prop}{s:Shared}{k:Bool}{l:Addr}{items:Array Value}{Q:Value->Shared->Prop}(hl:eL k s.heap l items)
 (hQ:Q (.ref s.heap.objs.size) { s with heap:=s.heap.push (iW k l) }):wpAny (model prog w) A (pyIter (.ref l)) Q E s:=by
 cases k with
 | true=>exact C0 hl hQ
 | false=>exact wpAny_pyIter_tuple hl hQ
theorem zV(ka kb:Bool)(l1 l2:Addr)(xs ys:Array Value) :
 Meets (Builtin.«zip.__new__» ⟨[.type "zip",.ref l1,.ref l2],[]⟩) (λ_ R s=>eL ka s.heap l1 xs/\eL kb s.heap l2 ys /\
  R (.ok (.ret (.ref (zH4 ka kb s.heap l1 l2).objs.size))) { s with heap:=zH5 ka kb s.heap l1 l2 }):=
 .of_wp λprog w A R s h=>by
  obtain⟨hp,g,d,tk,os⟩:=s;obtain⟨hl1,hl2,h⟩:=h
  have hsub:=sub_zip
  have hL1:eL ka (Shared.heap ⟨hp,g,d,tk,os⟩) l1 xs:=hl1
  have hL2:eL kb (Shared.heap ⟨hp.push (iW ka l1),g,d,tk,os⟩) l2 ys:=hl2.at λo e=>Ab _ e
  wp_walk using jZ hL1,jZ hL2
  exact⟨_,rfl,h⟩
theorem qC{k:Bool}{h:Heap}{it a:Addr}(e:h.get? it=some (iW k a)):cT k h it a 0:=by
 cases k with
 | true=>exact⟨_,e,rfl,rfl⟩
 | false=>exact⟨_,e,rfl,rfl⟩
theorem aCg{prog:Program}{w:World}{A:Around}{E:Value->Shared->Prop}{s:Shared}{ka kb:Bool}{l1 l2:Addr}{xs ys:Array Value}{Q:Value->Shared->Prop}(hl1:eL ka s.heap l1 xs)(hl2:eL kb s.heap l2 ys)
 (h:∀h',IsZip h' (s.heap.objs.size+4) (s.heap.objs.size+2) (s.heap.objs.size+3) .none->IsPair h' (s.heap.objs.size+2) (.ref s.heap.objs.size) (.ref (s.heap.objs.size+1)) ->
  IsPair h' (s.heap.objs.size+3) .none .none->cT ka h' s.heap.objs.size l1 0->cT kb h' (s.heap.objs.size+1) l2 0->h'.objs.size=s.heap.objs.size+5 ->
  (∀c o,s.heap.get? c=some o->h'.get? c=some o)->Q (.ref (s.heap.objs.size+4)) { s with heap:=h' }) :
 wpAny (model prog w) A (call (.type "zip") [.ref l1,.ref l2]) Q E s:=by
 refine callType_new F.called_zip (by decide) (F.typeCall_zip_2 _ _) (F.newCall_zip_2 _ _) (λobj=>F.args_object_init_3 obj _ _) F.entry_zip_new
  (zV ka kb l1 l2 xs ys) ⟨hl1,hl2,?_⟩
 have z1:(zH1 ka s.heap l1).objs.size=s.heap.objs.size+1:=B1 ..
 have z2:(zH2 ka kb s.heap l1 l2).objs.size=s.heap.objs.size+2:=by rw[B1,z1]
 have z3:(zH3 ka kb s.heap l1 l2).objs.size=s.heap.objs.size+3:=by rw[B1,z2]
 have z4:(zH4 ka kb s.heap l1 l2).objs.size=s.heap.objs.size+4:=by rw[B1,z3]
 have z5:(zH5 ka kb s.heap l1 l2).objs.size=s.heap.objs.size+5:=by rw[B1,z4]
 have nf:∀k l,(iW k l).isFreed=false:=by intro k l;cases k <;> rfl
 have g5:(zH5 ka kb s.heap l1 l2).get? (zH4 ka kb s.heap l1 l2).objs.size=some _:=Ai _ rfl
 have g4:(zH5 ka kb s.heap l1 l2).get? (zH3 ka kb s.heap l1 l2).objs.size=some _:=Ab _ (Ai _ rfl)
 have g3:(zH5 ka kb s.heap l1 l2).get? (zH2 ka kb s.heap l1 l2).objs.size=some _:=Ab _ (Ab _ (Ai _ rfl))
 have g2:(zH5 ka kb s.heap l1 l2).get? (zH1 ka s.heap l1).objs.size=some _:=Ab _ (Ab _ (Ab _ (Ai _ (nf _ _))))
 have g1:(zH5 ka kb s.heap l1 l2).get? s.heap.objs.size=some _:=Ab _ (Ab _ (Ab _ (Ab _ (Ai _ (nf _ _)))))
 show _/\_
 rw[z2,z3,z4] at g5
 rw[z1,z2] at g3
 rw[z3] at g4
 rw[z1] at g2
 rw[z4]
 exact⟨⟨_,g5,rfl⟩,h _ g5 g3 g4 (qC g1) (qC g2) z5 λc o x=>
  Ab _ (Ab _ (Ab _ (Ab _ (Ab _ x))))⟩
def Itz(K:PySem.W.Frag)(ka kb:Bool)(a b:Addr):It:=
 ⟨λi H=>∃xs ys x y,Sq ka K H a xs/\Sq kb K H b ys/\xs[i]? = some x/\ys[i]? = some y,
  λi H v H'=>∃p x y,v=.ref p/\H p=none/\K.lookup p=none/\H'=upd H p (.tup [x,y])/\∀xs ys,Sq ka K H a xs->Sq kb K H b ys->xs[i]? = some x/\ys[i]? = some y,
  λi H=>∃xs ys,Sq ka K H a xs/\Sq kb K H b ys/\(xs.length<=i\/ys.length<=i)⟩
structure aGa (z TI TO i1 i2:Addr):Prop where
 TIz:TI≠z
 TOz:TO≠z
 i1z:i1≠z
 i2z:i2≠z
 TITO:TI≠TO
 TIi1:TI≠i1
 TIi2:TI≠i2
 TOi1:TO≠i1
 TOi2:TO≠i2
 i12:i1≠i2
theorem aGa.apart{X:Cx}{pins:List (Addr×Obj)}{σ:St}{H:Hp}{s:Shared}{ka kb:Bool}{a b z TI TO i1 i2:Addr}{xs ys:List V}(F:aGa z TI TO i1 i2)(I:Inv X pins σ H s)(f:∀c∈[z,TI,TO,i1,i2],lO X pins H c)
 (ha:Sq ka X.K H a xs) (hb:Sq kb X.K H b ys):ZipApart z TI TO i1 i2 a b:=
 ⟨F.TIz,F.TOz,F.i1z,F.i2z,F.TITO,F.TIi1,F.TIi2,F.TOi1,F.TOi2,F.i12,I.sqNe ha (f z (by simp)),I.sqNe ha (f TO (by simp)),I.sqNe ha (f i1 (by simp)),I.sqNe ha (f i2 (by simp)),
  I.sqNe hb (f z (by simp)),I.sqNe hb (f TO (by simp)),I.sqNe hb (f i1 (by simp)),I.sqNe hb (f i2 (by simp))⟩
theorem aDL{P:Program}{w:World}{K:PySem.W.Frag}{ka kb:Bool}{elts:List Expr}{tk:Nat}{tp:Pos}{z TI TO i1 i2 a b:Addr}(F:aGa z TI TO i1 i2) :
 wG P w K (.Tuple elts tk tp) (Itz K ka kb a b) [z,TI,TO,i1,i2] z (λi h=>IsZip h z TI TO .none/\IsPair h TI (.ref i1) (.ref i2)/\(∃u v,IsPair h TO u v)/\cT ka h i1 a i/\cT kb h i2 b i) where
 mem:=by simp
 obj:=λi h st c hc=>by
  obtain⟨hz,hTI,⟨u,v,hTO⟩,h1,h2⟩:=st
  have hc':c=z\/c=TI\/c=TO\/c=i1\/c=i2:=by simpa using hc
  rcases hc' with rfl|rfl|rfl|rfl|rfl
  . exact⟨_,hz,λv z=>by cases(show Data.fields _=Data.cell v from z)⟩
  . exact⟨_,hTI,λv z=>by cases(show Data.seq _ _=Data.cell v from z)⟩
  . exact⟨_,hTO,λv z=>by cases(show Data.seq _ _=Data.cell v from z)⟩
  . exact h1.obj
  . exact h2.obj
 keep:=λi h h' st k=>by
  obtain⟨hz,hTI,⟨u,v,hTO⟩,h1,h2⟩:=st
  exact⟨k z (by simp) _ hz,k TI (by simp) _ hTI,⟨u,v,k TO (by simp) _ hTO⟩,h1.at λo e=>k i1 (by simp) o e,h2.at λo e=>k i2 (by simp) o e⟩
 item:=by
  intro X hP hw hK hc i pins s σ H E I hf st hg
  subst hP hw hK
  obtain⟨hz,hTI,⟨u,v,hTO⟩,h1,h2⟩:=st
  obtain⟨xs,ys,x,y,ha,hb,hx,hy⟩:=hg
  obtain⟨as,ra,pa,_⟩:=I.sq ha
  obtain⟨bs,rb,pb,_⟩:=I.sq hb
  obtain⟨ux,hux,rx⟩:=ra.get hx
  obtain⟨uy,huy,ry⟩:=rb.get hy
  have D:=F.apart I hf ha hb
  refine oG D hz hTI hTO h1 h2 pa pb (x:=ux) (y:=uy) (by simpa using hux) (by simpa using huy) λh' a1 a2 a3 a4 a5 a6 hk=>?_
  refine⟨_,rfl,wpAny_letOwnedTupleGo_zip (s:={ s with heap:=h' }) a1 λh'' hz' hs'=>?_⟩
  have hTne:s.heap.objs.size≠z:=Cg (Ah hz)
  have hk2:∀c o,c∉[z,TI,TO,i1,i2]->s.heap.get? c=some o->h''.get? c=some o:=λc o hc e=>by
   have hc':c≠z/\c≠TI/\c≠TO/\c≠i1/\c≠i2:=by simpa using hc
   exact hs'.extBut _ _ hc'.1 (hk c o hc'.1 hc'.2.2.1 hc'.2.2.2.1 hc'.2.2.2.2 e)
  have tI:IsPair h'' TI (.ref i1) (.ref i2):=hs'.extBut _ _ F.TIz (hk _ _ F.TIz F.TITO F.TIi1 F.TIi2 hTI)
  have tO:IsPair h'' TO ux uy:=hs'.extBut _ _ F.TOz a2
  have t1:cT ka h'' i1 a (i+1):=a3.at λo e=>hs'.extBut _ _ F.i1z e
  have t2:cT kb h'' i2 b (i+1):=a4.at λo e=>hs'.extBut _ _ F.i2z e
  have tT:IsPair h'' s.heap.objs.size ux uy:=hs'.extBut _ _ hTne a5
  have hn:H s.heap.objs.size=none:=I.fresh
  have I1:Inv X pins σ (upd H s.heap.objs.size (.tup [x,y])) { s with heap:=h'' }:=by
   refine I.turnsNew (t':=s.toks) hf hk2 (λc hc=>?_) (Aj _) ⟨by show 2<=sizeLine;rw[C2];decide,[ux,uy],.cons rx (.cons ry .nil),_,tT,rfl,_,rfl⟩
   have hc':c=z\/c=TI\/c=TO\/c=i1\/c=i2:=by simpa using hc
   rcases hc' with rfl|rfl|rfl|rfl|rfl
   . exact⟨_,hz'⟩
   . exact⟨_,tI⟩
   . exact⟨_,tO⟩
   . obtain⟨o,e,_⟩:=t1.obj;exact⟨o,e⟩
   . obtain⟨o,e,_⟩:=t2.obj;exact⟨o,e⟩
  refine⟨.ref s.heap.objs.size,_,I1,rfl,⟨_,x,y,rfl,hn,I.newK,rfl,λxs' ys' ha' hb'=>?_⟩,⟨hz',tI,⟨_,_,tO⟩,t1,t2⟩,λc hc=>?_⟩
  . rw[I.sq_inj ha' ha,I.sq_inj hb' hb]
    exact⟨hx,hy⟩
  . rw[aZ (Ao ?_)]
    . exact(hf c hc).1
    . obtain⟨o,e,_⟩:∃o,s.heap.get? c=some o/\True:=by
       have hc':c=z\/c=TI\/c=TO\/c=i1\/c=i2:=by simpa using hc
       rcases hc' with rfl|rfl|rfl|rfl|rfl
       . exact⟨_,hz,trivial⟩
       . exact⟨_,hTI,trivial⟩
       . exact⟨_,hTO,trivial⟩
       . obtain⟨o,e,_⟩:=h1.obj;exact⟨o,e,trivial⟩
       . obtain⟨o,e,_⟩:=h2.obj;exact⟨o,e,trivial⟩
      exact Ah e
 done:=by
  intro X hP hw hK hc i pins s σ H E I hf st hg
  subst hP hw hK
  obtain⟨hz,hTI,⟨u,v,hTO⟩,h1,h2⟩:=st
  obtain⟨xs,ys,ha,hb,hend⟩:=hg
  obtain⟨as,ra,pa,_⟩:=I.sq ha
  obtain⟨bs,rb,pb,_⟩:=I.sq hb
  have la:=ra.length
  have lb:=rb.length
  refine qB (I.ok.hd hc) (F.apart I hf ha hb) hz hTI hTO h1 h2 pa pb ?_ λh' hk=>⟨rfl,I.turns (t':=s.toks) hf λc o hc e=>?_⟩
  . rcases hend with q|q
    . exact .inl (by simp;omega)
    . exact .inr (by simp;omega)
  . have hc':c≠z/\c≠TI/\c≠TO/\c≠i1/\c≠i2:=by simpa using hc
    exact hk c o hc'.1 hc'.2.2.1 hc'.2.2.2.1 hc'.2.2.2.2 e
 self:=λ_ _ _ _ _ st h=>wpAny_pyIter_zip st.1 h
def aNm(K:PySem.W.Frag)(ta:TA):TI:=λσ H R=>ta σ H λvs H1=>∃(ka kb:Bool) (a b:Addr) (xs ys:List V),vs=[.ref a,.ref b]/\Sq ka K H1 a xs/\Sq kb K H1 b ys/\R (Itz K ka kb a b) H1
theorem aDM:bootBuiltins "zip" = some (.type "zip"):=by kernel_rfl
theorem aDN(n:Nat):aGa (n+4) (n+2) (n+3) n (n+1) where
 TIz:=by simp
 TOz:=by simp
 i1z:=by simp
 i2z:=by simp
 TITO:=by simp
 TIi1:=by simp
 TIi2:=by simp
 TOi1:=by simp
 TOi2:=by simp
 i12:=by simp
theorem aIl{X:Cx}{a b:Expr}{ta:TA}{p pos:Pos}{elts:List Expr}{tk:Nat}{tp:Pos}(hg:Gl X "zip")(hm:X.mg "zip" = none)(ha:PA X [a,b] ta)(hs:starEach [a,b] X.env=[(false,eval a X.env),(false,eval b X.env)])(hs2:starEach [b] X.env=[(false,eval b X.env)]) :
 PI X (.Tuple elts tk tp) (.Call (.Name "zip" p) [a,b] [] pos) (aNm X.K ta):=by
 intro pins s σ H R I h
 refine Call_ (fL I hg hm aDM (Bw (thn (ha pos pins s σ H _ I h) λus s1 ⟨vs,H1,I1,r1,q1⟩=>?_) (by rw[hs,hs2]) (by rw[hs2];rfl)))
 obtain⟨ka,kb,a1,b1,xs,ys,e,q1,q2,q⟩:=q1
 subst e
 cases r1 with
 | cons r rr=>
  cases rr with
  | cons r' rr=>
   cases rr
   cases r
   cases r'
   obtain⟨as,ra,pa,_⟩:=I1.sq q1
   obtain⟨bs,rb,pb,_⟩:=I1.sq q2
   refine aCg pa pb λh' hz hTI hTO h1 h2 hsz hk=>wpAny_pyIter_zip (s:={ s1 with heap:=h' }) hz ?_
   refine⟨s1.heap.objs.size+4,_,_,_,H1,rfl,I1.kept (t':=s1.toks) hk,aDL (aDN _),⟨hz,hTI,⟨_,_,hTO⟩,h1,h2⟩,λc hc=>?_,q⟩
   have hc':c=s1.heap.objs.size+4\/c=s1.heap.objs.size+2\/c=s1.heap.objs.size+3\/c=s1.heap.objs.size\/c=s1.heap.objs.size+1:=by simpa using hc
   have hle:s1.heap.objs.size<=c:=by rcases hc' with rfl|rfl|rfl|rfl|rfl <;> omega
   exact I1.fpOk hle (I1.hok.fresh hle)
def Its(x:Str):It:=⟨λi _=>i<x.cps.size,λi H v H'=>H'=H/\∃c,x.cps[i]? = some c/\v=.str ⟨#[c]⟩,λi _=>x.cps.size<=i⟩
theorem wZ{P:Program}{w:World}{K:PySem.W.Frag}{tg:Expr}{it:Addr}{x:Str}{t:Tok}{ty:String}(hn:["enumerate", "zip", "dict_itemiterator", "dict_reverseitemiterator", "odict_iterator", "itertools.zip_longest", "itertools.pairwise"].contains ty=false)
 (W:∀A':Around,A'.handled=none->Walks P w A' it [it] [it] x.cps.size (SignAt x) (λi h=>h.IsStrIter it ty x t i))
 (S:∀(A:Around) (i:Nat) (s:Shared) (Q:Value->Shared->Prop) (E:Value->Shared->Prop),s.heap.IsStrIter it ty x t i->Q (.ref it) s->wpAny (model P w) A (pyIter (.ref it)) Q E s):wG P w K tg (Its x) [it] it (λi h=>i<=x.cps.size/\h.IsStrIter it ty x t i) where
 mem:=by simp
 obj:=λi h st b hb=>by
  have e:b=it:=by simpa using hb
  subst e
  obtain⟨_,o,e,c,d⟩:=st
  exact⟨o,e,λv z=>by rw[d] at z;cases z⟩
 keep:=λi h h' st k=>by
  obtain⟨hi,o,e,c,d⟩:=st
  exact⟨hi,o,k it (by simp) o e,c,d⟩
 item:=by
  intro X hP hw hK hc i pins s σ H E I hf st hg
  subst hP hw hK
  obtain⟨f0,f1,f2,f3,f4,f5⟩:=hf it (by simp)
  refine(W X.A (I.ok.hd hc)).item i s _ _ hg st.2 λv h' tk hv st' kk=>?_
  obtain⟨c,u,hcc,rfl⟩:=hv
  have I1:Inv X pins σ H { s with heap:=h',toks:=tk }:=I.turned (λb o hb e=>kk b o (by simpa using hb) e) f0 f1 f3 f4 f5
  obtain⟨o,e,oc,od⟩:=id st'
  exact⟨_,rfl,pJ (s:={ s with heap:=h',toks:=tk }) e oc od hn ⟨.str ⟨#[c]⟩,H,I1,⟨u,rfl⟩,⟨rfl,c,hcc,rfl⟩,⟨hg,st'⟩,λb hb=>(hf b hb).1⟩⟩
 done:=by
  intro X hP hw hK hc i pins s σ H E I hf st hg
  subst hP hw hK
  obtain⟨f0,f1,f2,f3,f4,f5⟩:=hf it (by simp)
  have e:i=x.cps.size:=Nat.le_antisymm st.1 hg
  subst e
  exact(W X.A (I.ok.hd hc)).done s _ _ st.2 λh' tk eb=>⟨rfl,I.turned (λb o hb e=>eb b o (by simpa using hb) e) f0 f1 f3 f4 f5⟩
 self:=λA i s Q E st h=>S A i s Q E st.2 h
theorem aIm{X:Cx}{tg l:Expr}{tl:TE}(hl:PE X l tl):PI X tg l (λσ H R=>tl σ H λx H1=>(∃a,x=.ref a/\(((∃xs,SqL X.K H1 a xs)/\R (Itl X.K a) H1)\/((∃xs,SqT X.K H1 a xs)/\R (Itt X.K a) H1)))\/∃z,x=.str z/\R (Its z) H1):=by
 intro pins s σ H R I h
 refine thn (hl pins s σ H _ I h) λv s1 ⟨x,H1,I1,r1,q1⟩=>?_
 rcases q1 with⟨a,e,q⟩|⟨z,e,q⟩
 . subst e
   cases r1
   rcases q with⟨⟨xs,hq⟩,q⟩|⟨⟨xs,hq⟩,q⟩
   . obtain⟨its,rv,p,hz⟩:=I1.list hq
     refine C0 p.isList ?_
     refine⟨s1.heap.objs.size,[s1.heap.objs.size],_,_,H1,rfl,I1.kept (t':=s1.toks) λb o e=>Ab _ e,aBH a _,⟨_,Ai _ rfl,rfl,rfl⟩,λb hb=>?_,q⟩
     have e:b=s1.heap.objs.size:=by simpa using hb
     subst e
     exact I1.fpOk (Aj _) (I1.hok.fresh (Aj _))
   . obtain⟨its,rv,p,hz⟩:=I1.tuple hq
     refine wpAny_pyIter_tuple (show s1.heap.IsTuple a its.toArray from p) ?_
     refine⟨s1.heap.objs.size,[s1.heap.objs.size],_,_,H1,rfl,I1.kept (t':=s1.toks) λb o e=>Ab _ e,zA a _,⟨_,Ai _ rfl,rfl,rfl⟩,λb hb=>?_,q⟩
     have e:b=s1.heap.objs.size:=by simpa using hb
     subst e
     exact I1.fpOk (Aj _) (I1.hok.fresh (Aj _))
 . subst e
   obtain⟨t,rfl⟩:=r1
   cases ha:z.cps.all (·<128) with
   | false=>
    refine wpAny_pyIter_wide ha ⟨s1.heap.objs.size,[s1.heap.objs.size],_,_,H1,rfl,I1.kept (t':=s1.toks) λb o e=>Ab _ e,wZ (ty:= "str_iterator") (x:=z) (t:=t) (by decide) (λA' hA=>Walks.strWide hA _ z t) (λA i s Q E st h=>wpAny_pyIter_striter_wide st h),⟨B5 _,_,Ai _ rfl,rfl,rfl⟩,λb hb=>?_,q⟩
    have e:b=s1.heap.objs.size:=by simpa using hb
    subst e
    exact I1.fpOk (Aj _) (I1.hok.fresh (Aj _))
   | true=>
    refine wpAny_pyIter_ascii ha ⟨s1.heap.objs.size,[s1.heap.objs.size],_,_,H1,rfl,I1.kept (t':=s1.toks) λb o e=>Ab _ e,wZ (ty:= "str_ascii_iterator") (x:=z) (t:=t) (by decide) (λA' hA=>Walks.strAscii hA _ z t) (λA i s Q E st h=>wpAny_pyIter_striter_ascii st h),⟨B5 _,_,Ai _ rfl,rfl,rfl⟩,λb hb=>?_,q⟩
    have e:b=s1.heap.objs.size:=by simpa using hb
    subst e
    exact I1.fpOk (Aj _) (I1.hok.fresh (Aj _))
section
variable {prog:Program} {w:World} {A:Around} {E:Value->Shared->Prop} {s:Shared}
theorem aDO{k:Bool}{e it l:Addr}{i:Nat}{xs:Array Value}{x old:Value}{Q:Value->Shared->Prop}(he:IsEnum s.heap e it i old)(hit:cT k s.heap it l i)(hl:eL k s.heap l xs)(hx:xs[i]? = some x)(hne:e≠it)
 (hQ:∀h',IsEnumOut h' e it ((i:Int)+1) x s.heap.objs.size->cT k h' it l (i+1)->h'.get? s.heap.objs.size=some { cls:=.type "tuple",data:=.seq #[.int i s.toks,x] }->h'.objs.size=s.heap.objs.size+1 ->
  (∀b o,b≠e->b≠it->s.heap.get? b=some o->h'.get? b=some o)->Q (.ref s.heap.objs.size) { s with heap:=h',toks:=s.toks+1 }) :
 wpAny (model prog w) A (Builtin.«enumerate.__next__» ⟨[.ref e],[]⟩) (λfin s'=>∃v,fin=.done (.ret v)/\Q v s') E s:=by
 obtain⟨hp,g,d,tk,os⟩:=s
 refine Aa (m:=field (.ref e) 2) (Bn he rfl (x:=.ref it) rfl (Aa (gL hit hl hx λh1 i1 s1=>?_)))
 have s1:Heap.SameBut it hp h1:=s1
 have e1:IsEnum h1 e it i old:=(s1.2 e hne).trans he
 refine Aa (m:=field (.ref e) 3) (Bn e1 rfl (x:=rawInt i) rfl (Aa (m:=field (.ref e) 4) (Bn e1 rfl (x:=.none) rfl (Aa (m:=mkInt i) (wpAny_mkInt ?_)))))
 refine Aa (m:=setField (.ref e) 3 (rawInt ((i:Int)+1))) (s:=⟨h1,g,d,tk+1,os⟩) (Bd e1 (by simp) λh2 e2 s2=>?_)
 have s2:Heap.SameBut e h1 h2:=s2
 have e2:IsEnum h2 e it ((i:Int)+1) old:=e2
 refine Aa (m:=setField (.ref e) 4 .none) (s:=⟨h2,g,d,tk+1,os⟩) (Bd e2 (by simp) λh3 e3 s3=>?_)
 have s3:Heap.SameBut e h2 h3:=s3
 have e3:IsEnum h3 e it ((i:Int)+1) old:=e3
 refine Aa (m:=newTuple [.int i tk,x]) (s:=⟨h3,g,d,tk+1,os⟩) (wpAny_newTuple ?_)
 have e4:IsEnum (h3.push { cls:=.type "tuple",data:=.seq #[.int i tk,x] }) e it ((i:Int)+1) old:=Ab _ e3
 generalize q4:h3.push { cls:=.type "tuple",data:=.seq #[.int i tk,x] }=h4 at e4
 have z3:h3.objs.size=hp.objs.size:=by rw[s3.1,s2.1,s1.1]
 have lt:e<hp.objs.size:=Ah he
 have t4:h4.get? hp.objs.size=some { cls:=.type "tuple",data:=.seq #[.int i tk,x] }:=by rw[<-q4,<-z3];exact Ai _ rfl
 have z4:h4.objs.size=hp.objs.size+1:=by rw[<-q4,B1,z3]
 have k4:∀b o,b≠e->b≠it->hp.get? b=some o->h4.get? b=some o:=λb o n1 n2 hb=>by
  rw[<-q4];exact Ab _ (s3.extBut b o n1 (s2.extBut b o n1 (s1.extBut b o n2 hb)))
 have i4:cT k h4 it l (i+1):=i1.at λo ho=>by rw[<-q4];exact Ab _ (s3.extBut _ _ hne.symm (s2.extBut _ _ hne.symm ho))
 rw[z3]
 refine Aa (m:=Builtin.SmallTypes.ownedTupleIsFree (.ref e)) (s:=⟨h4,g,d,tk+1,os⟩) ?_
 unfold Builtin.SmallTypes.ownedTupleIsFree
 refine Aa (Bn e4 rfl (x:=.none) rfl (Ac ?_))
 simp only[if_true]
 refine Aa (wpAny_rule (Aa (Bn e4 rfl (x:=old) rfl (Aa (Bd e4 (by simp) λh5 e5 s5=>?_)))))
 have s5:Heap.SameBut e h4 h5:=s5
 have e5:IsEnum h5 e it ((i:Int)+1) x:=e5
 refine Aa (m:=Builtin.SmallTypes.ownedTupleHandOut (.ref e) (.ref hp.objs.size)) (s:=⟨h5,g,d,tk+1,os⟩) ?_
 unfold Builtin.SmallTypes.ownedTupleHandOut
 refine Aa (Bd e5 (by simp) λh6 e6 s6=>?_)
 have s6:Heap.SameBut e h5 h6:=s6
 have e6:IsEnumOut h6 e it ((i:Int)+1) x hp.objs.size:=e6
 refine Bd e6 (by simp) λh7 e7 s7=>?_
 have s7:Heap.SameBut e h6 h7:=s7
 have e7:IsEnumOut h7 e it ((i:Int)+1) x hp.objs.size:=e7
 have up:∀b o,b≠e->h4.get? b=some o->h7.get? b=some o:=λb o n hb=>s7.extBut _ _ n (s6.extBut _ _ n (s5.extBut _ _ n hb))
 exact Aa (wpAny_letGo (Ac ⟨_,rfl,hQ h7 e7 (i4.at λo ho=>up _ _ hne.symm ho) (up _ _ (Cg lt) t4) (by rw[s7.1,s6.1,s5.1,z4]) λb o n1 n2 hb=>up b o n1 (k4 b o n1 n2 hb)⟩))
theorem xA{k:Bool}{e it l:Addr}{i:Nat}{xs:Array Value}{x old:Value}{Q:Option Value->Shared->Prop}(he:IsEnum s.heap e it i old)(hit:cT k s.heap it l i)(hl:eL k s.heap l xs)(hx:xs[i]? = some x)(hne:e≠it)
 (hQ:∀h',IsEnumOut h' e it ((i:Int)+1) x s.heap.objs.size->cT k h' it l (i+1)->h'.get? s.heap.objs.size=some { cls:=.type "tuple",data:=.seq #[.int i s.toks,x] }->h'.objs.size=s.heap.objs.size+1 ->
  (∀b o,b≠e->b≠it->s.heap.get? b=some o->h'.get? b=some o)->Q (some (.ref s.heap.objs.size)) { s with heap:=h',toks:=s.toks+1 }):wpAny (model prog w) A (pyNext (.ref e)) Q E s:=by
 have T:s.TypeIs (.ref e) "enumerate" := ⟨_,he,rfl⟩
 unfold pyNext
 exact Aa (D1 (Bh (name:=Str.ofString "__next__") T Dq (Bt Dq T F.entry_enumerate_next (aDO he hit hl hx hne λh' a b c d k=>Ac (hQ h' a b c d k)) (F.args_enumerate_next_1 _))))
theorem zW{k:Bool}{e it l:Addr}{i:Nat}{xs:Array Value}{old:Value}{Q:Option Value->Shared->Prop}(hh:A.handled=none)(he:IsEnum s.heap e it i old)(hit:cT k s.heap it l i)(hl:eL k s.heap l xs)(hx:xs[i]? = none)
 (hQ:∀h',Heap.ExtBut it s.heap h'->Q none { s with heap:=h' }):wpAny (model prog w) A (pyNext (.ref e)) Q E s:=by
 have T:s.TypeIs (.ref e) "enumerate" := ⟨_,he,rfl⟩
 unfold pyNext
 refine Aa (D1 (Bh (name:=Str.ofString "__next__") T Dq (Bt Dq T F.entry_enumerate_next ?_ (F.args_enumerate_next_1 _))))
 refine Aa (m:=field (.ref e) 2) (Bn he rfl (x:=.ref it) rfl (Aa (lD hh hit hl hx λh' x g ⟨o,ho,hc⟩=>?_)))
 exact Aa (wpAny_isInstance (T:= "StopIteration") (b:=true) ⟨o,ho,hc⟩ isSubtype_stop (Ac (hQ _ g)))
end
def aDP(it:Addr):Obj:={ cls:=.type "enumerate",data:=.fields #[.none,.bool false,.ref it,rawInt 0,.none,.none] }
theorem aCh(k:Bool)(l:Addr)(xs:Array Value)(ol:Obj):Meets (Builtin.«enumerate.__new__» ⟨[.type "enumerate",.ref l],[]⟩) (λ_ R s=>s.heap.get? l=some ol/\eL k s.heap l xs /\
 R (.ok (.ret (.ref (s.heap.push (iW k l)).objs.size))) { s with heap:=(s.heap.push (iW k l)).push (aDP s.heap.objs.size) }):=
 .of_wp λprog w A R s h=>by
  obtain⟨hp,g,d,tk,os⟩:=s;obtain⟨ho,hl,h⟩:=h
  have hsub:=sub_enumerate
  have hL:eL k (Shared.heap ⟨hp,g,d,tk,os⟩) l xs:=hl
  wp_walk using De ho
  refine wpAny_stack_any λst=>Ac ?_
  split
  . rename_i c _ _ _ _ _
    cases(c==Value.type "enumerate") <;> (wp_walk using De ho,jZ hL;exact⟨_,rfl,h⟩)
  . wp_walk using De ho,jZ hL
    exact⟨_,rfl,h⟩
theorem aDQ{prog:Program}{w:World}{A:Around}{E:Value->Shared->Prop}{s:Shared}{k:Bool}{l:Addr}{xs:Array Value}{Q:Value->Shared->Prop}(hl:eL k s.heap l xs)
 (h:∀h',IsEnum h' (s.heap.objs.size+1) s.heap.objs.size 0 .none->cT k h' s.heap.objs.size l 0->(∀b o,s.heap.get? b=some o->h'.get? b=some o)->Q (.ref (s.heap.objs.size+1)) { s with heap:=h' }) :
 wpAny (model prog w) A (call (.type "enumerate") [.ref l]) Q E s:=by
 obtain⟨ol,ho⟩:∃ol,s.heap.get? l=some ol:=by
  cases k with
  | true=>obtain⟨o,e,_⟩:=hl;exact⟨o,e⟩
  | false=>obtain⟨o,e,_⟩:=hl;exact⟨o,e⟩
 refine callType_new F.called_enumerate (by decide) (F.typeCall_enumerate_1 _) (F.newCall_enumerate_1 _) (λobj=>F.args_object_init_2 obj _) F.entry_enumerate_new (aCh k l xs ol) ⟨ho,hl,?_⟩
 have z:(s.heap.push (iW k l)).objs.size=s.heap.objs.size+1:=B1 ..
 have nf:(iW k l).isFreed=false:=by cases k <;> rfl
 have g2:((s.heap.push (iW k l)).push (aDP s.heap.objs.size)).get? (s.heap.push (iW k l)).objs.size=some (aDP s.heap.objs.size):=Ai _ rfl
 show _/\_
 rw[z] at g2 ⊢
 exact⟨⟨_,g2,rfl⟩,h _ g2 (qC (Ab _ (Ai _ nf))) λb o x=>Ab _ (Ab _ x)⟩
def Ite(K:PySem.W.Frag)(k:Bool)(a:Addr):It:=
 ⟨λi H=>∃xs x,Sq k K H a xs/\xs[i]? = some x,
  λi H v H'=>∃p x,v=.ref p/\H p=none/\K.lookup p=none/\H'=upd H p (.tup [.int i,x])/\∀xs,Sq k K H a xs->xs[i]? = some x,
  λi H=>∃xs,Sq k K H a xs/\xs.length<=i⟩
theorem aGb{P:Program}{w:World}{K:PySem.W.Frag}{k:Bool}{elts:List Expr}{tk:Nat}{tp:Pos}{e it a:Addr}(ne:e≠it) :
 wG P w K (.Tuple elts tk tp) (Ite K k a) [e,it] e (λi h=>(∃old,IsEnum h e it i old)/\cT k h it a i) where
 mem:=by simp
 obj:=λi h st c hc=>by
  obtain⟨⟨old,he⟩,h1⟩:=st
  have hc':c=e\/c=it:=by simpa using hc
  rcases hc' with rfl|rfl
  . exact⟨_,he,λv z=>by cases(show Data.fields _=Data.cell v from z)⟩
  . exact h1.obj
 keep:=λi h h' st kp=>by
  obtain⟨⟨old,he⟩,h1⟩:=st
  exact⟨⟨old,kp e (by simp) _ he⟩,h1.at λo q=>kp it (by simp) o q⟩
 item:=by
  intro X hP hw hK hc i pins s σ H E I hf st hg
  subst hP hw hK
  obtain⟨⟨old,he⟩,h1⟩:=st
  obtain⟨xs,x,ha,hx⟩:=hg
  obtain⟨as,ra,pa,_⟩:=I.sq ha
  obtain⟨ux,hux,rx⟩:=ra.get hx
  refine xA he h1 pa (x:=ux) (by simpa using hux) ne λh' a1 a2 a3 a4 hk=>?_
  refine⟨_,rfl,wpAny_letOwnedTupleGo_enum (s:={ s with heap:=h',toks:=s.toks+1 }) a1 λh'' e' hs'=>?_⟩
  have lt:s.heap.objs.size≠e:=Cg (Ah he)
  have hk2:∀c o,c∉[e,it]->s.heap.get? c=some o->h''.get? c=some o:=λc o hc q=>by
   have hc':c≠e/\c≠it:=by simpa using hc
   exact hs'.extBut _ _ hc'.1 (hk c o hc'.1 hc'.2 q)
  have t1:cT k h'' it a (i+1):=a2.at λo q=>hs'.extBut _ _ ne.symm q
  have tT:h''.get? s.heap.objs.size=some { cls:=.type "tuple",data:=.seq #[.int i s.toks,ux] }:=hs'.extBut _ _ lt a3
  have hn:H s.heap.objs.size=none:=I.fresh
  have I1:Inv X pins σ (upd H s.heap.objs.size (.tup [.int i,x])) { s with heap:=h'',toks:=s.toks+1 }:=by
   refine I.turnsNew (t':=s.toks+1) hf hk2 (λc hc=>?_) (Aj _) ⟨by show 2<=sizeLine;rw[C2];decide,[.int i s.toks,ux],.cons ⟨_,rfl⟩ (.cons rx .nil),_,tT,rfl,_,rfl⟩
   have hc':c=e\/c=it:=by simpa using hc
   rcases hc' with rfl|rfl
   . exact⟨_,e'⟩
   . obtain⟨o,q,_⟩:=t1.obj;exact⟨o,q⟩
  refine⟨.ref s.heap.objs.size,_,I1,rfl,⟨_,x,rfl,hn,I.newK,rfl,λxs' ha'=>?_⟩,⟨⟨_,e'⟩,t1⟩,λc hc=>?_⟩
  . rw[I.sq_inj ha' ha]
    exact hx
  . rw[aZ (Ao ?_)]
    . exact(hf c hc).1
    . have hc':c=e\/c=it:=by simpa using hc
      rcases hc' with rfl|rfl
      . exact Ah he
      . obtain⟨o,q,_⟩:=h1.obj;exact Ah q
 done:=by
  intro X hP hw hK hc i pins s σ H E I hf st hg
  subst hP hw hK
  obtain⟨⟨old,he⟩,h1⟩:=st
  obtain⟨xs,ha,hend⟩:=hg
  obtain⟨as,ra,pa,_⟩:=I.sq ha
  have la:=ra.length
  refine zW (I.ok.hd hc) he h1 pa (by simp;omega) λh' hk=>⟨rfl,I.turns (t':=s.toks) hf λc o hc q=>hk c o ?_ q⟩
  have hc':c≠e/\c≠it:=by simpa using hc
  exact hc'.2
 self:=λ_ _ _ _ _ st h=>let ⟨_,q⟩:=st.1;wpAny_pyIter_enum q h
def iEn(K:PySem.W.Frag)(ta:TA):TI:=λσ H R=>ta σ H λvs H1=>∃(k:Bool) (a:Addr) (xs:List V),vs=[.ref a]/\Sq k K H1 a xs/\R (Ite K k a) H1
theorem aCi:bootBuiltins "enumerate" = some (.type "enumerate"):=by kernel_rfl
theorem aGc{X:Cx}{a:Expr}{ta:TA}{p pos:Pos}{elts:List Expr}{tk:Nat}{tp:Pos}(hg:Gl X "enumerate")(hm:X.mg "enumerate" = none)(ha:PA X [a] ta)(hs:starEach [a] X.env=[(false,eval a X.env)]) :
 PI X (.Tuple elts tk tp) (.Call (.Name "enumerate" p) [a] [] pos) (iEn X.K ta):=by
 intro pins s σ H R I h
 refine Call_ (fL I hg hm aCi (Bw (thn (ha pos pins s σ H _ I h) λus s1 ⟨vs,H1,I1,r1,q1⟩=>?_) (by rw[hs];rfl) rfl))
 obtain⟨k,a1,xs,e,q1,q⟩:=q1
 subst e
 cases r1 with
 | cons r rr=>
  cases rr
  cases r
  obtain⟨as,ra,pa,_⟩:=I1.sq q1
  refine aDQ pa λh' he h1 hk=>wpAny_pyIter_enum (s:={ s1 with heap:=h' }) he ?_
  refine⟨s1.heap.objs.size+1,_,_,_,H1,rfl,I1.kept (t':=s1.toks) hk,aGb (Nat.succ_ne_self _),⟨⟨_,he⟩,h1⟩,λc hc=>?_,q⟩
  have hc':c=s1.heap.objs.size+1\/c=s1.heap.objs.size:=by simpa using hc
  have hle:s1.heap.objs.size<=c:=by rcases hc' with rfl|rfl <;> omega
  exact I1.fpOk hle (I1.hok.fresh hle)
abbrev aIn(h:Heap)(z TI TO:Addr)(f0:Value)(f1:Bool):Prop:=
 h.get? z=some { cls:=.type "zip",dict:=none,data:=.fields #[f0,.bool f1,.bool false,.ref TI,.ref TO],slots:=#[] }
section
variable {prog:Program} {w:World} {A:Around} {E:Value->Shared->Prop} {s:Shared}
end
structure aOi (ka kb:Bool) (z TI TO i1 i2 l1 l2 S:Nat) (xs ys:Array Value) (i:Nat) (h:Heap) (acc:Array Value) (c:Nat):Prop where
 zip:(i=0/\IsZip h z TI TO .none/\∃u v,IsPair h TO u v)\/∃(t:Nat) (f:Bool) (ot:Obj),aIn h z TI TO (rawInt t) f/\h.get? t=some ot/\t≠z/\t≠i1/\t≠i2/\t≠S
 TI:IsPair h TI (.ref i1) (.ref i2)
 i1:cT ka h i1 l1 i
 i2:cT kb h i2 l2 i
 l1:eL ka h l1 xs
 l2:eL kb h l2 ys
 lst:h.get? S=some { cls:=.type "list",dict:=none,data:=.seq acc c,slots:=#[] }
 size:h.objs.size=S+1+i
 acc:acc=((List.range i).map λj=>Value.ref (S+1+j)).toArray
 pair:∀j,j<i->∃x y,xs[j]? = some x/\ys[j]? = some y/\IsPair h (S+1+j) x y
section
variable {prog:Program} {w:World} {A:Around} {s:Shared} {R:Result->Shared->Prop}
variable {ka kb:Bool} {z TI TO i1 i2 l1 l2 S:Nat} {xs ys:Array Value}
end
section
variable {prog:Program} {w:World} {A:Around} {E:Value->Shared->Prop} {s:Shared} {R:Result->Shared->Prop}
variable {ka kb:Bool} {z TI TO i1 i2 l1 l2:Nat} {xs ys:Array Value}
structure zX (ka kb:Bool) (z TI TO i1 i2 l1 l2:Nat) (xs ys:Array Value) (h:Heap):Prop where
 zip:IsZip h z TI TO .none
 TI:IsPair h TI (.ref i1) (.ref i2)
 TO:∃u v,IsPair h TO u v
 i1:cT ka h i1 l1 0
 i2:cT kb h i2 l2 0
 l1:eL ka h l1 xs
 l2:eL kb h l2 ys
theorem zX.at{h h':Heap}(Z:zX ka kb z TI TO i1 i2 l1 l2 xs ys h)(k:∀b o,b=z\/b=TI\/b=TO\/b=i1\/b=i2\/b=l1\/b=l2->h.get? b=some o->h'.get? b=some o):zX ka kb z TI TO i1 i2 l1 l2 xs ys h' where
 zip:=k _ _ (by simp) Z.zip
 TI:=k _ _ (by simp) Z.TI
 TO:=let ⟨u,v,q⟩:=Z.TO;⟨u,v,k _ _ (by simp) q⟩
 i1:=Z.i1.at λo e=>k _ _ (by simp) e
 i2:=Z.i2.at λo e=>k _ _ (by simp) e
 l1:=Z.l1.at λo e=>k _ _ (by simp) e
 l2:=Z.l2.at λo e=>k _ _ (by simp) e
end
section
variable {X:Cx} {pins:List (Addr×Obj)} {σ:St} {H H':Hp} {s:Shared} {h':Heap}
structure Lz (H H':Hp) (l:Nat) (xs ys:List V):Prop where
 same:∀b u,H b=some u->H' b=some u
 free:H l=none
 lst:H' l=some (.lst ((List.range (min xs.length ys.length)).map λj=>.ref (l+1+j)))
 pair:∀(j:Nat) (x y:V),xs[j]? = some x->ys[j]? = some y->H' (l+1+j)=some (.tup [x,y])
end
end L2
end
noncomputable section
namespace Hp
open PySem PySem.Spec PyProof.Rows L2
def Kp(R:Addr->Prop)(H H':Hp):Prop:=∀a o,H a=some o->¬ R a->H' a=some o
theorem Kp.refl(R:Addr->Prop)(H:Hp):Kp R H H:=λ_ _ h _=>h
theorem Kp.same{R:Addr->Prop}{H H':Hp}(s:aX H H'):Kp R H H':=λa o h _=>s a o h
section
variable {K:Fg} {RT Y old R:Addr->Prop} {σ:Sg} {σV:L2.St} {H H':Hp}
theorem Kp.seqL(k:Kp R H H'){a:Addr}{xs:List V}(n:¬ R a)(h:SqL K H a xs):SqL K H' a xs:=by
 rcases h with(h|⟨o,h⟩)|h
 . exact .inl (.inl (k _ _ h n))
 . exact .inl (.inr ⟨o,k _ _ h n⟩)
 . exact .inr h
theorem Kp.seqT(k:Kp R H H')(hR:∀a,R a->∃ys,H a=some (.lst ys)){a:Addr}{xs:List V}(h:SqT K H a xs):SqT K H' a xs:=by
 rcases h with(h|⟨o,h⟩)|h
 . refine .inl (.inl (k _ _ h λz=>?_))
   obtain⟨ys,e⟩:=hR a z
   rw[h] at e;cases e
 . refine .inl (.inr ⟨o,k _ _ h λz=>?_⟩)
   obtain⟨ys,e⟩:=hR a z
   rw[h] at e;cases e
 . exact .inr h
theorem Reps.kp{ex:Addr->Prop}{ds:List D}{xs:List V}(r:Reps K H ex ds xs)(k:Kp R H H')(hR:∀a,R a->∃ys,H a=some (.lst ys))(hx:∀a,R a->ex a):Reps K H' ex ds xs:=
 r.keep λa o e hl=>k a o e λz=>by
  obtain⟨ys,e'⟩:=hR a z
  rw[e] at e'
  cases e'
  exact hl ys rfl (hx a z)
def rtF(RT:Addr->Prop)(σ:Sg)(σV:L2.St)(al:List Nat)(a:Addr):Prop:=RT a/\¬ alR σ σV al a
theorem iM:∀(al:List Nat) (σ:Sg) (i:Nat),(freeze σ al)[i]? = (σ[i]?).map λs=>if i∈al then s.freeze else s
 | [],σ,i=>by cases q:σ[i]? <;> simp[freeze,q]
 | j::al,σ,i=>by
  rw[freeze,iM al]
  cases qj:σ[j]? with
  | none=>
   simp only
   cases q:σ[i]? with
   | none=>rfl
   | some s=>
    have hne:i≠j:=λe=>by subst e;rw[q] at qj;cases qj
    simp[hne]
  | some sj=>
   simp only
   by_cases hij:i=j
   . subst hij
     have hl:i<σ.length:=(Aw.mp qj).1
     rw[Bf hl,qj]
     simp only[Option.map_some,An,true_or,if_true]
     split
     . cases sj <;> rfl
     . rfl
   . rw[Ap (Ne.symm hij)]
     simp[hij]
theorem qD:∀(al:List Nat) (σ:Sg),(freeze σ al).length=σ.length
 | [],σ=>rfl
 | j::al,σ=>by
  rw[freeze,qD al]
  split
  . rw[Ax]
  . rfl
theorem freeze_sh{al:List Nat}{i:Nat}{pa:Bool}{d:D}(h:(freeze σ al)[i]? = some (.sh pa d)):σ[i]? = some (.sh pa d)\/∃ds,i∈al/\σ[i]? = some (.own pa ds)/\d=.lst ds:=by
 rw[iM] at h
 cases q:σ[i]? with
 | none=>rw[q] at h;cases h
 | some s=>
  rw[q] at h
  have h:(if i∈al then s.freeze else s)=.sh pa d:=Ak h
  split at h
  . rename_i hi
    cases s with
    | x=>cases h
    | sh pa' d'=>cases h;exact .inl rfl
    | own pa' ds'=>cases h;exact .inr ⟨ds',hi,rfl,rfl⟩
  . exact .inl (by rw[h])
theorem gD{al:List Nat}{i:Nat}{pa:Bool}{ds:List D}(h:(freeze σ al)[i]? = some (.own pa ds)):σ[i]? = some (.own pa ds)/\i∉al:=by
 rw[iM] at h
 cases q:σ[i]? with
 | none=>rw[q] at h;cases h
 | some s=>
  rw[q] at h
  have h:(if i∈al then s.freeze else s)=.own pa ds:=Ak h
  split at h
  . cases s <;> cases h
  . rename_i hi
    exact⟨by rw[h],hi⟩
theorem Sx.frz(S:Sx K RT Y old σ σV H)(al:List Nat):Sx K (rtF RT σ σV al) Y old (freeze σ al) σV H where
 sh:=λi pa d h=>by
  rcases freeze_sh h with h|⟨ds,hi,ho,e⟩
  . obtain⟨v,h1,h2⟩:=S.sh i pa d h
    exact⟨v,h1,h2.weak λa z=>z.elim (λz=>.inl z.1) .inr⟩
  . subst e
    obtain⟨a,xs,h1,h2,h3,h4,h5⟩:=S.own i pa ds ho
    refine⟨.ref a,h1,a,xs,rfl,SqL.of h2,?_,h5.weak λa z=>z.elim (λz=>.inl z.1) .inr⟩
    rintro (z|z|⟨_,z⟩)
    . exact z.2 ⟨i,hi,⟨pa,ds,ho⟩,h1⟩
    . exact h4 (S.yo a z)
    . exact h4 z
 own:=λi pa ds h=>by
  obtain⟨h,hi⟩:=gD h
  obtain⟨a,xs,h1,h2,h3,h4,h5⟩:=S.own i pa ds h
  refine⟨a,xs,h1,h2,⟨h3,?_⟩,h4,h5.weak λa z=>z.elim (λz=>.inl z.1) .inr⟩
  rintro ⟨j,hj,⟨pa',ds',q⟩,q'⟩
  have:=S.inj i j pa pa' ds ds' a h q h1 q'
  subst this
  exact hi hj
 trk:=λa z=>S.trk a (z.elim (λz=>.inl z.1) .inr)
 yo:=S.yo
 tk:=S.tk
 rt:=λa z=>S.rt a z.1
 inj:=λi j pa pa' ds ds' a h1 h2 h3 h4=>S.inj i j pa pa' ds ds' a (gD h1).1 (gD h2).1 h3 h4
 len:=by rw[qD];exact S.len
theorem Tk.new{p:Addr}{o:HO}(t:Tk K H)(h:K.lookup p=none):Tk K (upd H p o):=λb hb=>by
 by_cases e:b=p
 . rw[e];exact h
 . rw[aZ e] at hb;exact t b hb
def Nw(K:Fg)(H:Hp)(a:Addr):Prop:=H a=none/\K.lookup a=none
theorem aGd{a:Addr}{xs:List V}(q:SqL K H a xs):¬ Nw K H a:=by
 rintro ⟨n,k⟩
 rcases q with(q|⟨o,q⟩)|⟨o,its,m,q,_⟩
 . rw[n] at q;cases q
 . rw[n] at q;cases q
 . rw[k] at q;cases q
theorem Reps.outN{ex:Addr->Prop}{d:List D}{v:List V}(h:Reps K H ex d v):Reps K H (λb=>ex b\/Nw K H b) d v:=
 Reps.imp (λ_ _ q=>q) (λb xs nb q=>⟨λz=>z.elim nb (aGd q),q⟩) (λ_ _ q=>q) d v h
theorem RvN.sub{ex:Addr->Prop}{v:Vl}{d:D}{x:V}(h:Rep K H' (λa=>exV RT Y old σ σV v.pa v.al a\/ex a) d x):Rep K H' (λa=>exV RT Y old σ σV (v.sub d).pa (v.sub d).al a\/ex a) (v.sub d).d x:=by
 unfold Vl.sub
 by_cases hn:noL d=true
 . rw[if_pos hn]
   exact Rep.free d x hn h
 . rw[if_neg hn]
   exact h
structure zY (K:Fg) (RT Y old:Addr->Prop) (σ:Sg) (σV:L2.St) (H1:Hp) (J:L2.It) (xs:List Vl) (al:List Nat):Prop where
 sub:∀v∈xs,∀j∈v.al,j∈al
 nofr:∀v∈xs,v.fr=false
 ok:∀(R:Addr->Prop),(∀b,R b->rtF RT σ σV al b)->∀(i:Nat) (H:Hp),Kp R H1 H->(i<xs.length->J.go i H)/\(xs.length<=i->J.stop i H)/\∀x H',J.yld i H x H'->∀v,xs[i]? = some v->aX H H'/\(Tk K H->Tk K H')/\Rep K H' (λa=>exV RT Y old σ σV v.pa v.al a\/Nw K H1 a) v.d x
theorem uM{v:Vl}{d:D}:∀j∈(v.sub d).al,j∈v.al:=by
 unfold Vl.sub Vl.cl
 split
 . intro j hj;cases hj
 . intro j hj;exact hj
theorem qF{v:Vl}{d:D}:(v.sub d).fr=false:=by
 unfold Vl.sub Vl.cl
 split <;> rfl
theorem kA{x:Vl}{ds:List D}{i:Nat}{v:Vl}(h:(items x ds)[i]? = some v):∃d,ds[i]? = some d/\v=x.sub d:=by
 unfold items at h
 rw[Az] at h
 cases q:ds[i]? with
 | none=>rw[q] at h;cases h
 | some d=>rw[q] at h;exact⟨d,rfl,(Ak h).symm⟩
theorem jE{al:List Nat}{pa:Bool}{b:Addr}(h:rtF RT σ σV al b):exV RT Y old σ σV pa al b:=.inl h
theorem nZ:∀(as bs:List D),(fC as bs).length=min as.length bs.length
 | [],_=>by simp[fC]
 | _::_,[]=>by simp[fC]
 | _::as,_::bs=>by
  rw[fC,lC,nZ as bs,lC,lC]
  omega
theorem xB:∀{as bs:List D} {i:Nat} {a b:D},as[i]? = some a->bs[i]? = some b->(fC as bs)[i]? = some (.tup [a,b])
 | [],_,_,_,_,h,_=>by simp at h
 | _::_,[],_,_,_,_,h=>by simp at h
 | _::_,_::_,0,_,_,h,h'=>by
  simp at h h'
  subst h h'
  rfl
 | _::as,_::bs,i+1,a,b,h,h'=>by
  have:=xB (as:=as) (bs:=bs) (i:=i) (a:=a) (b:=b) (by simpa using h) (by simpa using h')
  simpa[fC] using this
theorem aGe(S:Sx K RT Y old σ σV H){x:Vl}{ds:List D}{a:Addr}{xs:List V}(q:SqL K H a xs)(n:¬ exV RT Y old σ σV x.pa x.al a)(r:Reps K H (exV RT Y old σ σV x.pa x.al) ds xs) :
 zY K RT Y old σ σV H (Itl K a) (items x ds) x.al where
 sub:=λv hv j hj=>by
  obtain⟨d,_,e⟩:=A6.mp hv
  subst e
  exact uM j hj
 nofr:=λv hv=>by
  obtain⟨d,_,e⟩:=A6.mp hv
  subst e
  exact qF
 ok:=λR hR i H1 k=>by
  have q1:SqL K H1 a xs:=k.seqL (λz=>n (jE (hR a z))) q
  have r1:Reps K H1 (λa=>exV RT Y old σ σV x.pa x.al a\/Nw K H a) ds xs:=r.outN.kp k (λb z=>S.rt b (hR b z).1) λb z=>.inl (jE (hR b z))
  have hl:(items x ds).length=xs.length:=by unfold items;rw[lM,r.length]
  refine⟨λhi=>⟨xs,xs[i]'(by omega),q1,Ad (by omega)⟩,λhi=>⟨xs,q1,by omega⟩,λy H' hy v hv=>?_⟩
  obtain⟨e,hy⟩:=hy
  subst e
  obtain⟨d,hd,e⟩:=kA hv
  subst e
  obtain⟨y',hy',ry⟩:=r1.get hd
  rw[hy xs q1] at hy'
  cases hy'
  exact⟨aX.refl _,id,RvN.sub ry⟩
theorem aIo(S:Sx K RT Y old σ σV H){x:Vl}{ds:List D}{a:Addr}{xs:List V}(q:SqT K H a xs)(r:Reps K H (exV RT Y old σ σV x.pa x.al) ds xs) :
 zY K RT Y old σ σV H (Itt K a) (items x ds) x.al where
 sub:=λv hv j hj=>by
  obtain⟨d,_,e⟩:=A6.mp hv
  subst e
  exact uM j hj
 nofr:=λv hv=>by
  obtain⟨d,_,e⟩:=A6.mp hv
  subst e
  exact qF
 ok:=λR hR i H1 k=>by
  have q1:SqT K H1 a xs:=k.seqT (λb z=>S.rt b (hR b z).1) q
  have r1:Reps K H1 (λa=>exV RT Y old σ σV x.pa x.al a\/Nw K H a) ds xs:=r.outN.kp k (λb z=>S.rt b (hR b z).1) λb z=>.inl (jE (hR b z))
  have hl:(items x ds).length=xs.length:=by unfold items;rw[lM,r.length]
  refine⟨λhi=>⟨xs,xs[i]'(by omega),q1,Ad (by omega)⟩,λhi=>⟨xs,q1,by omega⟩,λy H' hy v hv=>?_⟩
  obtain⟨e,hy⟩:=hy
  subst e
  obtain⟨d,hd,e⟩:=kA hv
  subst e
  obtain⟨y',hy',ry⟩:=r1.get hd
  rw[hy xs q1] at hy'
  cases hy'
  exact⟨aX.refl _,id,RvN.sub ry⟩
theorem aDR{lo:Int}{m:Nat}{xs:List Vl}(hx:xs=((List.range m).map λ(k:Nat)=>Vl.cl (.int (lo+(k:Int))))):zY K RT Y old σ σV H (Itr lo m) xs [] where
 sub:=λv hv j hj=>by
  subst hx
  obtain⟨d,_,e⟩:=A6.mp hv
  subst e
  exact hj
 nofr:=λv hv=>by
  subst hx
  obtain⟨d,_,e⟩:=A6.mp hv
  subst e
  rfl
 ok:=λR hR i H1 k=>by
  have hl:xs.length=m:=by rw[hx,lM,Cf]
  refine⟨λhi=>(show i<m by omega),λhi=>(show m<=i by omega),λy H' hy v hv=>?_⟩
  obtain⟨e,hy⟩:=hy
  subst e hy
  subst hx
  rw[Az] at hv
  have hi:i<m:=by
   have:=(Aw.mp (show((List.range m).map λ(k:Nat)=>Vl.cl (.int (lo+(k:Int))))[i]? = some v by rw[Az];exact hv)).1
   simpa using this
  rw[List.getElem?_range hi] at hv
  cases hv
  exact⟨aX.refl _,id,rfl⟩
theorem aIp{z:Str}{xs:List Vl}(hx:xs=(z.cps.toList.map λn=>Vl.cl (.str ⟨#[n]⟩))):zY K RT Y old σ σV H (Its z) xs [] where
 sub:=λv hv j hj=>by
  subst hx
  obtain⟨d,_,e⟩:=A6.mp hv
  subst e
  exact hj
 nofr:=λv hv=>by
  subst hx
  obtain⟨d,_,e⟩:=A6.mp hv
  subst e
  rfl
 ok:=λR hR i H1 k=>by
  have hl:xs.length=z.cps.size:=by rw[hx,lM,Bo]
  refine⟨λhi=>(show i<z.cps.size by omega),λhi=>(show z.cps.size<=i by omega),λy H' hy v hv=>?_⟩
  obtain⟨e,c,hc,hy⟩:=hy
  subst e hy
  subst hx
  rw[Az,C7,hc] at hv
  cases hv
  exact⟨aX.refl _,id,rfl⟩
theorem aIq(S:Sx K RT Y old σ σV H){ka kb:Bool}{as bs:List D}{a b:Addr}{xs ys:List V}{pa:Bool}{al:List Nat}(qa:Sq ka K H a xs)(qb:Sq kb K H b ys)(na:ka=true->¬ exV RT Y old σ σV pa al a)(nb:kb=true->¬ exV RT Y old σ σV pa al b)
 (ra:Reps K H (exV RT Y old σ σV pa al) as xs) (rb:Reps K H (exV RT Y old σ σV pa al) bs ys):zY K RT Y old σ σV H (Itz K ka kb a b) (items ⟨.non,false,pa,al⟩ (fC as bs)) al where
 sub:=λv hv j hj=>by
  obtain⟨d,_,e⟩:=A6.mp hv
  subst e
  exact uM j hj
 nofr:=λv hv=>by
  obtain⟨d,_,e⟩:=A6.mp hv
  subst e
  exact qF
 ok:=λR hR i H1 k=>by
  have keep:∀{kk:Bool} {c:Addr} {zs:List V},(kk=true->¬ exV RT Y old σ σV pa al c)->Sq kk K H c zs->Sq kk K H1 c zs:=by
   intro kk c zs nn q
   cases kk with
   | true=>exact k.seqL (λz=>nn rfl (jE (hR c z))) q
   | false=>exact k.seqT (λb z=>S.rt b (hR b z).1) q
  have qa1:=keep na qa
  have qb1:=keep nb qb
  have ra1:Reps K H1 (λa=>exV RT Y old σ σV pa al a\/Nw K H a) as xs:=ra.outN.kp k (λb z=>S.rt b (hR b z).1) λb z=>.inl (jE (hR b z))
  have rb1:Reps K H1 (λa=>exV RT Y old σ σV pa al a\/Nw K H a) bs ys:=rb.outN.kp k (λb z=>S.rt b (hR b z).1) λb z=>.inl (jE (hR b z))
  have hl:(items ⟨.non,false,pa,al⟩ (fC as bs)).length=min xs.length ys.length:=by unfold items;rw[lM,nZ,ra.length,rb.length]
  have ge:∀(h1:i<xs.length) (h2:i<ys.length),True:=λ_ _=>trivial
  refine⟨λhi=>?_,λhi=>⟨xs,ys,qa1,qb1,by omega⟩,λy H' hy v hv=>?_⟩
  . have h1:i<xs.length:=by omega
    have h2:i<ys.length:=by omega
    exact⟨xs,ys,xs[i],ys[i],qa1,qb1,Ad h1,Ad h2⟩
  . obtain⟨p,x,y',rfl,hp,hk,rfl,hh⟩:=hy
    obtain⟨hx,hy⟩:=hh xs ys qa1 qb1
    obtain⟨d,hd,e⟩:=kA hv
    subst e
    obtain⟨d1,hd1,rd1⟩:=ra1.get' hx
    obtain⟨d2,hd2,rd2⟩:=rb1.get' hy
    rw[xB hd1 hd2] at hd
    cases hd
    have sm:aX H1 (upd H1 p (.tup [x,y'])):=aX.new hp
    refine⟨sm,λtk=>tk.new hk,RvN.sub (v:=⟨.non,false,pa,al⟩) ?_⟩
    exact⟨p,[x,y'],rfl,SqT.of cV,.cons (rd1.grow sm) (.cons (rd2.grow sm) .nil)⟩
theorem lX:∀(as:List D) (j:Int),(gI j as).length=as.length
 | [],_=>rfl
 | _::as,j=>by rw[gI,lC,lX as,lC]
theorem sR:∀{as:List D} {i:Nat} {j:Int} {a:D},as[i]? = some a->(gI j as)[i]? = some (.tup [.int (j+(i:Int)),a])
 | [],_,_,_,h=>by simp at h
 | _::_,0,j,_,h=>by
  simp at h
  subst h
  simp[gI]
 | _::as,i+1,j,a,h=>by
  have:=sR (as:=as) (i:=i) (j:=j+1) (a:=a) (by simpa using h)
  rw[gI,gS,this]
  have e:j+1+(i:Int)=j+((i+1:Nat):Int):=by omega
  rw[e]
theorem aGf(S:Sx K RT Y old σ σV H){k:Bool}{as:List D}{a:Addr}{xs:List V}{x:Vl}(qa:Sq k K H a xs)(na:k=true->¬ exV RT Y old σ σV x.pa x.al a)(ra:Reps K H (exV RT Y old σ σV x.pa x.al) as xs) :
 zY K RT Y old σ σV H (Ite K k a) (items x (gI 0 as)) x.al where
 sub:=λv hv j hj=>by
  obtain⟨d,_,e⟩:=A6.mp hv
  subst e
  exact uM j hj
 nofr:=λv hv=>by
  obtain⟨d,_,e⟩:=A6.mp hv
  subst e
  exact qF
 ok:=λR hR i H1 kp=>by
  have qa1:Sq k K H1 a xs:=by
   cases k with
   | true=>exact kp.seqL (λz=>na rfl (jE (hR a z))) qa
   | false=>exact kp.seqT (λb z=>S.rt b (hR b z).1) qa
  have ra1:Reps K H1 (λa=>exV RT Y old σ σV x.pa x.al a\/Nw K H a) as xs:=ra.outN.kp kp (λb z=>S.rt b (hR b z).1) λb z=>.inl (jE (hR b z))
  have hl:(items x (gI 0 as)).length=xs.length:=by unfold items;rw[lM,lX,ra.length]
  refine⟨λhi=>⟨xs,xs[i]'(by omega),qa1,Ad (by omega)⟩,λhi=>⟨xs,qa1,by omega⟩,λy H' hy v hv=>?_⟩
  obtain⟨p,z,rfl,hp,hk,rfl,hh⟩:=hy
  obtain⟨d,hd,e⟩:=kA hv
  subst e
  obtain⟨d1,hd1,rd1⟩:=ra1.get' (hh xs qa1)
  rw[sR hd1,Int.zero_add] at hd
  cases hd
  have sm:aX H1 (upd H1 p (.tup [.int i,z])):=aX.new hp
  refine⟨sm,λtk=>tk.new hk,RvN.sub (v:=x) ?_⟩
  exact⟨p,[.int i,z],rfl,SqT.of cV,.cons rfl (.cons (rd1.grow sm) .nil)⟩
end
section
variable {X:Cx} {P:Pg} {Γ:Ct} {n:Nat} {RT Y old:Addr->Prop} {σ:Sg} {tg:Expr}
def wI(X:Cx)(P:Pg)(n:Nat)(RT Y old:Addr->Prop)(σ:Sg)(it:Hp.It):TI:=λσV H R=>Sx X.K RT Y old σ σV H/\RE (walk P (call P n) σ it) λxs=>∀J H1,Tk X.K H1->aX H H1->zY X.K RT Y old σ σV H1 J xs.1 xs.2->R J H1
theorem qG{iter:Expr}{t t':TI}(h:PI X tg iter t)(f:∀σV H R,Tk X.K H->t' σV H R->t σV H λJ H'=>Tk X.K H'->R J H'):PI X tg iter t':=λpins s σV H R I hw=>
 thn (h pins s σV H _ I (f σV H R I.tk hw)) λv s1 h1=>thn h1 λitv s2 ⟨it,fp,tn,J,H',e,I',T,st,fo,q⟩=>⟨it,fp,tn,J,H',e,I',T,st,fo,q I'.tk⟩
theorem aLa{c:E}{e:Expr}(ha:PE X e (WE X P n RT Y old σ c)):PI X tg e (wI X P n RT Y old σ (.seq c)):=by
 refine qG (aIm ha) λσV H RR t ⟨S,h⟩=>?_
 have h:=RE.bind' (show RE (ev P (call P n) σ c >>= λx=>(match x.d with
  | .lst ds=>R.ok (items x ds,x.al)
  | .tup ds=>R.ok (items x ds,x.al)
  | .str a=>R.iff (decide (a.length<=lim)) (R.ok (a.cps.toList.map λn=>Vl.cl (.str ⟨#[n]⟩),[]))
  | _=>.bad)) _ from h)
 refine wE.one S h λx u H1 hx t1 S1 r1=>?_
 have rv:=r1.rv S
 split at hx
 . rename_i ds d1
   obtain⟨a,xs,e,q,nn,r⟩:=rv.lst d1
   exact .inl ⟨a,e,.inl ⟨⟨xs,q⟩,λt'=>hx _ _ t' r1.1 (aGe S1 q nn r)⟩⟩
 . rename_i ds d1
   obtain⟨a,xs,e,q,r⟩:=rv.tup d1
   exact .inl ⟨a,e,.inr ⟨⟨xs,q⟩,λt'=>hx _ _ t' r1.1 (aIo S1 q r)⟩⟩
 . rename_i z d1
   obtain⟨c,hx⟩:=hx.iff
   exact .inr ⟨z,rv.str d1,λt'=>hx _ _ t' r1.1 (aIp rfl)⟩
 . exact hx.elim
theorem qH(i j:Int):(fM i j).map Vl.cl=(List.range (j-i).toNat).map λ(k:Nat)=>Vl.cl (.int (i+(k:Int))):=by
 unfold fM
 rw[A3]
 rfl
theorem nE{k:Int}(h:aN k=true):-(2 ^ 62)<=k/\k<2 ^ 62:=by
 unfold aN at h
 simp only[bA,A1] at h
 exact h
theorem aIr(M:Mc X P Γ n){b:E}{e:Expr}{f:Str}{p pos:Pos}(hf:f=("range" : Str))(hg:dR Γ f=true)(ha:PE X e (WE X P n RT Y old σ b))(hp:bK e=true):PI X tg (.Call (.Name f p) [e] [] pos) (wI X P n RT Y old σ (.rng (.c (.int 0)) b)):=by
 subst hf
 refine qG (aBI (M.gl hg) (M.md.blt _ (by decide +kernel)) (lB ha wY hp) (aE hp)) λσV H RR t ⟨S,h⟩=>?_
 have h:RE (ev P (call P n) σ b) λy=>RE (match (D.int 0),y.d with|.int i,.int j=>R.iff (aN i&&aN j) (R.ok ((fM i j).map Vl.cl,[]))|_,_=>.bad) _:=
  RE.bind' (show RE (ev P (call P n) σ b >>= λy=>(match (D.int 0),y.d with|.int i,.int j=>R.iff (aN i&&aN j) (R.ok ((fM i j).map Vl.cl,[]))|_,_=>.bad)) _ from h)
 refine⟨S,?_⟩
 show RE (ev P (call P n) σ b >>= λx=>evs P (call P n) σ .z >>= λxs=>R.ok (x::xs)) _
 rw[RE.bind]
 refine h.mono λy hy=>?_
 split at hy
 . rename_i i j e1 e2
   cases e1
   obtain⟨c,hy⟩:=hy.iff
   rw[bA] at c
   have c2:=nE c.2
   intro us H1 t1 s1 r1
   obtain⟨u,r',eu,ru,hr⟩:=r1
   rw[show r'=[] from hr] at eu
   subst eu
   refine⟨j,by rw[ru.int e2],c2.1,c2.2,λt'=>hy _ _ t' s1 (aDR ?_)⟩
   rw[qH]
   simp
 . exact hy.elim
theorem aIs(M:Mc X P Γ n){a b:E}{ea eb:Expr}{f:Str}{p pos:Pos}(hf:f=("range" : Str))(hg:dR Γ f=true)(ha:PE X ea (WE X P n RT Y old σ a))(hb:PE X eb (WE X P n RT Y old σ b))(hpa:bK ea=true)(hpb:bK eb=true) :
 PI X tg (.Call (.Name f p) [ea,eb] [] pos) (wI X P n RT Y old σ (.rng a b)):=by
 subst hf
 refine qG (aBJ (M.gl hg) (M.md.blt _ (by decide +kernel)) (lB ha (lB hb wY hpb) hpa) (by rw[aE hpa,aE hpb];rfl) (aE hpb)) λσV H RR t ⟨S,h⟩=>?_
 have h:=RE.bind' (show RE (ev P (call P n) σ a >>= λx=>ev P (call P n) σ b >>= λy=>(match x.d,y.d with|.int i,.int j=>R.iff (aN i&&aN j) (R.ok ((fM i j).map Vl.cl,[]))|_,_=>.bad)) _ from h)
 refine⟨S,?_⟩
 show RE (ev P (call P n) σ a >>= λx=>evs P (call P n) σ (.k b .z) >>= λxs=>R.ok (x::xs)) _
 rw[RE.bind]
 refine h.mono λx hx=>?_
 rw[RE.bind]
 show RE (ev P (call P n) σ b >>= λx=>evs P (call P n) σ .z >>= λxs=>R.ok (x::xs)) _
 rw[RE.bind]
 refine(RE.bind' hx).mono λy hy=>?_
 split at hy
 . rename_i i j e1 e2
   obtain⟨c,hy⟩:=hy.iff
   rw[bA] at c
   have c1:=nE c.1
   have c2:=nE c.2
   intro us H1 t1 s1 r1
   obtain⟨u,r',eu,ru,u2,r2,eu2,ru2,hr⟩:=r1
   rw[show r2=[] from hr] at eu2
   subst eu2
   subst eu
   refine⟨i,j,by rw[ru.int e1,ru2.int e2],⟨c1.1,c1.2,c2.1,c2.2⟩,λt'=>hy _ _ t' s1 (aDR ?_)⟩
   rw[qH]
 . exact hy.elim
theorem zZ{σV:L2.St}{H:Hp}{x:Vl}{u:V}{ds:List D}(hx:Rv X.K RT Y old σ σV H x u)(h:iZ x.d=some ds):∃(k:Bool) (a:Addr) (xs:List V),u=.ref a/\Sq k X.K H a xs/\(k=true->¬ exV RT Y old σ σV x.pa x.al a)/\Reps X.K H (exV RT Y old σ σV x.pa x.al) ds xs:=by
 unfold iZ at h
 split at h
 . rename_i ds' d1
   cases h
   obtain⟨a,xs,e,q,nn,r⟩:=hx.lst d1
   exact⟨true,a,xs,e,q,λ_=>nn,r⟩
 . rename_i ds' d1
   cases h
   obtain⟨a,xs,e,q,r⟩:=hx.tup d1
   exact⟨false,a,xs,e,q,(λz=>absurd z bN),r⟩
 . cases h
theorem aLb(M:Mc X P Γ n){a b:E}{ea eb:Expr}{f:Str}{p pos:Pos}{elts:List Expr}{tk:Nat}{tp:Pos}(hf:f=("zip" : Str))(hg:dR Γ f=true)(ha:PE X ea (WE X P n RT Y old σ a))(hb:PE X eb (WE X P n RT Y old σ b))(hpa:bK ea=true)(hpb:bK eb=true) :
 PI X (.Tuple elts tk tp) (.Call (.Name f p) [ea,eb] [] pos) (wI X P n RT Y old σ (.zip a b)):=by
 subst hf
 refine qG (aIl (M.gl hg) (M.md.blt _ (by decide +kernel)) (lB ha (lB hb wY hpb) hpa) (by rw[aE hpa,aE hpb];rfl) (aE hpb)) λσV H RR t ⟨S,h⟩=>?_
 have h:=RE.bind' (show RE (ev P (call P n) σ a >>= λx=>ev P (call P n) σ b >>= λy=>(match iZ x.d,iZ y.d with
  | some as,some bs=>R.ok (items ⟨.non,false,x.pa||y.pa,x.al++y.al⟩ (fC as bs),x.al++y.al)
  | _,_=>.bad)) _ from h)
 refine⟨S,?_⟩
 show RE (ev P (call P n) σ a >>= λx=>evs P (call P n) σ (.k b .z) >>= λxs=>R.ok (x::xs)) _
 rw[RE.bind]
 refine h.mono λx hx=>?_
 rw[RE.bind]
 show RE (ev P (call P n) σ b >>= λx=>evs P (call P n) σ .z >>= λxs=>R.ok (x::xs)) _
 rw[RE.bind]
 refine(RE.bind' hx).mono λy hy=>?_
 split at hy
 . rename_i as bs e1 e2
   intro us H1 t1 s1 r1
   obtain⟨u,r',eu,ru,u2,r2,eu2,ru2,hr⟩:=r1
   rw[show r2=[] from hr] at eu2
   subst eu2
   subst eu
   obtain⟨ka,a1,xs,rfl,qa,na,ra⟩:=zZ ru e1
   obtain⟨kb,b1,ys,rfl,qb,nb,rb⟩:=zZ ru2 e2
   have S1:=S.grow s1 t1
   have w1:∀c,exV RT Y old σ σV (x.pa||y.pa) (x.al++y.al) c->exV RT Y old σ σV x.pa x.al c:=λc z=>z.mono (λhp=>by rw[hp];rfl) λj hj=>Bg _ hj
   have w2:∀c,exV RT Y old σ σV (x.pa||y.pa) (x.al++y.al) c->exV RT Y old σ σV y.pa y.al c:=λc z=>z.mono (λhp=>by rw[hp,Bool.or_true]) λj hj=>Aq _ hj
   exact⟨ka,kb,a1,b1,xs,ys,rfl,qa,qb,λt'=>hy _ _ t' s1 (aIq S1 qa qb (λhk z=>na hk (w1 _ z)) (λhk z=>nb hk (w2 _ z)) (ra.weak w1) (rb.weak w2))⟩
 . exact hy.elim
theorem aIt(M:Mc X P Γ n){a:E}{ea:Expr}{f:Str}{p pos:Pos}{elts:List Expr}{tk:Nat}{tp:Pos}(hf:f=("enumerate" : Str))(hg:dR Γ f=true)(ha:PE X ea (WE X P n RT Y old σ a))(hpa:bK ea=true) :
 PI X (.Tuple elts tk tp) (.Call (.Name f p) [ea] [] pos) (wI X P n RT Y old σ (.enum a)):=by
 subst hf
 refine qG (aGc (M.gl hg) (M.md.blt _ (by decide +kernel)) (lB ha wY hpa) (aE hpa)) λσV H RR t ⟨S,h⟩=>?_
 have h:=RE.bind' (show RE (ev P (call P n) σ a >>= λx=>(match iZ x.d with|some as=>R.ok (items x (gI 0 as),x.al)|none=>.bad)) _ from h)
 refine⟨S,?_⟩
 show RE (ev P (call P n) σ a >>= λx=>evs P (call P n) σ .z >>= λxs=>R.ok (x::xs)) _
 rw[RE.bind]
 refine h.mono λx hx=>?_
 split at hx
 . rename_i as e1
   intro us H1 t1 s1 r1
   obtain⟨u,r',eu,ru,hr⟩:=r1
   rw[show r'=[] from hr] at eu
   subst eu
   obtain⟨k,a1,xs,rfl,qa,na,ra⟩:=zZ ru e1
   exact⟨k,a1,xs,rfl,qa,λt'=>hx _ _ t' s1 (aGf (S.grow s1 t1) qa na ra)⟩
 . exact hx.elim
end
section
variable {X:Cx} {P:Pg} {n:Nat} {Γ:Ct} {RT Y old:Addr->Prop} {σ:Sg}
end
def gs:List Nat->TGs
 | []=>aJZ
 | i::is=>aGN (sC i) (gs is)
def gT(K:Fg):T->TG
 | .n i=>sC i
 | .t is=>aKa K is.length (gs is)
section
variable {K:Fg} {RT Y old:Addr->Prop} {σ:Sg} {σV:L2.St} {H H':Hp}
theorem set_some{α:Type}{l:List α}{i j:Nat}{x y:α}(e:(l.set i x)[j]? = some y):(i=j/\x=y/\i<l.length)\/(i≠j/\l[j]? = some y):=by
 by_cases hij:i=j
 . subst hij
   have hl:i<(l.set i x).length:=(Aw.mp e).1
   rw[Ax] at hl
   rw[Bf hl] at e
   cases e
   exact .inl ⟨rfl,rfl,hl⟩
 . rw[Ap hij] at e
   exact .inr ⟨hij,e⟩
theorem Sx.setSh(S:Sx K RT Y old σ σV H){i:Nat}{pa:Bool}{d:D}{u:V}(h:Rep K H (λa=>RT a\/exB Y old pa a) d u):Sx K RT Y old (σ.set i (.sh pa d)) (σV.set i (some u)) H where
 sh:=λj pa' d' e=>by
  rcases set_some e with⟨rfl,e,hl⟩|⟨hij,e⟩
  . cases e
    exact⟨u,Bf (by rw[<-S.len];exact hl),h⟩
  . obtain⟨v,h1,h2⟩:=S.sh j pa' d' e
    exact⟨v,by rw[Ap hij];exact h1,h2⟩
 own:=λj pa' ds e=>by
  rcases set_some e with⟨rfl,e,hl⟩|⟨hij,e⟩
  . cases e
  . obtain⟨a,xs,h1,h2⟩:=S.own j pa' ds e
    exact⟨a,xs,by rw[Ap hij];exact h1,h2⟩
 trk:=S.trk
 yo:=S.yo
 tk:=S.tk
 rt:=S.rt
 inj:=λj j' pa' pa'' ds ds' a e1 e2 e3 e4=>by
  rcases set_some e1 with⟨_,e,_⟩|⟨n1,e1⟩
  . cases e
  rcases set_some e2 with⟨_,e,_⟩|⟨n2,e2⟩
  . cases e
  rw[Ap n1] at e3
  rw[Ap n2] at e4
  exact S.inj j j' pa' pa'' ds ds' a e1 e2 e3 e4
 len:=by rw[Ax,Ax];exact S.len
theorem Rep.out{ex:Addr->Prop}{d:D}{v:V}{a:Addr}(h:Rep K H ex d v)(n:H a=none)(k:K.lookup a=none):Rep K H (λb=>b=a\/ex b) d v:=
 Rep.imp (λ_ _ q=>q) (λb xs nb q=>⟨λz=>z.elim (λz=>by
  subst z
  rcases q with(q|⟨o,q⟩)|⟨o,its,m,q,_⟩
  . rw[n] at q;cases q
  . rw[n] at q;cases q
  . rw[k] at q;cases q) nb,q⟩) (λ_ _ q=>q) d v h
theorem Reps.out{ex:Addr->Prop}{d:List D}{v:List V}{a:Addr}(h:Reps K H ex d v)(n:H a=none)(k:K.lookup a=none):Reps K H (λb=>b=a\/ex b) d v:=
 Reps.imp (λ_ _ q=>q) (λb xs nb q=>⟨λz=>z.elim (λz=>by
  subst z
  rcases q with(q|⟨o,q⟩)|⟨o,its,m,q,_⟩
  . rw[n] at q;cases q
  . rw[n] at q;cases q
  . rw[k] at q;cases q) nb,q⟩) (λ_ _ q=>q) d v h
theorem Sx.storeOwn(S:Sx K RT Y old σ σV H){i:Nat}{a:Addr}{xs:List V}{ds:List D}{pa:Bool}(s:aX H H')(t:Tk K H')(hn:H a=none)(ha:H' a=some (.lst xs))(r:Reps K H' (λb=>(RT b\/b=a)\/exB Y old pa b) ds xs) :
 Sx K (λb=>RT b\/b=a) Y old (σ.set i (.own pa ds)) (σV.set i (some (.ref a))) H' where
 sh:=λj pa' d' e=>by
  rcases set_some e with⟨rfl,e,hl⟩|⟨hij,e⟩
  . cases e
  . obtain⟨v,h1,h2⟩:=S.sh j pa' d' e
    refine⟨v,by rw[Ap hij];exact h1,((h2.out hn (t a (by rw[ha];simp))).grow s).weak λb z=>?_⟩
    rcases z with(z|z)|z
    . exact .inr (.inl z)
    . exact .inl z
    . exact .inr (.inr z)
 own:=λj pa' ds' e=>by
  rcases set_some e with⟨rfl,e,hl⟩|⟨hij,e⟩
  . cases e
    exact⟨a,xs,Bf (by rw[<-S.len];exact hl),ha,.inr rfl,λz=>S.trk a (.inr (.inr z)) hn,r⟩
  . obtain⟨a',xs',h1,h2,h3,h4,h5⟩:=S.own j pa' ds' e
    refine⟨a',xs',by rw[Ap hij];exact h1,s _ _ h2,.inl h3,h4,((h5.out hn (t a (by rw[ha];simp))).grow s).weak λb z=>?_⟩
    rcases z with(z|z)|z
    . exact .inr (.inl z)
    . exact .inl z
    . exact .inr (.inr z)
 trk:=λb z q=>by
  rcases z with(z|z)|z
  . exact S.trk b (.inl z) (s.free q)
  . rw[z,ha] at q;cases q
  . exact S.trk b (.inr z) (s.free q)
 yo:=S.yo
 tk:=t
 rt:=λb z=>by
  rcases z with z|z
  . obtain⟨ys,e⟩:=S.rt b z
    exact⟨ys,s _ _ e⟩
  . rw[z];exact⟨xs,ha⟩
 inj:=λj j' pa' pa'' ds1 ds2 c e1 e2 e3 e4=>by
  have fr:∀{j:Nat} {pa:Bool} {ds:List D},σ[j]? = some (.own pa ds)->σV[j]? = some (some (.ref a))->False:=λ{j pa ds} e q=>by
   obtain⟨a',xs',h1,h2,_⟩:=S.own j pa ds e
   rw[q] at h1
   cases h1
   rw[hn] at h2;cases h2
  rcases set_some e1 with⟨rfl,e,hl⟩|⟨n1,e1⟩
  . rcases set_some e2 with⟨rfl,_,_⟩|⟨n2,e2⟩
    . rfl
    . rw[Bf (by rw[<-S.len];exact hl)] at e3
      cases e3
      rw[Ap n2] at e4
      exact(fr e2 e4).elim
  . rw[Ap n1] at e3
    rcases set_some e2 with⟨rfl,e,hl⟩|⟨n2,e2⟩
    . rw[Bf (by rw[<-S.len];exact hl)] at e4
      cases e4
      exact(fr e1 e3).elim
    . rw[Ap n2] at e4
      exact S.inj j j' pa' pa'' ds1 ds2 c e1 e2 e3 e4
 len:=by rw[Ax,Ax];exact S.len
theorem kB{v:Vl}(h:v.fr=false):v.slot=.sh v.pa v.d:=by
 unfold Vl.slot
 rw[h]
theorem aGg{v:Vl}{ds:List D}(h:v.fr=true)(hd:v.d=.lst ds):v.slot=.own v.pa ds:=by
 unfold Vl.slot
 rw[h,hd]
theorem Sx.store(S:Sx K RT Y old σ σV H){v:Vl}{u:V}(ro:Ro K RT Y old σ σV H H' v u)(t:Tk K H')(i:Nat) :
 ∃RT',Sx K RT' Y old ((freeze σ v.al).set i v.slot) (σV.set i (some u)) H'/\∀b,RT' b->RT b\/H b=none:=by
 by_cases hf:v.fr=true
 . obtain⟨s,h⟩:=ro
   rw[if_pos hf] at h
   obtain⟨a,xs,ds,e1,e2,e3,e4,r⟩:=h
   subst e1
   rw[aGg hf e2]
   refine⟨_,(S.frz v.al).storeOwn s t e3 e4 (r.weak λb z=>?_),λb z=>z.elim (λz=>.inl z.1) λz=>.inr (by rw[z];exact e3)⟩
   rcases z with(z|z)|z
   . exact .inr (.inl z)
   . exact .inl z
   . exact .inr (.inr z)
 . rw[kB (by simpa using hf)]
   exact⟨_,((S.grow ro.1 t).frz v.al).setSh (ro.rv S),λb z=>.inl z.1⟩
theorem aDS:∀{is:List Nat} {us:List V} {σV:L2.St} {H:Hp} {Q:L2.St->Hp->Prop},is.length=us.length->Q ((is.zip us).foldl (λs p=>s.set p.1 (some p.2)) σV) H->gs is us σV H Q
 | [],[],_,_,_,_,h=>⟨rfl,h⟩
 | [],_::_,_,_,_,e,_=>by simp at e
 | _::_,[],_,_,_,e,_=>by simp at e
 | i::is,u::us,σV,H,Q,e,h=>⟨u,us,rfl,aDS (is:=is) (us:=us) (by simpa using e) h⟩
theorem xC{v:Vl}{d:D}:(v.sub d).slot=.sh (!noL d&&v.pa) d:=by
 rw[kB qF]
 unfold Vl.sub Vl.cl
 split
 . rename_i h;rw[h];rfl
 . rename_i h
   have:noL d=false:=by simpa using h
   rw[this];rfl
theorem Sx.setAll{v:Vl}:∀{is:List Nat} {ds:List D} {us:List V} {σ:Sg} {σV:L2.St},Sx K RT Y old σ σV H->Reps K H (λa=>RT a\/exB Y old v.pa a) ds us ->
 Sx K RT Y old ((is.zip ds).foldl (λσ p=>σ.set p.1 (v.sub p.2).slot) σ) ((is.zip us).foldl (λs p=>s.set p.1 (some p.2)) σV) H
 | [],_,_,_,_,S,_=>S
 | _::_,[],us,_,_,S,r=>by rw[show us=[] from r];exact S
 | i::is,d::ds,us,σ,σV,S,r=>by
  obtain⟨x,r',e,h1,h2⟩:=r
  subst e
  refine Sx.setAll (v:=v) (is:=is) (ds:=ds) (us:=r') ?_ h2
  show Sx K RT Y old (σ.set i (v.sub d).slot) (σV.set i (some x)) H
  rw[xC]
  refine S.setSh ?_
  cases hn:noL d with
  | true=>exact Rep.free d x hn h1
  | false=>exact h1
theorem nF{α:Type}{β:Type}(f:β->α):∀{is:List Nat} {bs:List β} {l:List α} {j:Nat},j∉is->((is.zip bs).foldl (λs p=>s.set p.1 (f p.2)) l)[j]? = l[j]?
 | [],_,_,_,_=>rfl
 | _::_,[],_,_,_=>rfl
 | i::is,b::bs,l,j,h=>by
  have h':i≠j/\j∉is:=by
   refine⟨λe=>h (by simp[e]),λz=>h (Ag _ z)⟩
  rw[A8,B6,nF f (is:=is) (bs:=bs) h'.2,Ap h'.1]
theorem xD{α:Type}{β:Type}(f:β->α):∀{is:List Nat} {bs:List β} {l:List α},((is.zip bs).foldl (λs p=>s.set p.1 (f p.2)) l).length=l.length
 | [],_,_=>rfl
 | _::_,[],_=>rfl
 | i::is,b::bs,l=>by rw[A8,B6,xD f (is:=is) (bs:=bs),Ax]
theorem fold_mem{α:Type}{β:Type}(f:β->α):∀{is:List Nat} {bs:List β} {l:List α} {j:Nat} {x:α},((is.zip bs).foldl (λs p=>s.set p.1 (f p.2)) l)[j]? = some x->l[j]? = some x\/∃b,x=f b
 | [],_,_,_,_,h=>.inl h
 | _::_,[],_,_,_,h=>.inl h
 | i::is,b::bs,l,j,x,h=>by
  rw[A8,B6] at h
  rcases fold_mem f (is:=is) (bs:=bs) h with q|q
  . rcases set_some q with⟨_,e,_⟩|⟨_,e⟩
    . exact .inr ⟨b,e.symm⟩
    . exact .inl e
  . exact .inr q
theorem qJ{v:Vl}{is:List Nat}{σ2:Sg}(e:cI σ v (.t is)=.ok σ2):∃ds,v.d=.tup ds/\ds.length=is.length/\σ2=(is.zip ds).foldl (λσ p=>σ.set p.1 (v.sub p.2).slot) σ:=by
 unfold cI at e
 simp only at e
 split at e
 . rename_i ds hd
   split at e
   . rename_i hl
     cases e
     exact⟨ds,hd,hl,rfl⟩
   . cases e
 . cases e
theorem qK{v:Vl}{i:Nat}{σ2:Sg}(e:cI σ v (.n i)=.ok σ2):σ2=σ.set i v.slot:=by
 cases(show R.ok (σ.set i v.slot)=R.ok σ2 from e)
 rfl
theorem aDT{v:Vl}{t:T}{σ2:Sg}{j:Nat}(e:cI σ v t=.ok σ2)(h:j∉tIx t):σ2[j]? = σ[j]? := by
 cases t with
 | n i=>
  rw[qK e]
  exact Ap λz=>h (by simp[tIx,z])
 | t is=>
  obtain⟨ds,_,_,e⟩:=qJ e
  rw[e]
  exact nF (λd=>(v.sub d).slot) h
theorem aDU{v:Vl}{t:T}{σ2:Sg}(e:cI σ v t=.ok σ2):σ2.length=σ.length:=by
 cases t with
 | n i=>rw[qK e,Ax]
 | t is=>
  obtain⟨ds,_,_,e⟩:=qJ e
  rw[e]
  exact xD (λd=>(v.sub d).slot)
theorem aDV{v:Vl}{t:T}{σ2:Sg}{j:Nat}{pa:Bool}{ds:List D}(hf:v.fr=false)(e:cI σ v t=.ok σ2)(h:σ2[j]? = some (.own pa ds)):σ[j]? = some (.own pa ds):=by
 cases t with
 | n i=>
  rw[qK e,kB hf] at h
  rcases set_some h with⟨_,e,_⟩|⟨_,e⟩
  . cases e
  . exact e
 | t is=>
  obtain⟨ds',_,_,e⟩:=qJ e
  rw[e] at h
  rcases fold_mem (λd=>(v.sub d).slot) h with q|⟨b,q⟩
  . exact q
  . rw[xC] at q;cases q
theorem aDW(S:Sx K RT Y old σ σV H){t:T}{v:Vl}{u:V}{Q:L2.St->Hp->Prop}{σ2:Sg}(hfr:v.fr=false)(h:Rep K H (λa=>RT a\/exB Y old v.pa a) v.d u)(e:cI σ v t=.ok σ2)
 (q:∀σ2V,Sx K RT Y old σ2 σ2V H->(∀j,j∉tIx t->σ2V[j]? = σV[j]?)->Q σ2V H):gT K t u σV H Q:=by
 cases t with
 | n i=>
  rw[qK e,kB hfr] at q
  exact q _ (S.setSh h) λj hj=>Ap λz=>hj (by simp[tIx,z])
 | t is=>
  obtain⟨ds,hd,hl,e⟩:=qJ e
  rw[hd] at h
  obtain⟨a,xs,rfl,hq,r⟩:=h
  have l2:=r.length
  refine⟨a,xs,rfl,hq,by omega,aDS (by omega) (q _ ?_ λj hj=>?_)⟩
  . rw[e];exact S.setAll r
  . exact nF (λd=>some d) hj
end
section
variable {X:Cx} {P:Pg} {Γ:Ct} {n:Nat} {RT Y old:Addr->Prop} {σ:Sg} {tg:Expr} {pos:Pos}
theorem qL(M:Mc X P Γ n):∀{is:List Nat} {es:List Expr},is.length=es.length->((is.zip es).all λp=>match p.2 with|.Name x _=>cO Γ p.1 x|_=>false)=true ->
 PGs X es (gs is)/\(assignEach es X.env).length=is.length/\(assignEach es X.env).findIdx? (·.1)=none
 | [],[],_,_=>⟨aFv,rfl,rfl⟩
 | [],_::_,e,_=>by simp at e
 | _::_,[],e,_=>by simp at e
 | i::is,e::es,hl,h=>by
  rw[A8,List.all_cons,bA] at h
  obtain⟨h1,h2,h3⟩:=qL M (is:=is) (es:=es) (by simpa using hl) h.2
  cases e with
  | Name x p=>
   have hs:cO Γ i x=true:=h.1
   unfold cO at hs
   simp only[bA,beq_iff_eq] at hs
   have e1:assignEach (.Name x p::es) X.env=(false,assign (.Name x p) X.env)::assignEach es X.env:=rfl
   refine⟨aDa (aAJ M.nd (by rw[M.N];exact hs.1.1) (M.loc hs.1.2) (M.st x hs.1.2)) h1 (by rw[e1];rfl),?_,?_⟩
   . rw[e1,lC,lC,h2]
   . rw[e1,List.findIdx?_cons]
     simp[h3]
  | _=>cases h.1
theorem aGh(M:Mc X P Γ n){t:T}(h:oF Γ t tg=true):PG X tg (gT X.K t):=by
 cases t with
 | n i=>
  cases tg with
  | Name x p=>
   have hs:cO Γ i x=true:=h
   unfold cO at hs
   simp only[bA,beq_iff_eq] at hs
   exact aAJ M.nd (by rw[M.N];exact hs.1.1) (M.loc hs.1.2) (M.st x hs.1.2)
  | _=>cases h
 | t is=>
  cases tg with
  | Tuple es k p=>
   have h:(is.length==es.length&&(is.zip es).all λp=>match p.2 with|.Name x _=>cO Γ p.1 x|_=>false)=true:=h
   rw[bA,beq_iff_eq] at h
   obtain⟨h1,h2,h3⟩:=qL M h.1 h.2
   exact aHD M.calm h1 h2 h3
  | _=>cases h
def ch0(k:Nat)(caps:List Nat)(σ:Sg):Sg:=List.replicate k .x++caps.map λi=>(σ[i]?).getD .x
theorem ch0_get{k:Nat}{caps:List Nat}{σ:Sg}{j:Nat}{s:Sl}(h:(ch0 k caps σ)[j]? = some s):s=.x\/∃j' i,j=k+j'/\caps[j']? = some i/\σ[i]? = some s:=by
 unfold ch0 at h
 by_cases hj:j<k
 . rw[Bc (by simpa using hj),Ci,if_pos hj] at h
   cases h
   exact .inl rfl
 . rw[Au (by simpa using hj),A0,Az] at h
   cases e:caps[j-k]? with
   | none=>rw[e] at h;cases h
   | some i=>
    rw[e] at h
    have h':(σ[i]?).getD .x=s:=Ak h
    cases q:σ[i]? with
    | none=>rw[q] at h';exact .inl h'.symm
    | some z=>rw[q] at h';exact .inr ⟨j-k,i,by omega,e,by rw[q];exact congrArg some h'⟩
theorem aDX{k:Nat}{caps:List Nat}{σ:Sg}{j:Nat}{s:Sl}(hj:j<k)(h:(ch0 k caps σ)[j]? = some s):s=.x:=by
 unfold ch0 at h
 rw[Bc (by simpa using hj),Ci,if_pos hj] at h
 cases h
 rfl
theorem aAT{k:Nat}{caps:List Nat}{σV:L2.St}{j i:Nat}{v:V}(e:caps[j]? = some i)(h:σV[i]? = some (some v)):(kZ k caps σV)[k+j]? = some (some v):=by
 unfold kZ
 rw[Au (by simp),A0,Az,Df,e]
 show some ((σV[i]?).getD none)=_
 rw[h];rfl
theorem uN{k:Nat}{caps:List Nat}{σV:L2.St}{j i:Nat}{v:V}(e:caps[j]? = some i)(h:(kZ k caps σV)[k+j]? = some (some v)):σV[i]? = some (some v):=by
 unfold kZ at h
 rw[Au (by simp),A0,Az,Df,e] at h
 have h':(σV[i]?).getD none=some v:=Ak h
 cases q:σV[i]? with
 | none=>rw[q] at h';cases h'
 | some z=>rw[q] at h';exact congrArg some h'
theorem sU{α:Type}:∀{l:List α},l.Nodup->∀{i j:Nat} {x:α},l[i]? = some x->l[j]? = some x->i=j
 | [],_,_,_,_,h,_=>by simp at h
 | a::l,hn,0,0,_,_,_=>rfl
 | a::l,hn,0,j+1,x,h1,h2=>by
  have e:a=x:=by simpa using h1
  have:x∈l:=mG (by simpa using h2)
  subst e
  exact absurd this (C1.mp hn).1
 | a::l,hn,i+1,0,x,h1,h2=>by
  have e:a=x:=by simpa using h2
  have:x∈l:=mG (by simpa using h1)
  subst e
  exact absurd this (C1.mp hn).1
 | a::l,hn,i+1,j+1,x,h1,h2=>congrArg (·+1) (sU (C1.mp hn).2 (i:=i) (j:=j) (x:=x) (by simpa using h1) (by simpa using h2))
theorem Sx.child{K:Fg}{σV:L2.St}{H:Hp}(S:Sx K RT Y old σ σV H){k:Nat}{caps:List Nat}(nd:caps.Nodup):Sx K RT Y old (ch0 k caps σ) (kZ k caps σV) H where
 sh:=λj pa d e=>by
  rcases ch0_get e with z|⟨j',i,rfl,hc,hs⟩
  . cases z
  . obtain⟨v,h1,h2⟩:=S.sh i pa d hs
    exact⟨v,aAT hc h1,h2⟩
 own:=λj pa ds e=>by
  rcases ch0_get e with z|⟨j',i,rfl,hc,hs⟩
  . cases z
  . obtain⟨a,xs,h1,h2⟩:=S.own i pa ds hs
    exact⟨a,xs,aAT hc h1,h2⟩
 trk:=S.trk
 yo:=S.yo
 tk:=S.tk
 rt:=S.rt
 inj:=λj1 j2 pa pa' ds ds' a e1 e2 e3 e4=>by
  rcases ch0_get e1 with z|⟨j1',i1,rfl,hc1,hs1⟩
  . cases z
  rcases ch0_get e2 with z|⟨j2',i2,rfl,hc2,hs2⟩
  . cases z
  have:=S.inj i1 i2 pa pa' ds ds' a hs1 hs2 (uN hc1 e3) (uN hc2 e4)
  subst this
  rw[sU nd hc1 hc2]
 len:=by
  unfold ch0 kZ
  rw[lA,lA,lM,lM,A0,A0]
theorem Sx.forget{K:Fg}{σ':Sg}{σV:L2.St}{H:Hp}(S:Sx K RT Y old σ σV H)(hl:σ'.length=σ.length)(h:∀(j:Nat) (s:Sl),σ'[j]? = some s->s=.x\/σ[j]? = some s):Sx K RT Y old σ' σV H where
 sh:=λj pa d e=>by
  rcases h j _ e with z|z
  . cases z
  . exact S.sh j pa d z
 own:=λj pa d e=>by
  rcases h j _ e with z|z
  . cases z
  . exact S.own j pa d z
 trk:=S.trk
 yo:=S.yo
 tk:=S.tk
 rt:=S.rt
 inj:=λj1 j2 pa pa' ds ds' a e1 e2 e3 e4=>by
  rcases h j1 _ e1 with z|z1
  . cases z
  rcases h j2 _ e2 with z|z2
  . cases z
  exact S.inj j1 j2 pa pa' ds ds' a z1 z2 e3 e4
 len:=by rw[hl];exact S.len
def wTs(X:Cx)(P:Pg)(n:Nat)(RT Y old:Addr->Prop)(σ:Sg)(cs:Es):TT:=λσV H Q=>Sx X.K RT Y old σ σV H/\RE (tsts P (call P n) σ cs) λk=>∀H',Tk X.K H'->aX H H'->Q k H'
theorem aIu:PTs X [] (wTs X P n RT Y old σ .z):=λpins s σV H Q I ⟨S,h⟩=>aFV pins s σV H Q I ((show ∀H',Tk X.K H'->aX H H'->Q true H' from h) H I.tk (aX.refl H))
theorem aIv{c:E}{e:Expr}(h:PT X e (WT X P n RT Y old σ c)):PTs X [e] (wTs X P n RT Y old σ (.k c .z)):=λpins s σV H Q I ⟨S,hh⟩=>aFW h pins s σV H Q I ⟨S,by
 have hh:=RE.bind' (show RE (tst P (call P n) σ c >>= λx=>if x=true then tsts P (call P n) σ .z else R.ok false) _ from hh)
 refine hh.mono λk hk=>?_
 cases k with
 | true=>exact hk
 | false=>exact hk⟩
theorem Rvs.append{K:Fg}{σV:L2.St}{H:Hp}:∀{vs ws:List Vl} {us zs:List V},Rvs K RT Y old σ σV H vs us->Rvs K RT Y old σ σV H ws zs->Rvs K RT Y old σ σV H (vs++ws) (us++zs)
 | [],_,_,_,h,q=>by rw[show _=[] from h];exact q
 | v::vs,_,_,_,h,q=>by
  obtain⟨u,r,e,h1,h2⟩:=h
  subst e
  exact⟨u,_,rfl,h1,Rvs.append h2 q⟩
def lv(k:Nat)(caps al:List Nat)(v:Vl):Vl:=⟨v.d,false,v.pa,al++v.al.filterMap λj=>caps[j-k]?⟩
theorem xE{f:Vl->R (Option Vl)}{x:Vl}{xs rs:List Vl}(h:eR f (x::xs)=.ok rs):∃y ys,f x=.ok y/\eR f xs=.ok ys/\rs=(match y with|some y=>y::ys|none=>ys):=by
 have h:(f x >>= λy=>eR f xs >>= λys=>(match y with|some y=>R.ok (y::ys)|none=>R.ok ys))=R.ok rs:=h
 cases q1:f x with
 | ok y=>
  rw[q1] at h
  have h:(eR f xs >>= λys=>(match y with|some y=>R.ok (y::ys)|none=>R.ok ys))=R.ok rs:=h
  cases q2:eR f xs with
  | ok ys=>
   rw[q2] at h
   refine⟨y,ys,rfl,rfl,?_⟩
   cases y with
   | none=>cases(show R.ok ys=R.ok rs from h);rfl
   | some y=>cases(show R.ok (y::ys)=R.ok rs from h);rfl
  | exc z=>rw[q2] at h;cases h
  | bad=>rw[q2] at h;cases h
 | exc z=>rw[q1] at h;cases h
 | bad=>rw[q1] at h;cases h
theorem R.bind_ok{α β:Type}{x:R α}{f:α->R β}{b:β}(h:(x >>= f)=.ok b):∃a,x=.ok a/\f a=.ok b:=by
 cases x with
 | ok a=>exact⟨a,rfl,h⟩
 | exc z=>cases h
 | bad=>cases h
theorem aDY{k:Nat}{caps:List Nat}{t:T}{it:Hp.It}{cond:Es}{elt:E}(hnd:caps.Nodup)(hk:∀i∈tIx t,i<k){σV:L2.St}{H:Hp}{Q:VK}(hw:WE X P n RT Y old σ (.comp k caps t it cond elt) σV H Q) :
 aDA k caps (wI X P n RT Y old σ it) (gT X.K t) (λσV H Q=>∃RT Y old σ1,wTs X P n RT Y old σ1 cond σV H Q) (λσV H Q=>∃RT Y old σ1,WE X P n RT Y old σ1 elt σV H Q) σV H λv H'=>Tk X.K H'->Q v H':=by
 obtain⟨S,h⟩:=hw
 let f:List Nat->Vl->R (Option Vl):=λal x=>cI (ch0 k caps (freeze σ al)) x t >>= λσ1=>tsts P (call P n) σ1 cond >>= λb=>if b=true then (ev P (call P n) σ1 elt >>= λy=>R.ok (some y)) else R.ok none
 have h:=RE.bind' (show RE (walk P (call P n) σ it >>= λxs=>eR (f xs.2) xs.1 >>= λvs=>R.iff (decide (vs.length<=lim)) (R.ok (fQ k caps xs.2 vs))) (Wn X RT Y old σ σV H Q) from h)
 refine⟨S,h.mono λxs hx J H1 t1 s1 ok=>?_⟩
 obtain⟨vs,evs,hv⟩:=(RE.bind' hx).eq
 obtain⟨hl,hq⟩:=hv.iff
 have hl:=A9 hl
 have hq:Wn X RT Y old σ σV H Q (fQ k caps xs.2 vs):=hq
 have S1:=S.grow s1 t1
 have Sf:=S1.frz xs.2
 refine⟨λi m ys σ1V Hc=>m=xs.1.length-i/\i<=xs.1.length/\aX H1 Hc/\Tk X.K Hc/\Sx X.K (rtF RT σ σV xs.2) Y old (ch0 k caps (freeze σ xs.2)) σ1V Hc/\(∀j,k<=j->σ1V[j]? = (kZ k caps σV)[j]?) /\
  ∃ws rs,vs=ws++rs/\eR (f xs.2) (xs.1.drop i)=.ok rs/\Rvs X.K RT Y old σ σV Hc (ws.map (lv k caps xs.2)) ys,⟨_,rfl,B5 _,aX.refl _,t1,Sf.child hnd,λ_ _=>rfl,[],vs,rfl,evs,rfl⟩,?_⟩
 rintro i m ys σ1V Hc ⟨hm,hi,sc,tc,Sc,hcap,ws,rs,evs',ego,rvs⟩
 have okc:=ok.ok (λ_=>False) (λ_ z=>z.elim) i Hc (Kp.same sc)
 have hly:=rvs.length
 rw[lM] at hly
 have hws:ws.length<=vs.length:=by rw[evs',lA];omega
 by_cases hlt:i<xs.1.length
 . refine .inr ⟨okc.1 hlt,by rw[<-hly,C2];have:lim=1000000:=rfl;omega,λx H' hy=>?_⟩
   have hxi:xs.1[i]? = some xs.1[i]:=Ad hlt
   obtain⟨sm,tkf,rv⟩:=okc.2.2 x H' hy xs.1[i] hxi
   have rv:Rep X.K H' (exV RT Y old σ σV xs.1[i].pa xs.1[i].al) xs.1[i].d x:=Rep.weak rv λa z=>.inl z
   rw[Br hlt] at ego
   obtain⟨yo,ys',ef,ego',ers⟩:=xE ego
   obtain⟨σ1,eσ,ef⟩:=R.bind_ok ef
   obtain⟨b,eb,ef⟩:=R.bind_ok ef
   have hmem:xs.1[i]∈xs.1:=Ba hlt
   have hnf:=ok.nofr _ hmem
   have rep:Rep X.K H' (λa=>rtF RT σ σV xs.2 a\/exB Y old xs.1[i].pa a) xs.1[i].d x:=Rep.weak rv λa z=>by
    rcases z with z|z
    . exact .inl ⟨z.1,λq=>z.2 (q.mono (ok.sub _ hmem))⟩
    . exact .inr z
   refine aDW (Sc.grow sm (tkf tc)) hnf rep eσ λσ2V S2 hkeep=>⟨_,_,_,σ1,S2,?_⟩
   rw[eb]
   intro H3 t3 s3
   have capk:∀j,k<=j->σ2V[j]? = (kZ k caps σV)[j]? := λj hj=>by
    rw[hkeep j λz=>absurd (hk j z) (Nat.not_lt.mpr hj),hcap j hj]
   have back:∀{H5:Hp},Sx X.K (rtF RT σ σV xs.2) Y old σ1 σ2V H5->Sx X.K (rtF RT σ σV xs.2) Y old (ch0 k caps (freeze σ xs.2)) σ2V H5:=λ{H5} S5=>S5.forget (aDU eσ).symm λj s hs=>by
    by_cases hj:j∈tIx t
    . exact .inl (aDX (hk j hj) hs)
    . exact .inr (by rw[aDT eσ hj];exact hs)
   cases b with
   | false=>
    rw[if_neg bN] at ef ⊢
    cases(show R.ok none=R.ok yo from ef)
    have ers:rs=ys':=ers
    subst ers
    exact⟨_,by omega,rfl,hlt,sc.trans (sm.trans s3),t3,back (S2.grow s3 t3),capk,ws,rs,evs',ego',rvs.grow (sm.trans s3)⟩
   | true=>
    rw[if_pos rfl] at ef ⊢
    obtain⟨y,ey,ef⟩:=R.bind_ok ef
    cases(show R.ok (some y)=R.ok yo from ef)
    have ers:rs=y::ys':=ers
    subst ers
    refine⟨_,_,_,σ1,S2.grow s3 t3,?_⟩
    rw[ey]
    intro u H4 t4 ro4
    have s4:=ro4.1
    have rv4:Rep X.K H4 (exV (rtF RT σ σV xs.2) Y old σ1 σ2V y.pa y.al) y.d u:=ro4.rv (S2.grow s3 t3)
    refine⟨_,by omega,rfl,hlt,sc.trans (sm.trans (s3.trans s4)),t4,back ((S2.grow s3 t3).grow s4 t4),capk,ws++[y],ys',by rw[evs'];simp,ego',?_⟩
    rw[Ay]
    refine(rvs.grow (sm.trans (s3.trans s4))).append ⟨u,[],rfl,?_,rfl⟩
    show Rep X.K H4 (exV RT Y old σ σV y.pa (xs.2++y.al.filterMap λj=>caps[j-k]?)) y.d u
    refine rv4.weak λc z=>?_
    rcases z with⟨z1,z2⟩|z
    . refine .inl ⟨⟨z1,λq=>z2 (q.mono λj hj=>Bg _ hj)⟩,λq=>z2 ?_⟩
      obtain⟨j,hj,⟨pa,ds,ho⟩,hV⟩:=q
      have ho:=aDV hnf eσ ho
      rcases ch0_get ho with z|⟨j',i',rfl,hc,hs⟩
      . cases z
      . rw[capk _ (Nat.le_add_right _ _)] at hV
        refine⟨i',Aq _ (Di.mpr ⟨k+j',hj,by rw[Df];exact hc⟩),⟨pa,ds,(gD hs).1⟩,uN hc hV⟩
    . exact .inr z
 . have hie:i=xs.1.length:=by omega
   subst hie
   rw[List.drop_length] at ego
   cases(show R.ok []=R.ok rs from ego)
   rw[Ch] at evs'
   subst evs'
   refine .inl ⟨okc.2.1 (Aj _),by rw[<-hly];exact gC hl,λp hp t'=>hq _ _ t' ?_⟩
   have Sc':=S.grow (s1.trans sc) tc
   have emap:(vs.map (lv k caps xs.2)).map (·.d)=vs.map (·.d):=by rw[A3];rfl
   have rr:Reps X.K Hc (exV RT Y old σ σV (dZ vs) (xs.2++(bT vs).filterMap λj=>caps[j-k]?)) (vs.map (·.d)) ys:=by
    rw[<-emap]
    refine rvs.reps λv hv=>?_
    obtain⟨w,hw,e⟩:=A6.mp hv
    subst e
    refine⟨λz=>wR hw z,λj hj=>?_⟩
    rcases Bs.mp hj with z|z
    . exact Bg _ z
    . obtain⟨j',hj',e⟩:=Di.mp z
      exact Aq _ (Di.mpr ⟨j',nX hw j' hj',e⟩)
   unfold fQ
   split
   . rename_i hn
     exact(Ro.fresh hp t' rfl rfl Sc' (Reps.free _ _ hn rr)).from (s1.trans sc)
   . exact(Ro.fresh hp t' rfl rfl Sc' rr).from (s1.trans sc)
theorem aIw(M:Mc X P Γ n){k:Nat}{caps:List Nat}{t:T}{it:Hp.It}{cond:Es}{elt:E}{e iter:Expr}{ifs:List Expr}{scope:Scope}{N':List Str}(CS:dY X scope k caps N')(hnd:caps.Nodup)(hk:∀i∈tIx t,i<k)
 (hi:PI X tg iter (wI X P n RT Y old σ it))
 (hch:∀C s₀ H₀ ex,PG (eQ X scope N' C s₀ H₀ ex) tg (gT X.K t)/\(∀RT Y old σ1,PTs (eQ X scope N' C s₀ H₀ ex) ifs (wTs X P n RT Y old σ1 cond))/\∀RT Y old σ1,PE (eQ X scope N' C s₀ H₀ ex) e (WE X P n RT Y old σ1 elt))
 (hs:∀x,foldedSetIterable iter X.env x=pure x):PE X (.ListComp e [⟨tg,iter,ifs,0⟩] scope pos) (WE X P n RT Y old σ (.comp k caps t it cond elt)):=by
 refine(aAS (g:=gT X.K t) (tt:=λσV H Q=>∃RT Y old σ1,wTs X P n RT Y old σ1 cond σV H Q) (te:=λσV H Q=>∃RT Y old σ1,WE X P n RT Y old σ1 elt σV H Q) CS M.calm hi (λC s₀ H₀ ex=>?_) hs).imp λσV H Q t0 hw=>aDY hnd hk hw
 . obtain⟨h1,h2,h3⟩:=hch C s₀ H₀ ex
   exact⟨h1,λpins s σV H Q I ⟨RT,Y,old,σ1,hw⟩=>h2 RT Y old σ1 pins s σV H Q I hw,λpins s σV H Q I ⟨RT,Y,old,σ1,hw⟩=>h3 RT Y old σ1 pins s σV H Q I hw⟩
end
end Hp
end
noncomputable section
namespace L2
open PySem PySem.Spec PyProof.Rows
set_option maxRecDepth 100000
def all16:List (List Nat):=(List.range 16).map λm=>(List.range 4).filter λk=>m / 2 ^ k % 2==1
def iN(led:Bool)(ks:List Nat):SetTable:={ mask:=7,place:=ks.toArray,dummies:=#[],finger:=0,led:=led,moves:=0,plain:=true }
def aAa(k:Nat)(ks:List Nat):Nat:=SetTable.below ks.toArray k
def jA(k:Nat)(ks:List Nat):List Nat:=ks.take (aAa k ks)++k::ks.drop (aAa k ks)
theorem aDZ:∀led:Bool,∀ks∈all16,∀k∈List.range 4,k∉ks->(iN led ks).freeSlot (k:Int)=some (k,false)/\(iN led ks).put k=(iN led (jA k ks),aAa k ks)/\(iN led (jA k ks)).fits (ks.length+1)=true/\(iN led (jA k ks)).tooFull=false/\jA k ks∈all16:=by decide +kernel
theorem jF:∀led:Bool,∀ks∈all16,(iN led ks).fits ks.length=true:=by decide +kernel
theorem aHb:∀k∈List.range 4,hashInt (k:Int)=(k:Int):=by decide +kernel
def cJ(tok:Nat->Tok)(ks:List Nat):Array (Int×Value):=(ks.map λ(k:Nat)=>((k:Int),Value.int (k:Int) (tok k))).toArray
theorem bX(tok:Nat->Tok)(ks:List Nat):(cJ tok ks).size=ks.length:=by unfold cJ;rw[Af,lM]
theorem xF{α:Type}(l:List α)(p:Nat)(x:α):SetTable.insertAt l.toArray p x=(l.take p++x::l.drop p).toArray:=by
 unfold SetTable.insertAt
 apply Array.ext'
 simp[List.extract_eq_drop_take]
 rw[Bv (by rw[B7];omega)]
theorem aIx(tok:Nat->Tok){ks:List Nat}{k:Nat}(t:Tok)(hk:k∉ks):SetTable.insertAt (cJ tok ks) (aAa k ks) ((k:Int),Value.int (k:Int) t)=cJ (λj=>if j=k then t else tok j) (jA k ks):=by
 unfold cJ jA
 rw[xF,Ay,mC,Dd,Dp]
 have e:(ks.map λ(j:Nat)=>((j:Int),Value.int (j:Int) (if j=k then t else tok j)))=ks.map λ(j:Nat)=>((j:Int),Value.int (j:Int) (tok j)):=Cq λj hj=>by
  rw[if_neg λz=>hk (by rw[<-z];exact hj)]
 rw[e]
 simp
section
variable {prog:Program} {w:World} {A:Around} {E:Value->Shared->Prop} {s:Shared}
def byT(w:World):Bool:=w.params.followText "set-order"
def iX(w:World)(h:Heap)(S:Addr)(ks:List Nat):Prop:=ks∈all16/\∃tok ep,h.get? S=some { cls:=.type "set",dict:=none,data:=.set (cJ tok ks) ep (iN (!byT w) ks),slots:=#[] }
theorem aLc{tok:Nat->Tok}{ks:List Nat}(h:ks∈all16):ElemsOf (intKind prog w) (cJ tok ks).toList:=by
 intro e he
 unfold cJ at he
 rw[Dy] at he
 obtain⟨k,hk,rfl⟩:=A6.mp he
 have hk4:k∈List.range 4:=by
  obtain⟨m,_,rfl⟩:=A6.mp h
  exact(C9.mp hk).1
 exact⟨⟨(k:Int),intKind_is _ _ _ _,(aHb k hk4).symm⟩,rfl⟩
theorem aLd{tok:Nat->Tok}{ks:List Nat}(k:Nat):((cJ tok ks).toList.findIdx? λe=>(intKind prog w).is (k:Int) e.2)=if k∈ks then ks.findIdx? (·==k) else none:=by
 unfold cJ
 rw[Dy,List.findIdx?_map]
 have e:((λe:Int×Value=>(intKind prog w).is (k:Int) e.2)∘λj:Nat=>((j:Int),Value.int (j:Int) (tok j)))=λj:Nat=>(j==k):=by
  funext j
  show Value.isInt (k:Int) (Value.int (j:Int) (tok j))=(j==k)
  unfold Value.isInt
  by_cases hj:j=k
  . subst hj;simp
  . have h1:(j==k)=false:=by simpa using hj
    rw[h1]
    simp
    omega
 rw[e]
 split
 . rfl
 . rename_i hk
   rw[List.findIdx?_eq_none_iff]
   intro j hj
   simpa using λz:j=k=>hk (by rw[<-z];exact hj)
theorem aNn{S:Addr}{ks:List Nat}{k:Nat}{t:Tok}{Q:Bool->Shared->Prop}(hS:iX w s.heap S ks)(hk:k∈List.range 4)
 (h:∀h' b,Heap.SameBut S s.heap h'->iX w h' S (if k∈ks then ks else jA k ks)->Q b { s with heap:=h' }):wpAny (model prog w) A (setAddHashed S (.int (k:Int) t) (hashInt (k:Int))) Q E s:=by
 obtain⟨h16,tok,ep,ho⟩:=hS
 have hf:(iN (!byT w) ks).fits (cJ tok ks).size=true:=by rw[bX];exact jF _ ks h16
 have hl4:ks.length<=4:=by
  have:∀ks∈all16,ks.length<=4:=by decide +kernel
  exact this ks h16
 have hb:(cJ tok ks).size<scanBound:=by rw[bX];unfold scanBound;omega
 unfold setAddHashed setAddHashedIn
 refine Bp (Aa (D9 ho rfl hf ?_))
 dsimp only
 rw[byScan_of (knd:=intKind prog w) rfl hb (aLc h16)]
 simp only[↓reduceIte]
 unfold setAddByScan
 refine Aa ?_
 refine Aa (wpAny_rule ?_)
 refine Aa (wpAny_setScan_of (knd:=intKind prog w) (k:=(k:Int)) (intKind_is _ _ _ _) ho rfl hf (aLc h16) ?_)
 rw[aLd]
 by_cases hm:k∈ks
 . rw[if_pos hm]
   obtain⟨j,hj⟩:∃j,ks.findIdx? (·==k)=some j:=by
    cases q:ks.findIdx? (·==k) with
    | some j=>exact⟨j,rfl⟩
    | none=>
     rw[List.findIdx?_eq_none_iff] at q
     have:=q k hm
     simp at this
   rw[hj]
   dsimp only
   refine Ac (Ac ?_)
   have:=h s.heap false (Heap.SameBut.refl S s.heap) (by rw[if_pos hm];exact⟨h16,tok,ep,ho⟩)
   exact this
 . rw[if_neg hm]
   dsimp only
   obtain⟨g1,g2,g3,g4,g5⟩:=aDZ (!byT w) ks h16 k hk hm
   have hlay:layNew (iN (!byT w) ks) (cJ tok ks) (hashInt (k:Int)) (.int (k:Int) t)=(cJ (λj=>if j=k then t else tok j) (jA k ks),iN (!byT w) (jA k ks),false,false):=by
    have hsz:(cJ (λj=>if j=k then t else tok j) (jA k ks)).size=ks.length+1:=by
     rw[bX]
     unfold jA
     rw[lA,lC,A2,B7]
     have:aAa k ks<=ks.length\/ks.length<aAa k ks:=by omega
     rcases this with z|z
     . omega
     . exfalso
       have q:∀ks∈all16,∀k∈List.range 4,aAa k ks<=ks.length:=by decide +kernel
       have:=q ks h16 k hk
       omega
    unfold layNew
    rw[aHb k hk,g1]
    dsimp only
    rw[g2]
    dsimp only
    rw[aIx tok t hm,hsz,show(iN (!byT w) (jA k ks)).orStandIn (ks.length+1)=iN (!byT w) (jA k ks) by unfold SetTable.orStandIn;rw[g3,if_pos rfl],g3]
    rfl
   rw[hlay]
   dsimp only
   refine Aa (Ac ?_)
   rw[if_pos (show(iN (!byT w) (jA k ks)).plain=true from rfl),hashByValue_scannable 8 (x:=.int (k:Int) t) rfl]
   refine Aa (Ac ?_)
   rw[if_pos (show plainKind (.int (k:Int) t)=true from rfl)]
   have hsz4:(cJ (λj=>if j=k then t else tok j) (jA k ks)).size<scanBound:=by
    have:∀ks∈all16,ks.length<=4:=by decide +kernel
    have:=this _ g5
    rw[bX];unfold scanBound;omega
   refine Aa (wpAny_storeSet_of ho rfl ?_ (fits_of_scanBound hsz4))
   rw[g4]
   refine Ac ?_
   refine Ac (h _ true (Heap.SameBut.update s.heap S _) ?_)
   rw[if_neg hm]
   refine⟨g5,λj=>if j=k then t else tok j,ep+1,?_⟩
   have:=Heap.get?_update_self (Obj.putSet (cJ (λj=>if j=k then t else tok j) (jA k ks)) (iN (!byT w) (jA k ks))) ho rfl
   exact this
end
def aAb(ks:List Nat)(k:Nat):List Nat:=if k∈ks then ks else jA k ks
def oH(ns:List Nat):List Nat:=ns.foldl aAb []
theorem aCj(ns:List Nat)(k:Nat):oH (ns++[k])=aAb (oH ns) k:=by unfold oH;rw[Ds];rfl
def aEa(vs:List Value)(ns:List Nat):Prop:=Paired (λv (n:Nat)=>n<4/\∃t,v=Value.int (n:Int) t) vs ns
theorem aEa.get:∀{vs:List Value} {ns:List Nat},aEa vs ns->∀{i:Nat} {v:Value},vs[i]? = some v->∃n,ns[i]? = some n/\n<4/\∃t,v=Value.int (n:Int) t
 | _,_,.nil,_,_,h=>by simp at h
 | _,_,.cons r _,0,_,h=>by simp at h;subst h;exact⟨_,rfl,r⟩
 | _,_,.cons _ t,i+1,v,h=>by
  obtain⟨k,h1,h2⟩:=aEa.get t (i:=i) (v:=v) (by simpa using h)
  exact⟨k,by simpa using h1,h2⟩
section
variable {prog:Program} {w:World} {A:Around} {R:Result->Shared->Prop} {I:Addr} {fp wr:List Addr} {G:Array GenState->Array GenState->Prop} {n:Nat} {P:Nat->Value->Prop} {St:Nat->Shared->Prop}
theorem iX.keep{h h':Heap}{S:Addr}{ks:List Nat}(x:iX w h S ks)(e:∀o,h.get? S=some o->h'.get? S=some o):iX w h' S ks:=by
 obtain⟨a,tok,ep,ho⟩:=x
 exact⟨a,tok,ep,e _ ho⟩
theorem aCk(W:WalksS prog w A.in1 I fp wr G n P St)(S:Addr)(hSf:S∉fp)(ns:List Nat)(hval:∀i v,P i v->∃k,ns[i]? = some k/\k<4/\∃t,v=Value.int (k:Int) t)(hn:ns.length=n) :
 ∀(m i:Nat) (s:Shared),n-i=m->i<=n->St i s->iX w s.heap S (oH (ns.take i)) ->
  (∀s',Moved (S::wr) G s s'->iX w s'.heap S (oH ns)->R (.ok (.ret .none)) s') ->
  codeAny (model prog w) A (.builtin "set.update.loop" ⟨[.ref S,.ref I],[]⟩) R s:=by
 have nw:S∉wr:=λh=>hSf (W.sub _ h)
 have sb:∀b∈wr,b∈S::wr:=λb hb=>Ag _ hb
 intro m
 induction m with
 | zero=>
  intro i s hk hi hst hS hR
  obtain rfl:i=n:=by omega
  refine Cs Ca ?_
  rw[Cj Bj _]
  show wpAny _ A.in1 (pyNext (.ref I) >>= _) _ _ s
  refine Aa (W.done s _ _ hst λs' hm=>?_)
  show wpAny _ A.in1 (ret Value.none) _ _ s'
  rw[Bv (by omega)] at hS
  exact Ac (hR s' (hm.mono sb) (hS.keep λo e=>hm.heap S o nw e))
 | succ m ih=>
  intro i s hk hi hst hS hR
  have hlt:i<n:=by omega
  refine Cs Ca ?_
  rw[Cj Bj _]
  show wpAny _ A.in1 (pyNext (.ref I) >>= _) _ _ s
  refine Aa (W.item i s _ _ hlt hst λv s' hP hst' hm=>?_)
  obtain⟨k,hk1,hk2,t,rfl⟩:=hval i v hP
  have hS':iX w s'.heap S (oH (ns.take i)):=hS.keep λo e=>hm.heap S o nw e
  have htk:ns.take (i+1)=ns.take i++[k]:=by
   rw[List.take_succ,hk1];rfl
  show wpAny _ A.in1 (holding [Value.int (k:Int) t] (setAdd S (Value.int (k:Int) t)) >>= _) _ _ s'
  refine Aa (Bp ?_)
  unfold setAdd
  refine Bp ?_
  refine Aa ((intKind prog w).pyHash (k:=(k:Int)) (intKind_is _ _ _ _) ?_)
  refine aNn (s:={ s' with toks:=s'.toks+1 }) hS' (Cm.mpr hk2) λh' b hsb hS2=>?_
  have hSi:iX w h' S (oH (ns.take (i+1))):=by rw[htk,aCj];exact hS2
  refine Ac ⟨plainId_quiet Bj _,ih (i+1) _ (by omega) hlt (W.frame _ s' _ _ hst' (Dt _) λb hb o e=>?_) hSi λs'' hm'' hS''=>?_⟩
  . rw[hsb.2 b λh:b=S=>hSf (by rw[<-h];exact hb)];exact e
  . refine hR s'' (Moved.trans W.gtrans ((hm.mono sb).then_heap (Dt _) λb o hb e=>?_) hm'') hS''
    rw[hsb.2 b λh:b=S=>hb (by rw[h];exact Al)];exact e
end
section
variable {prog:Program} {w:World} {A:Around} {E:Value->Shared->Prop} {s:Shared}
theorem aEb(a:Value){Q₁:Value->Shared->Prop}(h:Q₁ (.ref s.heap.objs.size) { s with heap:=s.heap.push { cls:=.type "set",dict:=none,data:=.set #[] 0 (.fresh 0 0 (!byT w)) } }) :
 codeAny (model prog w) A (.call (.builtin "set.__new__") ⟨[.type "set",a],[]⟩) (wants Q₁ E) s:=by
 refine codeAny_of_tree ?_
 show wpAny _ A.in1 (do checkBuiltinCall "set.__new__" ⟨[.type "set",a],[]⟩;again (.builtin "set.__new__" ⟨[.type "set",a],[]⟩)) _ _ s
 refine Aa (wpAny_of_eq (F.newCall_set_1 a) (Ac ⟨plainId_quiet F.plain_set_new _,Cs F.entry_set_new ?_⟩))
 rw[Cj F.plain_set_new _]
 unfold Builtin.«set.__new__» Builtin.Frozenset.newClass
 have hsub:=sub_set_self
 obtain⟨hp,g,d,tk,os⟩:=s
 dsimp only
 wp_walk
 refine Dv (Ac ?_)
 dsimp only
 simp only[newObj]
 refine Aa (wpAny_alloc (Ac ?_))
 exact Ac h
set_option maxHeartbeats 3200000 in
theorem aCl{l:Addr}{items:Array Value}{ns:List Nat}{Q:Value->Shared->Prop}(hh:A.handled=none)(hl:s.heap.IsList l items)(hi:aEa items.toList ns)(hn:ns.length=items.size)
 (h:∀(h':Heap) (tk:Nat),iX w h' s.heap.objs.size (oH ns)->(∀b o,b<s.heap.objs.size->s.heap.get? b=some o->h'.get? b=some o)->Q (.ref s.heap.objs.size) { s with heap:=h',toks:=tk }) :
 wpAny (model prog w) A (call (.type "set") [.ref l]) Q E s:=by
 obtain⟨c,tl,hmro⟩:=A7.mro
 have hmade:=A7.made
 have hsub:=A7.sub
 refine wpAny_call (codeAny_of_tree ?_)
 show wpAny _ _ (callAny (.type "set") _) _ _ _
 refine Ac ⟨Code.quiet_builtin _ (by decide +kernel),Cs F.entry_type_call ?_⟩
 rw[Around.under_plain (weight_type_call_type "set" [.ref l] []) rfl]
 have h1:=A7.notType
 have h2:=A7.canCreate
 have hct:=PySem.F.typeCall_set_1 (.ref l)
 repeat (any_goals (first|assumption|wp_step))
 refine Du (aEb (.ref l) (E:=E) (Q₁:=λobj s₁=>obj=.ref s.heap.objs.size/\s₁={ s with heap:=s.heap.push { cls:=.type "set",dict:=none,data:=.set #[] 0 (.fresh 0 0 (!byT w)) } }) ⟨rfl,rfl⟩) λr s₁ hr=>?_
 cases r with
 | error e=>exact hr
 | ok fl=>
  cases fl with
  | ret obj=>
   obtain⟨rfl,rfl⟩:=hr
   generalize hled:(!byT w)=led at *
   have hS:(s.heap.push { cls:=.type "set",dict:=none,data:=.set #[] 0 (.fresh 0 0 led) }).get? s.heap.objs.size=some { cls:=.type "set",dict:=none,data:=.set #[] 0 (.fresh 0 0 led) }:=Ai _ rfl
   have hT:Shared.TypeIs { s with heap:=s.heap.push { cls:=.type "set",dict:=none,data:=.set #[] 0 (.fresh 0 0 led) } } (.ref s.heap.objs.size) "set" := ⟨_,hS,rfl⟩
   have hli:=A7.init.lookup
   have hbi:=A7.init.bind (.ref s.heap.objs.size)
   repeat (any_goals (first|assumption|wp_step))
   refine Du (codeAny_call_builtin (R:=wants (λr s₂=>r=.none/\∃h' tk,s₂={ s with heap:=h',toks:=tk }/\iX w h' s.heap.objs.size (oH ns) /\
    (∀b o,b<s.heap.objs.size->s.heap.get? b=some o->h'.get? b=some o)) E) A7.init.plain F.entry_set_init (check_set_init_1 hT ?_)) λr₂ s₂ hr₂=>?_
   . obtain⟨ol,hol,hcl,nl,hdl⟩:=hl
     obtain⟨ocls,odict,odata,oslots⟩:=ol
     simp only at hcl hdl
     subst hcl;subst hdl
     have hol':(s.heap.push { cls:=.type "set",dict:=none,data:=.set #[] 0 (.fresh 0 0 led) }).get? l=some { cls:=.type "list",dict:=odict,data:=.seq items nl,slots:=oslots }:=Ab _ hol
     have hsls:=PySem.F.sub_list_set
     have hslf:=PySem.F.sub_list_frozenset
     have hne:(Value.type "list" == Value.type "dict")=false:=by decide
     have hl1:(s.heap.push { cls:=.type "set",dict:=none,data:=.set #[] 0 (.fresh 0 0 led) }).IsList l items:=⟨_,hol',rfl,nl,rfl⟩
     unfold Builtin.«set.__init__» noKeywords Builtin.Frozenset.updateFrom
     generalize hPI:pyIter=PI
     wp_walk
     subst hPI
     refine C0 hl1 ?_
     refine Aa (wpAny_runValue ?_)
     have hlS:l<s.heap.objs.size:=Ah hol
     have hh3:A.in1.in1.in1.handled=none:=by simp[hh]
     have hsz:(s.heap.push { cls:=.type "set",dict:=none,data:=.set #[] 0 (.fresh 0 0 led) }).objs.size=s.heap.objs.size+1:=B1 _ _
     refine aCk ((Walks.list hh3 _ l (by rw[hsz];exact Ao (B3 hlS)) items).toS) s.heap.objs.size
      (by
       rw[hsz]
       intro z
       rcases An.mp z with q|q
       . exact absurd q (Ao (Cy _))
       . exact absurd (Av.mp q) (Cg hlS)) ns
      (λi v hv=>hi.get (by rw[C7];exact hv)) hn (items.size-0) 0 _ (by omega) (B5 _)
      ⟨⟨_,Ai _ rfl,rfl,rfl⟩,(hl1.push _)⟩ ?hS0 ?hR
     case hS0=>
      refine⟨show([]:List Nat)∈all16 by decide +kernel,λ_=>0,0,?_⟩
      rw[hled]
      exact Ab _ hS
     case hR=>
      intro s' hm hS'
      obtain⟨h',g',d',tk',os'⟩:=s'
      have eg:g'=s.gens:=hm.gens
      have ed:d'=s.drawn:=hm.drawn
      have eo:os'=s.os:=hm.os
      subst eg;subst ed;subst eo
      show wpAny _ _ _ _ _ _
      refine Ac ?_
      show wpAny _ _ (ret Value.none) _ _ _
      refine Ac ⟨rfl,h',tk',rfl,hS',λb o hb e=>?_⟩
      refine hm.heap b o ?_ (Ab _ (Ab _ e))
      rw[hsz]
      intro z
      rcases An.mp z with q|q
      . exact absurd q (Ao hb)
      . exact absurd (Av.mp q) (Ao (B3 hb))
   . cases r₂ with
     | error e=>exact hr₂
     | ok fl₂=>
      cases fl₂ with
      | ret r=>
       obtain⟨rfl,h',tk,rfl,hS',hk'⟩:=hr₂
       repeat (any_goals (first|assumption|wp_step))
       exact h _ _ hS' hk'
      | _=>exact hr₂.elim
  | _=>exact hr.elim
end
set_option maxRecDepth 100000
theorem cW:Slot "set_iterator" "__next__" "set_iterator.__next__" :=
 .of (owner:= "set_iterator") (n:= "__next__") (by rw[typeLookup_type,builtinLookup_eq_fast];kernel_rfl) (by decide +kernel) (by decide +kernel) (by decide +kernel)
  (by first|exact .inl (by decide +kernel)|exact .inr (by decide +kernel)) (by rw[isSubtype_type];kernel_rfl)
theorem iY:entryFor table "set_iterator.__next__" = some Builtin.«set_iterator.__next__»:=entryFor_of_tree (by kernel_rfl)
theorem jG(a:Value):argsOk "set_iterator.__next__" ⟨[a],[]⟩:=by unfold argsOk;kernel_rfl
theorem qM:entryFor table "set.__iter__" = some Builtin.«frozenset.__iter__»:=
 entryFor_alias (id':= "frozenset.__iter__") (by kernel_rfl) rfl (by decide +kernel) (by kernel_rfl)
theorem jH:Slot "set_iterator" "__iter__" "set_iterator.__iter__" :=
 .of (owner:= "set_iterator") (n:= "__iter__") (by rw[typeLookup_type,builtinLookup_eq_fast];kernel_rfl) (by decide +kernel) (by decide +kernel) (by decide +kernel)
  (by first|exact .inl (by decide +kernel)|exact .inr (by decide +kernel)) (by rw[isSubtype_type];kernel_rfl)
theorem oI:entryFor table "set_iterator.__iter__" = some Builtin.«dict_keyiterator.__iter__»:=
 entryFor_alias (id':= "dict_keyiterator.__iter__") (by kernel_rfl) rfl (by decide +kernel) (by kernel_rfl)
theorem qN(a:Value):argsOk "set_iterator.__iter__" ⟨[a],[]⟩:=by unfold argsOk;kernel_rfl
theorem qO{α:Type}:∀(l:List α) (j:Nat) (h:j<l.length),(l[j]::l.eraseIdx j).Perm l
 | [],_,h=>absurd h (Nat.not_lt_zero _)
 | a::l,0,_=>List.Perm.refl _
 | a::l,j+1,h=>(List.Perm.swap a (l[j]'(by simpa using h)) _).trans ((qO l j (by simpa using h)).cons a)
theorem sV{α:Type}(next:Nat->Nat):∀(fuel k:Nat) (left:List α) (out:Array α),left.length=fuel->(pickOrder.go next fuel k left out).toList.Perm (out.toList++left)
 | 0,_,left,out,h=>by
  have:left=[]:=List.eq_nil_of_length_eq_zero h
  subst this
  rw[pickOrder.go,Ch]
 | fuel+1,k,left,out,h=>by
  have hlt:next k % left.length<left.length:=Nat.mod_lt _ (by omega)
  rw[pickOrder.go,Ad hlt]
  dsimp only
  refine(sV next fuel (k+1) _ _ (by rw[List.length_eraseIdx_of_lt hlt];omega)).trans ?_
  rw[Array.toList_push,Cd]
  exact List.Perm.append_left _ (qO _ _ hlt)
def oJ(w:World)(S:Addr)(ep:Nat)(es:Array (Int×Value)):Array (Int×Value):=if byT w then pickOrder (w.params.setOrder S ep) es else es
theorem xG(w:World)(S:Addr)(ep:Nat)(es:Array (Int×Value)):(oJ w S ep es).toList.Perm es.toList:=by
 unfold oJ
 split
 . unfold pickOrder
   refine(sV _ _ _ _ _ (by rw[Bo])).trans ?_
   simp
 . exact List.Perm.refl _
theorem lY(w:World)(S:Addr)(ep:Nat)(es:Array (Int×Value)):(oJ w S ep es).size=es.size:=by
 rw[<-Bo,(xG w S ep es).length_eq,Bo]
def aAc(ks:List Nat):Nat->Nat
 | 0=>0
 | i+1=>ks.getD i 0+1
def slotV(w:World)(ks:List Nat)(i:Nat):Nat:=if byT w then 0 else aAc ks i
theorem aIy:∀ks∈all16,∀i∈List.range 5,i<=ks.length->SetTable.below ks.toArray (aAc ks i)=i:=by decide +kernel
section
variable {prog:Program} {w:World} {A:Around} {E:Value->Shared->Prop} {s:Shared}
def xH(w:World)(tok:Nat->Tok)(ep:Nat)(ks:List Nat):Obj:={ cls:=.type "set",dict:=none,data:=.set (cJ tok ks) ep (iN (!byT w) ks),slots:=#[] }
def nG(w:World)(S:Addr)(ep:Nat)(ks:List Nat)(i:Nat):Obj:={ cls:=.type "set_iterator",dict:=none,data:=.fields #[rawInt (slotV w ks i),rawInt i,.ref S,rawInt ks.length,rawInt ep],slots:=#[] }
variable {S I:Addr} {tok:Nat->Tok} {ep i:Nat} {ks:List Nat}
theorem aHc{Q:Option (Value×Nat)->Shared->Prop}(h16:ks∈all16)(ho:s.heap.get? S=some (xH w tok ep ks))(hi:i<=ks.length)
 (h:Q (((oJ w S ep (cJ tok ks))[i]?).map λe=>(e.2,slotV w ks (i+1))) s):wpAny (model prog w) A (setNext S (slotV w ks i) i ep) Q E s:=by
 have hf:(iN (!byT w) ks).fits (cJ tok ks).size=true:=by rw[bX];exact jF _ ks h16
 unfold setNext
 refine Aa (D9 ho rfl hf ?_)
 dsimp only
 unfold setsByText
 refine Aa (Aa (Dv (Ac ?_)))
 show wpAny _ _ (if byT w=true then _ else _) _ _ s
 unfold oJ slotV at h
 unfold slotV
 cases hb:byT w with
 | true=>
  rw[hb,if_pos rfl,if_pos rfl] at h
  rw[if_pos rfl,if_pos rfl]
  rw[if_neg (by simp)]
  unfold setWalk
  refine Aa (Aa (D9 ho rfl hf ?_))
  dsimp only
  unfold setsByText
  refine Aa (Aa (Dv (Ac ?_)))
  show wpAny _ _ (if byT w=true then _ else _) _ _ s
  rw[hb,if_pos rfl]
  refine Aa (Dv (Ac ?_))
  exact Ac h
 | false=>
  rw[hb,if_neg bN,if_neg bN] at h
  rw[if_neg bN,if_neg bN]
  show wpAny _ _ (if (!true&&decide ((cJ tok ks).size>1))=true then _ else _) _ _ s
  rw[if_neg (by simp)]
  refine Aa ?_
  show wpAny _ _ (if (!(!false)&&!(cJ tok ks).isEmpty)=true then _ else _) _ _ s
  rw[if_neg (by simp)]
  refine Ac ?_
  have hb4:=aIy ks h16 i (Cm.mpr (by
   have:∀ks∈all16,ks.length<=4:=by decide +kernel
   have:=this ks h16
   omega)) hi
  show wpAny _ _ (pure (match (cJ tok ks)[SetTable.below ks.toArray (aAc ks i)]?,ks.toArray[SetTable.below ks.toArray (aAc ks i)]? with
   | some (_,x),some j=>some (x,j+1)
   | _,_=>none)) _ _ s
  rw[hb4]
  refine Ac ?_
  have e:(match (cJ tok ks)[i]?,ks.toArray[i]? with|some (_,x),some j=>some (x,j+1)|_,_=>none)=((cJ tok ks)[i]?).map λe=>(e.2,aAc ks (i+1)):=by
   by_cases hlt:i<ks.length
   . have e1:(cJ tok ks)[i]? = some ((ks[i]:Int),Value.int (ks[i]:Int) (tok ks[i])):=by
      unfold cJ
      rw[List.getElem?_toArray,Az,Ad hlt];rfl
     have e2:ks.toArray[i]? = some ks[i]:=by rw[List.getElem?_toArray,Ad hlt]
     rw[e1,e2]
     simp[hlt,aAc]
   . have e1:(cJ tok ks)[i]? = none:=by
      unfold cJ
      rw[List.getElem?_toArray,Az,Cu (by omega)];rfl
     rw[e1];rfl
  rw[e]
  exact h
theorem aLe{e:Int×Value}{Q:Option Value->Shared->Prop}(h16:ks∈all16)(ho:s.heap.get? S=some (xH w tok ep ks))(hI:s.heap.get? I=some (nG w S ep ks i))(hne:S≠I)(he:(oJ w S ep (cJ tok ks))[i]? = some e)
 (hQ:∀h',h'.get? I=some (nG w S ep ks (i+1))->Heap.SameBut I s.heap h'->Q (some e.2) { s with heap:=h' }):wpAny (model prog w) A (pyNext (.ref I)) Q E s:=by
 have hf:(iN (!byT w) ks).fits (cJ tok ks).size=true:=by rw[bX];exact jF _ ks h16
 have hT:s.TypeIs (.ref I) "set_iterator" := ⟨_,hI,rfl⟩
 have hlt:i<ks.length:=by
  have:=(Array.getElem?_eq_some_iff.mp he).1
  rw[lY,bX] at this
  exact this
 unfold pyNext
 refine Aa (D1 (Bh (name:=Str.ofString "__next__") hT cW (Bt cW hT iY ?_ (jG _))))
 unfold Builtin.«set_iterator.__next__» slotArgs
 simp only[List.isEmpty_nil,Ck,bF,↓reduceIte,bind_assoc,lN,bne_self_eq_false]
 refine Aa (Ac ?_)
 try dsimp only
 refine Aa (wpAny_fieldsOf hI rfl ?_)
 show wpAny _ _ (setEntries S >>= _) _ _ s
 refine Aa (wpAny_setEntries_of ho rfl hf ?_)
 rw[if_neg (by rw[bX];simp)]
 show wpAny _ _ (setNext S ((slotV w ks i:Int).toNat) ((i:Int).toNat) ((ep:Int).toNat) >>= _) _ _ s
 rw[Ce,Ce,Ce]
 refine Aa (aHc h16 ho (by omega) ?_)
 rw[he]
 dsimp only[Option.map_some]
 refine Aa (Bd hI (by simp) λh1 g1 b1=>?_)
 refine Aa (Bd (s:={ s with heap:=h1 }) g1 (by simp) λh2 g2 b2=>?_)
 refine Ac ⟨e.2,rfl,Ac (hQ h2 ?_ (b1.trans b2))⟩
 rw[g2]
 simp[nG,rawInt]
theorem aNo{Q:Option Value->Shared->Prop}(hh:A.handled=none)(h16:ks∈all16)(ho:s.heap.get? S=some (xH w tok ep ks))(hI:s.heap.get? I=some (nG w S ep ks ks.length))
 (hQ:∀h',Heap.ExtBut I s.heap h'->Q none { s with heap:=h' }):wpAny (model prog w) A (pyNext (.ref I)) Q E s:=by
 have hf:(iN (!byT w) ks).fits (cJ tok ks).size=true:=by rw[bX];exact jF _ ks h16
 have hT:s.TypeIs (.ref I) "set_iterator" := ⟨_,hI,rfl⟩
 have he:(oJ w S ep (cJ tok ks))[ks.length]? = none:=by
  rw[Array.getElem?_eq_none_iff,lY,bX]
  exact Aj _
 unfold pyNext
 refine Aa (D1 (Bh (name:=Str.ofString "__next__") hT cW (Bt cW hT iY ?_ (jG _))))
 unfold Builtin.«set_iterator.__next__» slotArgs
 simp only[List.isEmpty_nil,Ck,bF,↓reduceIte,bind_assoc,lN,bne_self_eq_false]
 refine Aa (Ac ?_)
 try dsimp only
 refine Aa (wpAny_fieldsOf hI rfl ?_)
 show wpAny _ _ (setEntries S >>= _) _ _ s
 refine Aa (wpAny_setEntries_of ho rfl hf ?_)
 rw[if_neg (by rw[bX];simp)]
 show wpAny _ _ (setNext S ((slotV w ks ks.length:Int).toNat) ((ks.length:Int).toNat) ((ep:Int).toNat) >>= _) _ _ s
 rw[Ce,Ce,Ce]
 refine Aa (aHc h16 ho (Aj _) ?_)
 rw[he]
 dsimp only[Option.map_none]
 refine Aa (Bd hI (by simp) λh1 g1 b1=>?_)
 show wpAny _ _ (newExc (.type "StopIteration") [] >>= _) _ _ _
 refine Aa ?_
 simp only[newExc,newTuple]
 refine Aa (Bz ?_ (by size_fits))
 refine Aa (m:=firstArgMember _ _) (wpAny_of_eq (a:=Value.none) (by first|rfl|(simp only[firstArgMember];rfl)) ?_)
 refine Bz ?_ (by size_fits)
 simp only[raiseNew]
 refine Aa (wpAny_handled ?_)
 first|rw[show A.in1.handled=none from hh]|rw[hh]
 refine Aa (Ac (wpAny_throw ?_))
 refine Aa (wpAny_isInstance (T:= "StopIteration") (b:=true) ⟨_,Ai _ rfl,rfl⟩ isSubtype_stop ?_)
 exact Ac (hQ _ ((b1.extBut.push _).push _))
theorem aIz(hh:A.handled=none)(h16:ks∈all16)(hne:S≠I):Walks prog w A I [I,S] [I] ks.length (λi v=>∃e,(oJ w S ep (cJ tok ks))[i]? = some e/\v=e.2) (λi h=>h.get? I=some (nG w S ep ks i)/\h.get? S=some (xH w tok ep ks)) where
 sub:=λb hb=>by
  rw[Av.mp hb]
  exact Al
 frame:=λi h h' st k=>⟨k I Al _ st.1,k S (Ag _ (Av.mpr rfl)) _ st.2⟩
 item:=λi s Q E hi st hQ=>by
  have hlt:i<(oJ w S ep (cJ tok ks)).size:=by rw[lY,bX];exact hi
  refine aLe h16 st.2 st.1 hne (C8 hlt) λh' g b=>hQ _ h' s.toks ⟨_,C8 hlt,rfl⟩ ⟨g,?_⟩ λc o hc e=>?_
  . rw[b.2 S hne];exact st.2
  . rw[b.2 c λz=>hc (by rw[z];exact Av.mpr rfl)];exact e
 done:=λs Q E st hQ=>aNo hh h16 st.2 st.1 λh' b=>hQ h' s.toks λc o hc e=>b c o (λz=>hc (by rw[z];exact Av.mpr rfl)) e
 self:=λi s Q E st hQ=>by
  have hT:s.TypeIs (.ref I) "set_iterator" := ⟨_,st.1,rfl⟩
  refine wpAny_pyIter_slot hT jH (Bt jH hT oI ?_ (qN _))
  show wpAny _ _ (ret (.ref I)) _ _ s
  exact Ac ⟨_,rfl, "set_iterator",_,hT,cW.lookup,hQ⟩
theorem aLf{Q:Value->Shared->Prop}(h16:ks∈all16)(ho:s.heap.get? S=some (xH w tok ep ks))(h:Q (.ref s.heap.objs.size) { s with heap:=s.heap.push (nG w S ep ks 0) }):wpAny (model prog w) A (pyIter (.ref S)) Q E s:=by
 have hf:(iN (!byT w) ks).fits (cJ tok ks).size=true:=by rw[bX];exact jF _ ks h16
 have hT:s.TypeIs (.ref S) "set" := ⟨_,ho,rfl⟩
 refine wpAny_pyIter_slot hT PySem.F.slot_set_iter (Bt PySem.F.slot_set_iter hT qM ?_ (PySem.F.args_set_iter_1 _))
 unfold Builtin.«frozenset.__iter__» Builtin.Frozenset.slot0 slotArgs
 simp only[List.isEmpty_nil,Ck,bF,↓reduceIte,bind_assoc,lN,bne_self_eq_false]
 unfold Builtin.Frozenset.addrOf Builtin.Frozenset.sizeOf
 refine Aa (Ac ?_)
 try dsimp only
 refine Aa (Ac ?_)
 refine Aa (Aa (wpAny_setEntries_of ho rfl hf (Ac ?_)))
 unfold setDrawn setsByText
 refine Aa (Aa (D9 ho rfl hf ?_))
 dsimp only
 refine Aa (Aa (Dv (Ac ?_)))
 refine Ac ?_
 show wpAny _ _ (if (!byT w&&(!true&&decide ((cJ tok ks).size>1)))=true then _ else _) _ _ s
 rw[if_neg (by simp)]
 refine Aa (Ac ?_)
 refine Aa (wpAny_setEpoch_of ho rfl hf ?_)
 refine Aa (Bz ?_)
 have e:(#[rawInt 0,rawInt 0,Value.ref S,rawInt ((cJ tok ks).size:Int),rawInt (ep:Int)]:Array Value)=#[rawInt (slotV w ks 0),rawInt ((0:Nat):Int),.ref S,rawInt ks.length,rawInt ep]:=by
  rw[bX]
  have:slotV w ks 0=0:=by unfold slotV aAc;split <;> rfl
  rw[this];rfl
 refine Ac ⟨_,rfl, "set_iterator",_,⟨_,Ai _ rfl,rfl⟩,cW.lookup,?_⟩
 show Q (.ref s.heap.objs.size) { s with heap:=s.heap.push { cls:=.type "set_iterator",data:=.fields #[rawInt 0,rawInt 0,Value.ref S,rawInt ((cJ tok ks).size:Int),rawInt (ep:Int)] } }
 rw[e]
 exact h
theorem aCm{P:Nat->Value->Prop}{acc:Array Value}{m:Nat}{od:List (Int×Value)}(hP:∀i v,P i v->∃e,od[i]? = some e/\v=e.2)(h:ItemsOf P acc m)(hm:od.length=m):acc.toList=od.map (·.2):=by
 refine List.ext_getElem? λj=>?_
 rw[C7,Az]
 by_cases hj:j<acc.size
 . obtain⟨e,he,hv⟩:=hP j acc[j] (h.2 j _ (C8 hj))
   rw[C8 hj,he,hv];rfl
 . have h1:=h.1
   rw[Array.getElem?_eq_none (by omega),Cu (by omega)];rfl
theorem aEc{Q:List Value->Shared->Prop}(hh:A.handled=none)(h16:ks∈all16)(ho:s.heap.get? S=some (xH w tok ep ks))
 (hQ:∀s' acc,(∀b o,s.heap.get? b=some o->s'.heap.get? b=some o)->(s.heap.objs.size<s'.heap.objs.size/\∃tk h',s'={ s with heap:=h',toks:=tk })->acc=(oJ w S ep (cJ tok ks)).toList.map (·.2)->Q acc s'):wpAny (model prog w) A (collect (.ref S)) Q E s:=by
 have hT:s.TypeIs (.ref S) "set" := ⟨_,ho,rfl⟩
 have hSL:S<s.heap.objs.size:=Ah ho
 unfold collect
 refine Aa (wpAny_runValue (Cs F.entry_proto_collect ?_))
 rw[Cj F.plain_proto_collect _]
 show wpAny _ A.in1 (newList [] >>= λl=>again (.builtin "list.__iadd__" ⟨[l,.ref S],[]⟩)) _ _ s
 refine Aa (Bz ?_)
 refine Ac ⟨plainId_quiet F.plain_list_iadd _,Cs F.entry_list_iadd ?_⟩
 rw[Cj F.plain_list_iadd _]
 have ho1:(s.heap.push { cls:=.type "list",data:=.seq ([]:List Value).toArray }).get? S=some (xH w tok ep ks):=Ab _ ho
 have hT1:Shared.TypeIs { s with heap:=s.heap.push { cls:=.type "list",data:=.seq ([]:List Value).toArray } } (.ref S) "set" := ⟨_,ho1,rfl⟩
 have hL1:(s.heap.push { cls:=.type "list",data:=.seq ([]:List Value).toArray }).get? s.heap.objs.size=some { cls:=.type "list",data:=.seq ([]:List Value).toArray }:=Ai _ rfl
 have h1:Builtin.List.listSameRef (.ref s.heap.objs.size) (.ref S)=false:=by
  simp only[Builtin.List.listSameRef,Bb]
  exact Cg hSL
 show wpAny _ A.in1 (Builtin.List.listExtendWith (.ref s.heap.objs.size) (.ref S) (.ref s.heap.objs.size)) _ _ _
 unfold Builtin.List.listExtendWith
 refine Aa (wpAny_typeOf hT1 ?_)
 rw[if_neg (by rw[h1];decide)]
 refine Aa (aLf h16 ho1 ?_)
 refine Aa (Bp ?_)
 have ho2:((s.heap.push { cls:=.type "list",data:=.seq ([]:List Value).toArray }).push (nG w S ep ks 0)).get? S=some (xH w tok ep ks):=Ab _ ho1
 have hT2:Shared.TypeIs { s with heap:=(s.heap.push { cls:=.type "list",data:=.seq ([]:List Value).toArray }).push (nG w S ep ks 0) } (.ref S) "set" := ⟨_,ho2,rfl⟩
 unfold Builtin.List.listLengthHint
 refine Aa (wpAny_specialOf hT2 PySem.F.slot_set_len.lookup ?_)
 generalize hid:("set.__len__" : String)=id0
 wp_delta
 rw[show splitId id0=some ("set", "__len__") from by subst hid;decide +kernel]
 subst hid
 refine Aa (wpAny_isInstance (b:=true) hT2 (by rw[isSubtype_type];kernel_rfl) ?_)
 rw[if_neg (by decide)]
 dsimp only
 rw[if_pos (by decide +kernel)]
 refine Aa (wpAny_typeOf hT2 ?_)
 refine Ac ?_
 rw[if_pos (by decide +kernel)]
 refine Aa (wpAny_rule ?_)
 unfold Builtin.List.listTouch
 have hL2:((s.heap.push { cls:=.type "list",data:=.seq ([]:List Value).toArray }).push (nG w S ep ks 0)).get? s.heap.objs.size=some { cls:=.type "list",data:=.seq ([]:List Value).toArray }:=Ab _ hL1
 refine Aa (Aa (listUpdate_at (f:=λx=>x.push Value.none) hL2 rfl ?_))
 have hL3:=get?_update_seq (c:= "list") (xs:=#[]) (n:=0) hL2 (λx=>x.push Value.none)
 refine listUpdate_at (f:=λx=>x.pop) hL3 rfl ?_
 have hL4:=get?_update_seq hL3 (λx=>x.pop)
 have hIsz:(s.heap.push { cls:=.type "list",data:=.seq ([]:List Value).toArray }).objs.size=s.heap.objs.size+1:=size_push' _ _
 have hI2:((s.heap.push { cls:=.type "list",data:=.seq ([]:List Value).toArray }).push (nG w S ep ks 0)).get? (s.heap.push { cls:=.type "list",data:=.seq ([]:List Value).toArray }).objs.size=some (nG w S ep ks 0):=Ai _ rfl
 rw[hIsz] at hI2 ⊢
 have keep:∀b o,b≠s.heap.objs.size->((s.heap.push { cls:=.type "list",data:=.seq ([]:List Value).toArray }).push (nG w S ep ks 0)).get? b=some o->((((s.heap.push { cls:=.type "list",data:=.seq ([]:List Value).toArray }).push (nG w S ep ks 0)).update s.heap.objs.size (Obj.mapSeq λx=>x.push Value.none)).update s.heap.objs.size (Obj.mapSeq λx=>x.pop)).get? b=some o:=λb o hb e=>by
  rw[Heap.get?_update_ne _ _ _ _ hb,Heap.get?_update_ne _ _ _ _ hb];exact e
 have hSI:S≠s.heap.objs.size+1:=λz=>Nat.not_lt.mpr (Dt _) (z▸hSL)
 have hSf:s.heap.objs.size∉[s.heap.objs.size+1,S]:=λhm=>by
  rcases An.mp hm with z|z
  . exact absurd z (by omega)
  . rw[<-Av.mp z] at hSL;exact Bl _ hSL
 have hlen:∀ks∈all16,ks.length<=4:=by decide +kernel
 refine Ac ⟨plainId_quiet F.plain_extend_loop _,codeAny_extend_loopS (aIz (A:=A.in1) (tok:=tok) (ep:=ep) (I:=s.heap.objs.size+1) hh h16 hSI).toS (A4 (hlen ks h16) (by decide)) _ hSf _ ks.length 0 _ #[] 2 (Nat.sub_zero _) (B5 _) ⟨keep _ _ (by omega) hI2,keep _ _ (Ao hSL) ho2⟩ hL4 (ItemsOf.nil _) λs' acc' c' hm hS' hacc=>?_⟩
 show wpAny _ A (load s.heap.objs.size >>= _) _ _ s'
 refine Aa (wpAny_load hS' ?_)
 refine Ac (hQ s' acc'.toList (λb o e=>?_) ?_ ?_)
 . have hb:b<s.heap.objs.size:=Ah e
   refine hm.heap b o (λz=>?_) (keep b o (Ao hb) (Ab _ (Ab _ e)))
   rcases An.mp z with z|z
   . exact Ao hb z
   . exact Nat.not_lt.mpr (Dt _) (Av.mp z▸hb)
 . obtain⟨h',g',d',tk',os'⟩:=s'
   have eg:g'=s.gens:=hm.gens
   have ed:d'=s.drawn:=hm.drawn
   have eo:os'=s.os:=hm.os
   subst eg;subst ed;subst eo
   exact⟨Ah hS',tk',h',rfl⟩
 . exact aCm (P:=λi v=>∃e,(oJ w S ep (cJ tok ks))[i]? = some e/\v=e.2) (λi v ⟨e,he,hv⟩=>⟨e,by rw[C7];exact he,hv⟩) hacc (by rw[Bo,lY,bX])
end
set_option maxRecDepth 100000
theorem aAU:∀{as bs:List Int},as.Pairwise (·<=·)->bs.Pairwise (·<=·)->as.Perm bs->as=bs
 | [],bs,_,_,p=>(p.nil_eq)
 | a::as,[],_,_,p=>absurd p.length_eq (by simp)
 | a::as,b::bs,ha,hb,p=>by
  have hab:a=b:=by
   have h1:a∈b::bs:=p.subset Al
   have h2:b∈a::as:=p.symm.subset Al
   rcases An.mp h1 with h1|h1
   . exact h1
   . rcases An.mp h2 with h2|h2
     . exact h2.symm
     . have q1:=(C5.mp ha).1 b h2
       have q2:=(C5.mp hb).1 a h1
       omega
  subst hab
  rw[aAU (C5.mp ha).2 (C5.mp hb).2 (List.Perm.cons_inv p)]
theorem aIA:∀ks∈all16,(ks.map Int.ofNat).Pairwise (·<=·):=by decide +kernel
theorem aLg:∀ks∈all16,ks.length<=4:=by decide +kernel
theorem xI:∀{es:List (Int×Value)},(∀e∈es,∃t,e.2=Value.int e.1 t)->IntsAre (es.map (·.2)) (es.map (·.1))
 | [],_=>.nil
 | e::es,h=>by
  obtain⟨t,q⟩:=h e Al
  have r:=xI (es:=es) λx hx=>h x (Ag _ hx)
  rw[mC,mC,q]
  exact .cons _ _ r
theorem aGi{tok:Nat->Tok}{ks:List Nat}:∀e∈(cJ tok ks).toList,∃t,e.2=Value.int e.1 t:=by
 intro e he
 unfold cJ at he
 rw[Dy] at he
 obtain⟨k,hk,rfl⟩:=A6.mp he
 exact⟨_,rfl⟩
theorem aIB{tok:Nat->Tok}{ks:List Nat}:(cJ tok ks).toList.map (·.1)=ks.map Int.ofNat:=by
 unfold cJ
 rw[Dy,A3]
 rfl
section
variable {prog:Program} {w:World} {A:Around} {E:Value->Shared->Prop} {s:Shared}
theorem xJ{S:Addr}{ks:List Nat}{Q:Value->Shared->Prop}(hh:A.handled=none)(hS:iX w s.heap S ks)
 (h:∀(h':Heap) (tk:Nat) (L:Addr) (out:List Value) (n:Nat),s.heap.objs.size<=L->(∀b o,s.heap.get? b=some o->h'.get? b=some o)->h'.get? L=some (seqObj "list" out.toArray n)->IntsAre out (ks.map Int.ofNat)->Q (.ref L) { s with heap:=h',toks:=tk }) :
 wpAny (model prog w) A (call (.builtin "sorted") [.ref S]) Q E s:=by
 obtain⟨h16,tok,ep,ho⟩:=hS
 refine Calls.call_function_entry kind_sorted plain_sorted entry_sorted (args_sorted1 _) ?_
 unfold Builtin.«sorted»
 refine Aa (m:=checkCount "sorted" 1 1 _) (Ac ?_)
 refine Aa (aEc (tok:=tok) (ep:=ep) (ks:=ks) hh h16 ho λs' acc hk hs' hacc=>?_)
 obtain⟨hle,tk,h1,rfl⟩:=hs'
 have pm:=xG w S ep (cJ tok ks)
 have h64:acc.length<64:=by
  rw[hacc,lM,pm.length_eq,Bo,bX]
  have:=aLg ks h16
  omega
 refine Aa (wpAny_newList ?_ (A4 (Nat.le_of_lt h64) (by decide)))
 have hoL:(h1.push (seqObj "list" acc.toArray 0)).get? h1.objs.size=some (seqObj "list" acc.toArray 0):=Ai _ rfl
 have hI:IntsAre acc ((oJ w S ep (cJ tok ks)).toList.map (·.1)):=by
  rw[hacc]
  exact xI λe he=>aGi e (pm.subset he)
 refine Aa (Bp (Bt (s:={ s with heap:=h1.push (seqObj "list" acc.toArray 0),toks:=tk }) slot_list_sort ⟨_,hoL,rfl⟩ entry_list_sort (list_sort_tree hoL hI h64 λout ns' a1 a2 a3=>⟨_,rfl,?_⟩) (args_list_sort _)))
 have e:ns'=ks.map Int.ofNat:=aAU a3 (aIA ks h16) (by rw[<-aIB (tok:=tok)];exact a2.trans (pm.map _))
 obtain⟨n,hL⟩:=sortedHeap_at (out:=out) hoL
 refine Ac ⟨_,rfl,h _ _ h1.objs.size out.toList n (Nat.le_of_lt hle) (λb o q=>?_) (by rw[Array.toArray_toList];exact hL) (e▸a1)⟩
 have hb:b<h1.objs.size:=Ah (hk b o q)
 rw[sortedHeap_old (Ao hb) (by rw[size_push'];exact B3 hb)]
 exact Ab _ (hk b o q)
end
end L2
end
noncomputable section
namespace Hp
open PySem PySem.Spec PyProof.Rows L2
theorem aEd:∀ks∈all16,∀k∈List.range 4,aAb ks k∈all16/\∀j∈List.range 4,(j∈aAb ks k↔j=k\/j∈ks):=by decide +kernel
theorem aEe:∀ks∈all16,ks=(List.range 4).filter λk=>decide (k∈ks):=by decide +kernel
theorem sW:∀(ns ks:List Nat),ks∈all16->(∀n∈ns,n<4)->ns.foldl aAb ks∈all16/\∀j∈List.range 4,(j∈ns.foldl aAb ks↔j∈ns\/j∈ks)
 | [],ks,h,_=>⟨h,λj _=>by simp⟩
 | n::ns,ks,h,h4=>by
  obtain⟨a1,a2⟩:=aEd ks h n (Cm.mpr (h4 n Al))
  obtain⟨b1,b2⟩:=sW ns (aAb ks n) a1 λm hm=>h4 m (Ag _ hm)
  refine⟨b1,λj hj=>?_⟩
  rw[B6,b2 j hj,a2 j hj,An]
  constructor
  . rintro (z|z|z)
    . exact .inl (.inr z)
    . exact .inl (.inl z)
    . exact .inr z
  . rintro ((z|z)|z)
    . exact .inr (.inl z)
    . exact .inl z
    . exact .inr (.inr z)
theorem aGj{ns:List Nat}(h4:∀n∈ns,n<4):oH ns=eB ns:=by
 obtain⟨b1,b2⟩:=sW ns [] (by decide +kernel) h4
 unfold oH eB
 rw[aEe _ b1]
 refine List.filter_congr λj hj=>?_
 have:=b2 j hj
 simp only[Be,or_false] at this
 simp only[this]
section
variable {X:Cx} {P:Pg} {Γ:Ct} {n:Nat} {RT Y old:Addr->Prop} {σ:Sg} {pos:Pos} {K:Fg} {H:Hp}
theorem sX:∀{ds:List D} {ns:List Nat} {ex:Addr->Prop} {vs:List V} {us:List Value},pQ ds=some ns->Reps K H ex ds vs->aU vs us->aEa us ns/\ns.length=us.length/\∀n∈ns,n<4
 | [],ns,ex,vs,us,h,r,rv=>by
  cases h
  rw[show vs=[] from r] at rv
  cases rv
  exact⟨.nil,rfl,λn hn=>by cases hn⟩
 | d::ds,ns,ex,vs,us,h,r,rv=>by
  obtain⟨v,vr,e,h1,h2⟩:=r
  subst e
  cases rv with
  | cons r1 r2=>
   cases d with
   | int i=>
    unfold pQ at h
    split at h
    . rename_i hi
      cases q:pQ ds with
      | none=>rw[q] at h;cases h
      | some ms=>
       rw[q] at h
       cases h
       rw[show v=.int i from h1] at r1
       obtain⟨t,rfl⟩:=r1
       obtain⟨g1,g2,g3⟩:=sX q h2 r2
       refine⟨.cons ⟨by omega,t,?_⟩ g1,by rw[lC,lC,g2],λn hn=>?_⟩
       . rw[B2 hi.1]
       . rcases An.mp hn with z|z
         . rw[z];omega
         . exact g3 n z
    . cases h
   | _=>cases h
theorem gX:∀{ns:List Int} {us:List Value},IntsAre us ns->aU (ns.map V.int) us
 | _,_,.nil=>.nil
 | _,_,.cons i t r=>.cons ⟨t,rfl⟩ (gX r)
theorem sY{ex:Addr->Prop}:∀(ks:List Nat),Reps K H ex (ks.map λ(k:Nat)=>D.int (k:Int)) ((ks.map Int.ofNat).map V.int)
 | []=>.nil
 | k::ks=>.cons rfl (sY ks)
theorem aIC(M:Mc X P Γ n){a:E}{ea:Expr}{f g:Str}{pf pg p2:Pos}(hf:f=("sorted" : Str))(hg:dR Γ f=true)(hf2:g=("set" : Str))(hg2:dR Γ g=true)(ha:PE X ea (WE X P n RT Y old σ a))(hp:bK ea=true) :
 PE X (.Call (.Name f pf) [.Call (.Name g pg) [ea] [] p2] [] pos) (WE X P n RT Y old σ (.sset a)):=by
 subst hf hf2
 intro pins s σV H Q I hw
 obtain⟨S,h⟩:=hw
 have h:=RE.bind' (show RE (ev P (call P n) σ a >>= λx=>(match x.d with
  | .lst ds=>(match pQ ds with|some ns=>R.ok (⟨.lst ((eB ns).map λ(k:Nat)=>.int (k:Int)),true,false,[]⟩:Vl)|none=>.bad)
  | _=>.bad)) _ from h)
 obtain⟨x,ex,h⟩:=h.eq
 cases hd:x.d with
 | lst ds=>
  rw[hd] at h
  cases hk:pQ ds with
  | none=>simp only[hk] at h;exact h.elim
  | some ns=>
   simp only[hk] at h
   refine B4 (fL I (M.gl hg) (M.md.blt _ (by decide +kernel)) boot_sorted ?_ (by decide +kernel) (by decide +kernel))
   refine Cw ?_ (aE (e:=.Call (.Name "set" pg) [ea] [] p2) (es:=[]) rfl) rfl
   rw[aE (e:=.Call (.Name "set" pg) [ea] [] p2) (es:=[]) rfl]
   show wpAny _ _ (spliced ((false,eval (.Call (.Name "set" pg) [ea] [] p2) X.env)::backTo pos (starEach [] X.env))) _ _ s
   refine Dj (B4 (fL I (M.gl hg2) (M.md.blt _ (by decide +kernel)) (show bootBuiltins "set" = some (.type "set") by kernel_rfl) ?_ (by decide +kernel) (by decide +kernel)))
   refine Bw (thn (jU (es:=[]) ha mX (aE hp) p2 pins s σV H (λus H1=>∃u,us=[u]/\Tk X.K H1/\Ro X.K RT Y old σ σV H H1 x u) I ⟨S,?_⟩) λus s1 ⟨vs,H1,I1,r1,u,e1,t1,ro⟩=>?_) (aE hp) rfl
   . rw[ex]
     intro u H1 t1 ro
     exact⟨u,rfl,t1,ro⟩
   . subst e1
     obtain⟨u',rfl,ru⟩:=r1.one
     obtain⟨b,xs,rfl,hS,_,rr⟩:=(ro.rv S).lst hd
     cases ru
     obtain⟨its,r2,p,_⟩:=I1.list hS
     obtain⟨hK,hKl,h4⟩:=sX hk rr r2
     refine aCl (I1.ok.hd M.calm) p.isList (by simpa using hK) (by rw[Af];exact hKl) λh' tk hset hkeep=>?_
     have I2:L2.Inv X pins σV H1 { s1 with heap:=h',toks:=tk }:=I1.kept λb o e=>hkeep b o (Ah e) e
     refine D5 ?_
     refine xJ (s:={ s1 with heap:=h',toks:=tk }) (I2.ok.hd M.calm) hset λh2 tk2 L out m hL hk2 hoL hints=>?_
     have hn:H1 L=none:=I2.hok.fresh hL
     have e4:oH ns=eB ns:=aGj h4
     have l4:(eB ns).length<=4:=by
      unfold eB
      exact A4 (Cv _ _) (by decide)
     rw[e4] at hints
     have I3:L2.Inv X pins σV (upd H1 L (.lst (((eB ns).map Int.ofNat).map V.int))) { s1 with heap:=h2,toks:=tk2 }:=I2.laid hk2 hL ⟨by rw[lM,lM,C2];omega,out,m,gX hints,hoL⟩
     have s3:aX H1 (upd H1 L (.lst (((eB ns).map Int.ofNat).map V.int))):=aX.new hn
     refine⟨.ref L,_,I3,rfl,?_⟩
     exact(show Wn X RT Y old σ σV H Q (⟨.lst ((eB ns).map λ(k:Nat)=>.int (k:Int)),true,false,[]⟩:Vl) from h) _ _ I3.tk ⟨ro.1.trans s3,by rw[if_pos rfl];exact⟨L,_,_,rfl,rfl,ro.1.free hn,cV,sY (eB ns)⟩⟩
 | _=>rw[hd] at h;exact h.elim
end
end Hp
end
noncomputable section
set_option maxHeartbeats 8000000
namespace Hp
open PySem PySem.Spec PyProof.Rows L2
section
variable {P:Pg} {n:Nat}
theorem xK{X:Cx}{Γ:Ct}(M:Mc X P Γ n)(scope:Scope):(relabel scope X.env).names=pS Γ.sc scope.names:=by
 unfold relabel pS
 simp only
 refine Cq λp hp=>?_
 obtain⟨m,k⟩:=p
 have e1:(X.env.scope.kind==ScopeKind.function)=true:=by rw[M.fk];rfl
 have e2:X.env.kindOf m=Γ.sc.lookup m:=by unfold Env.kindOf;rw[M.sc]
 simp only[e1,e2,Bool.and_true]
abbrev chN(Γ:Ct)(tg:Expr)(caps:List Nat):List Str:=gR tg++caps.filterMap λi=>Γ.N[i]?
abbrev aAd(Γ:Ct)(tg:Expr)(caps:List Nat)(scope:Scope):Ct:={ Γ with N:=chN Γ tg caps,sc:=pS Γ.sc scope.names,fn:=false }
structure aEf (Γ:Ct) (tg:Expr) (caps:List Nat) (scope:Scope) (k:Nat) (t:T):Prop where
 len:(gR tg).length=k
 lt:∀i∈caps,i<Γ.N.length
 ndc:caps.Nodup
 kind:scope.kind=.function
 nd:(chN Γ tg caps).Nodup
 cap:∀x∈caps.filterMap (λi=>Γ.N[i]?),scope.names.lookup x=some .free/\Γ.sc.lookup x=some .cell
 all:∀p∈scope.names,p.2≠.cell/\(p.2=.local->scope.names.lookup p.1=some .local)/\(p.2=.free->Γ.sc.lookup p.1=some .cell)
 tk:∀i∈tIx t,i<k
theorem uO{N:List Str}:∀{caps:List Nat},(∀i∈caps,i<N.length)->∀{j i:Nat},caps[j]? = some i->(caps.filterMap λi=>N[i]?)[j]? = N[i]?/\(caps.filterMap λi=>N[i]?).length=caps.length
 | [],_,_,_,h=>by simp at h
 | c::cs,hl,j,i,h=>by
  have hc:N[c]? = some N[c]! := by
   have:=hl c Al
   simp[this]
  rw[List.filterMap_cons_some hc]
  have hl':∀i∈cs,i<N.length:=λi hi=>hl i (Ag _ hi)
  have len:(cs.filterMap λi=>N[i]?).length=cs.length:=by
   cases cs with
   | nil=>rfl
   | cons c' cs'=>exact(uO hl' (j:=0) (i:=c') rfl).2
  refine⟨?_,by rw[lC,lC,len]⟩
  cases j with
  | zero=>
   have e:c=i:=by simpa using h
   subst e
   rw[gZ,hc]
  | succ j=>
   rw[gS]
   exact(uO hl' (j:=j) (i:=i) (by simpa using h)).1
theorem aID{N:List Str}{caps:List Nat}(h:∀i∈caps,i<N.length):(caps.filterMap λi=>N[i]?).length=caps.length:=by
 cases caps with
 | nil=>rfl
 | cons c cs=>exact(uO h (j:=0) (i:=c) rfl).2
theorem aEf.scope{X:Cx}{Γ:Ct}{tg:Expr}{caps:List Nat}{scope:Scope}{k:Nat}{t:T}(O:aEf Γ tg caps scope k t)(M:Mc X P Γ n):dY X scope k caps (chN Γ tg caps) where
 kind:=O.kind
 nocell:=λy hy=>(O.all y hy).1
 loc:=λy hy e=>(O.all y hy).2.1 e
 free:=λm hm=>.inl (by
  have:=(O.all _ hm).2.2 rfl
  show X.env.scope.names.lookup m=_
  rw[M.sc];exact this)
 len:=by rw[lA,O.len,aID O.lt]
 cap:=λj i e=>by
  have hi:=O.lt i (mG e)
  have hx:Γ.N[i]? = some Γ.N[i]:=Ad hi
  have hg:=(uO O.lt e).1
  rw[hx] at hg
  obtain⟨h1,h2⟩:=O.cap _ (mG hg)
  refine⟨Γ.N[i],?_,by rw[M.N];exact hx,h1,?_⟩
  . show(gR tg++_)[k+j]? = _
    rw[Au (by rw[O.len];omega),O.len,Df]
    exact hg
  . show X.env.scope.names.lookup _=_
    rw[M.sc];exact h2
 ndp:=M.nd
theorem aEf.mc{X:Cx}{Γ:Ct}{tg:Expr}{caps:List Nat}{scope:Scope}{k:Nat}{t:T}(O:aEf Γ tg caps scope k t)(M:Mc X P Γ n)(C:Addr)(s₀:Shared)(H₀:Hp)(ex:List Addr) :
 Mc (eQ X scope (chN Γ tg caps) C s₀ H₀ ex) P (aAd Γ tg caps scope) n where
 md:=⟨M.md.fn,M.md.blt,M.md.cns,M.md.tab⟩
 N:=rfl
 nd:=O.nd
 sc:=xK M scope
 calm:=M.calm
 room:=M.room
 xe:=rfl
 st:=λx h=>.inr (by
  show(relabel scope X.env).names.lookup x=_
  rw[xK M scope]
  unfold wP at h
  have h:(match (pS Γ.sc scope.names).lookup x with|some .local=>true|some .cell=>false|_=>false)=true:=h
  split at h
  . rename_i e;exact e
  . cases h
  . cases h)
 fk:=O.kind
theorem xL{Γ:Ct}{tt:Bool}{a b:E}{e:Expr}:chkI Γ tt (.rng a b) e=oS (mZ e) λp=>(p.1==("range" : Str))&&dR Γ p.1&&(match p.2 with
 | [x]=>zP a&&bB Γ b x
 | [x,y]=>bB Γ a x&&bB Γ b y
 | _=>false):=rfl
theorem xM{Γ:Ct}{tt:Bool}{a b:E}{e:Expr}:chkI Γ tt (.zip a b) e=oS (mZ e) λp=>(match p.2 with
 | [x,y]=>tt&&(p.1==("zip" : Str))&&dR Γ p.1&&bB Γ a x&&bB Γ b y
 | _=>false):=rfl
theorem sZ{Γ:Ct}{tt:Bool}{a:E}{e:Expr}:chkI Γ tt (.enum a) e=oS (mZ e) λp=>(match p.2 with
 | [x]=>tt&&(p.1==("enumerate" : Str))&&dR Γ p.1&&bB Γ a x
 | _=>false):=rfl
theorem lE{Γ:Ct}{tt:Bool}{it:Hp.It}{e:Expr}(h:chkI Γ tt it e=true):bK e=true:=by
 cases it with
 | seq c=>exact aT (c:=c) (by exact h)
 | rng a b=>rw[xL] at h;obtain⟨_,⟨_,_,rfl⟩,_⟩:=aI h;rfl
 | zip a b=>rw[xM] at h;obtain⟨_,⟨_,_,rfl⟩,_⟩:=aI h;rfl
 | enum a=>rw[sZ] at h;obtain⟨_,⟨_,_,rfl⟩,_⟩:=aI h;rfl
 | rev a=>cases h
theorem aGk{X:Cx}{e:Expr}{c:E}{RT Y old:Addr->Prop}{σ:Sg}(h:tst P (call P n) σ c=.bad):PT X e (WT X P n RT Y old σ c):=λpins s σV H Q I ⟨S,hh⟩=>by
 rw[h] at hh
 exact hh.elim
theorem hG{a b c:Bool}(h:(a&&b&&c)=true):a=true/\b=true/\c=true:=by
 cases a <;> cases b <;> cases c <;> first|exact⟨rfl,rfl,rfl⟩|cases h
theorem fR{a b:Bool}(h:(a&&b)=true):a=true/\b=true:=by
 cases a <;> cases b <;> first|exact⟨rfl,rfl⟩|cases h
theorem aIE{a b c d:Bool}(h:(a&&b&&c&&d)=true):a=true/\b=true/\c=true/\d=true:=by
 obtain⟨h1,h2,h3⟩:=hG h
 obtain⟨h1,h4⟩:=fR h1
 exact⟨h1,h4,h2,h3⟩
theorem aAe{a b c d e:Bool}(h:(a&&b&&c&&d&&e)=true):a=true/\b=true/\c=true/\d=true/\e=true:=by
 obtain⟨h1,h2,h3,h4⟩:=aIE h
 obtain⟨h1,h5⟩:=fR h1
 exact⟨h1,h5,h2,h3,h4⟩
theorem aAV{Γ:Ct}{k:Nat}{caps:List Nat}{t:T}{it:Hp.It}{cond:Es}{elt:E}{e:Expr}(h:bB Γ (.comp k caps t it cond elt) e=true) :
 ∃el tg iter ifs scope pos,e=.ListComp el [⟨tg,iter,ifs,0⟩] scope pos/\aEf Γ tg caps scope k t/\ifs.length<=1/\oF (aAd Γ tg caps scope) t tg=true/\chkI Γ (pT tg) it iter=true/\chkEs (aAd Γ tg caps scope) cond ifs=true/\bB (aAd Γ tg caps scope) elt el=true:=by
 obtain⟨⟨el,gens,scope⟩,h1,g⟩:=aI h
 clear h
 obtain⟨pos,rfl⟩:=h1
 have h:=g
 clear g
 rcases gens with _|⟨⟨tg,iter,ifs,as⟩,_|⟨_,_⟩⟩
 . cases h
 . have h:(as==0&&(gR tg).length==k&&(caps.all λi=>decide (i<Γ.N.length))&&decide caps.Nodup&&scope.kind==.function&&decide (gR tg++caps.filterMap λi=>Γ.N[i]?).Nodup &&
    ((caps.filterMap λi=>Γ.N[i]?).all λx=>scope.names.lookup x==some .free&&Γ.sc.lookup x==some .cell) &&
    (scope.names.all λp=>p.2 != .cell&&(p.2 != .local||scope.names.lookup p.1==some .local)&&(p.2 != .free||Γ.sc.lookup p.1==some .cell)) &&
    ((tIx t).all λi=>decide (i<k))&&decide (ifs.length<=1) &&
    oF (aAd Γ tg caps scope) t tg&&chkI Γ (pT tg) it iter&&chkEs (aAd Γ tg caps scope) cond ifs&&bB (aAd Γ tg caps scope) elt el)=true:=by
    exact h
   simp only[bA,beq_iff_eq,Bu,A1,Cr,bne_iff_ne,ne_eq] at h
   obtain⟨⟨⟨⟨⟨⟨⟨⟨⟨⟨⟨⟨⟨h0,h1⟩,h2⟩,h3⟩,h4⟩,h5⟩,h6⟩,h7⟩,h8⟩,h9⟩,h10⟩,h11⟩,h12⟩,h13⟩:=h
   subst h0
   refine⟨el,tg,iter,ifs,scope,pos,rfl,⟨h1,h2,h3,h4,h5,h6,λp hp=>?_,h8⟩,h9,h10,h11,h12,h13⟩
   obtain⟨⟨q1,q2⟩,q3⟩:=h7 p hp
   exact⟨q1,λe=>q2.resolve_left λz=>z e,λe=>q3.resolve_left λz=>z e⟩
 . cases h
abbrev PEc(P:Pg)(n:Nat)(c:E):Prop:=∀{X:Cx} {Γ:Ct},Mc X P Γ n->∀{e:Expr},bB Γ c e=true->∀(RT Y old:Addr->Prop) (σ:Sg),PE X e (WE X P n RT Y old σ c)
abbrev PTc(P:Pg)(n:Nat)(c:E):Prop:=∀{X:Cx} {Γ:Ct},Mc X P Γ n->∀{e:Expr},bB Γ c e=true->∀(RT Y old:Addr->Prop) (σ:Sg),PT X e (WT X P n RT Y old σ c)
abbrev PWc(P:Pg)(n:Nat)(c:E):Prop:=∀{X:Cx} {Γ:Ct},Mc X P Γ n->∀{o:BoolOp} {xs:List Expr} {pos:Pos},bB Γ c (.BoolOp o xs pos)=true->∀(RT Y old:Addr->Prop) (σ:Sg),PW X (.BoolOp o xs pos) (WT X P n RT Y old σ c)
structure Q3 (P:Pg) (n:Nat) (c:E):Prop where
 e:PEc P n c
 t:PTc P n c
 w:PWc P n c
structure QA (P:Pg) (n:Nat) (cs:Es):Prop where
 a:∀{X:Cx} {Γ:Ct},Mc X P Γ n->∀{es:List Expr},chkEs Γ cs es=true->∀(RT Y old:Addr->Prop) (σ:Sg),PA X es (WA X P n RT Y old σ cs)
 o:∀{X:Cx} {Γ:Ct},Mc X P Γ n->∀{e:Option Expr},chkO Γ cs e=true->∀(RT Y old:Addr->Prop) (σ:Sg),PO X e (wO X P n RT Y old σ cs)
 ts:∀{X:Cx} {Γ:Ct},Mc X P Γ n->∀{es:List Expr},es.length<=1->chkEs Γ cs es=true->∀(RT Y old:Addr->Prop) (σ:Sg),PTs X es (wTs X P n RT Y old σ cs)
abbrev QI(P:Pg)(n:Nat)(it:Hp.It):Prop:=∀{X:Cx} {Γ:Ct},Mc X P Γ n->∀{tg e:Expr},chkI Γ (pT tg) it e=true->∀(RT Y old:Addr->Prop) (σ:Sg),PI X tg e (wI X P n RT Y old σ it)
theorem Q3.of{c:E}(h:PEc P n c)(hd:∀σ,tst P (call P n) σ c=.bad)(hw:∀{Γ:Ct} {o:BoolOp} {xs:List Expr} {pos:Pos},bB Γ c (.BoolOp o xs pos)=false):Q3 P n c:=
 ⟨h,λ{X Γ} M {e} z RT Y old σ=>aGk (hd σ),λ{X Γ} M {o xs pos} z RT Y old σ=>absurd (hw.symm.trans z) bN⟩
theorem n_c{d:D}:Q3 P n (.c d):=by
 have h0:∀{Γ:Ct} {e:Expr},bB Γ (.c d) e=true->(∃c k p,e=.Constant c k p/\eqC d c=true)\/∃x p,e=.Name x p/\dR Γ x=true/\dA x=true/\∃d',Γ.cns.lookup x=some d'/\eqK d d'=true:=λ{Γ e} h=>by
  rcases(Cr _ _).mp (show(oS (asC e) (eqC d)||oS (asN e) λx=>dR Γ x&&dA x&&oB (Γ.cns.lookup x) (eqK d))=true from h) with h|h
  . obtain⟨c,h1,g⟩:=aI h
    clear h
    obtain⟨k,p,rfl⟩:=h1
    have h:=g
    clear g
    exact .inl ⟨c,k,p,rfl,h⟩
  . obtain⟨x,h1,g⟩:=aI h
    clear h
    obtain⟨p,rfl⟩:=h1
    have h:=g
    clear g
    obtain⟨h1,h2,h3⟩:=hG h
    obtain⟨d',q1,q2⟩:=aDC h3
    exact .inr ⟨x,p,rfl,h1,h2,d',q1,q2⟩
 have k:PEc P n (.c d):=λ{X Γ} M {e} h RT Y old σ=>by
  rcases h0 h with⟨c,j,p,rfl,g⟩|⟨x,p,rfl,h1,h2,d',q,h3⟩
  . exact s_c g
  . have e:=aIg h3
    subst e
    obtain⟨u,v,m,r,hr⟩:=M.md.cns x d q
    refine(aAI (M.gl h1) m r (bC h2)).imp λσV H Q t ⟨S,hh⟩ t'=>?_
    exact(show Wn _ RT Y old σ σV H Q (Vl.cl d) from hh) v H t' (Ro.val (aX.refl H) (hr H))
 refine⟨k,λ{X Γ} M {e} h RT Y old σ=>?_,λ{X Γ} M {o xs pos} h RT Y old σ=>absurd h bN⟩
 refine sO (k M h RT Y old σ) ?_ λp hp=>hp
 rcases h0 h with⟨c,j,p,rfl,h⟩|⟨x,p,rfl,_⟩ <;> (intro _;rfl)
theorem n_v{i:Nat}:Q3 P n (.v i):=by
 have k:PEc P n (.v i):=λ{X Γ} M {e} h RT Y old σ=>by
  obtain⟨x,h1,g⟩:=aI h
  clear h
  obtain⟨p,rfl⟩:=h1
  have h:=g
  clear g
  have h:eS _ i x=true:=h
  unfold eS at h
  obtain⟨h1,h2,h3⟩:=hG h
  exact s_v (by rw[M.N];exact eq_of_beq h1) (M.vis h2) (bC h3) (nA h3)
 refine⟨k,λ{X Γ} M {e} h RT Y old σ=>?_,λ{X Γ} M {o xs pos} h RT Y old σ=>absurd h bN⟩
 refine sO (k M h RT Y old σ) ?_ λp hp=>RE.bind' (show RE (bY σ i >>= λx=>gH x) p from hp)
 obtain⟨x,⟨p,rfl⟩,_⟩:=aI h
 intro _;rfl
theorem aNp{o:Operator}{a b:E}(ha:Q3 P n a)(hb:Q3 P n b):Q3 P n (.op o a b):=Q3.of (λ{X Γ} M {e} h RT Y old σ=>by
 obtain⟨⟨l,o',r⟩,h1,g⟩:=aI h
 clear h
 obtain⟨p,rfl⟩:=h1
 have h:=g
 clear g
 obtain⟨h1,h2,h3⟩:=hG h
 have e:o=o':=eq_of_beq h1
 subst e
 exact aNk (ha.e M h2 RT Y old σ) (hb.e M h3 RT Y old σ)) (λ_=>rfl) rfl
theorem aLh{a:E}(ha:Q3 P n a):Q3 P n (.neg a):=Q3.of (λ{X Γ} M {e} h RT Y old σ=>by
 obtain⟨⟨o,x⟩,h1,g⟩:=aI h
 clear h
 obtain⟨p,rfl⟩:=h1
 have h:=g
 clear g
 obtain⟨h1,h2⟩:=fR h
 have e:o=.USub:=eq_of_beq h1
 subst e
 exact aKN (ha.e M h2 RT Y old σ)) (λ_=>rfl) rfl
theorem aNq{a:E}(ha:Q3 P n a):Q3 P n (.nt a):=by
 have h0:∀{Γ:Ct} {e:Expr},bB Γ (.nt a) e=true->∃x p,e=.UnaryOp .Not x p/\bB Γ a x=true:=λ{Γ e} h=>by
  obtain⟨⟨o,x⟩,h1,g⟩:=aI h
  clear h
  obtain⟨p,rfl⟩:=h1
  have h:=g
  clear g
  obtain⟨h1,h2⟩:=fR h
  have e:o=.Not:=eq_of_beq h1
  subst e
  exact⟨x,p,rfl,h2⟩
 refine⟨λ{X Γ} M {e} h RT Y old σ=>?_,λ{X Γ} M {e} h RT Y old σ=>?_,λ{X Γ} M {o xs pos} h RT Y old σ=>absurd h bN⟩
 . obtain⟨x,p,rfl,g⟩:=h0 h
   exact aKO (ha.e M g RT Y old σ)
 . obtain⟨x,p,rfl,g⟩:=h0 h
   exact dF (ha.t M g RT Y old σ)
theorem aAW{Γ:Ct}{a b:E}{w:BoolOp}{xs:List Expr}{p:Pos}(h:(match xs with
 | [x,y]=>bB Γ a x&&bB Γ b y
 | x::y::z::r=>bB Γ a x&&bB Γ b (.BoolOp w (y::z::r) p)
 | _=>false)=true):∃x y r,xs=x::y::r/\bB Γ a x=true/\((r=[]/\bB Γ b y=true)\/bB Γ b (.BoolOp w (y::r) p)=true):=by
 rcases xs with _|⟨x,_|⟨y,_|⟨z,r⟩⟩⟩
 . cases h
 . cases h
 . obtain⟨h1,h2⟩:=fR h
   exact⟨x,y,[],rfl,h1,.inl ⟨rfl,h2⟩⟩
 . obtain⟨h1,h2⟩:=fR h
   exact⟨x,y,z::r,rfl,h1,.inr h2⟩
theorem aNr{a b:E}(ha:Q3 P n a)(hb:Q3 P n b):Q3 P n (.an a b):=by
 have kw:PWc P n (.an a b):=λ{X Γ} M {o xs pos} h RT Y old σ=>by
  obtain⟨h1,h2⟩:=fR h
  have e:o=.And:=eq_of_beq h1
  subst e
  obtain⟨x,y,r,rfl,g1,g2⟩:=aAW h2
  rcases g2 with⟨rfl,g2⟩|g2
  . exact aKW (ha.t M g1 RT Y old σ) (aFr (hb.t M g2 RT Y old σ))
  . exact aKW (ha.t M g1 RT Y old σ) (hb.w M g2 RT Y old σ)
 refine⟨λ{X Γ} M {e} h RT Y old σ=>?_,λ{X Γ} M {e} h RT Y old σ=>?_,kw⟩
 . obtain⟨⟨o,xs,pos⟩,h1,g⟩:=aI h
   clear h
   obtain rfl:=h1
   have h:=g
   clear g
   obtain⟨h1,h2⟩:=fR h
   have e:o=.And:=eq_of_beq h1
   subst e
   obtain⟨x,y,r,e,g1,g2⟩:=aAW h2
   have e:xs=x::y::r:=e
   subst e
   rcases g2 with⟨rfl,g2⟩|g2
   . exact aKP (ha.e M g1 RT Y old σ) (aCU (hb.e M g2 RT Y old σ))
   . exact aKP (ha.e M g1 RT Y old σ) (hb.e M g2 RT Y old σ)
 . obtain⟨⟨o,xs,pos⟩,rfl,_⟩:=aI h
   exact(kw M h RT Y old σ).pt
theorem aLi{a b:E}(ha:Q3 P n a)(hb:Q3 P n b):Q3 P n (.orr a b):=by
 have kw:PWc P n (.orr a b):=λ{X Γ} M {o xs pos} h RT Y old σ=>by
  obtain⟨h1,h2⟩:=fR h
  have e:o=.Or:=eq_of_beq h1
  subst e
  obtain⟨x,y,r,rfl,g1,g2⟩:=aAW h2
  rcases g2 with⟨rfl,g2⟩|g2
  . exact aHa (ha.t M g1 RT Y old σ) (aHw (hb.t M g2 RT Y old σ))
  . exact aHa (ha.t M g1 RT Y old σ) (hb.w M g2 RT Y old σ)
 refine⟨λ{X Γ} M {e} h RT Y old σ=>?_,λ{X Γ} M {e} h RT Y old σ=>?_,kw⟩
 . obtain⟨⟨o,xs,pos⟩,h1,g⟩:=aI h
   clear h
   obtain rfl:=h1
   have h:=g
   clear g
   obtain⟨h1,h2⟩:=fR h
   have e:o=.Or:=eq_of_beq h1
   subst e
   obtain⟨x,y,r,e,g1,g2⟩:=aAW h2
   have e:xs=x::y::r:=e
   subst e
   rcases g2 with⟨rfl,g2⟩|g2
   . exact aGZ (ha.e M g1 RT Y old σ) (aCU (hb.e M g2 RT Y old σ))
   . exact aGZ (ha.e M g1 RT Y old σ) (hb.e M g2 RT Y old σ)
 . obtain⟨⟨o,xs,pos⟩,rfl,_⟩:=aI h
   exact(kw M h RT Y old σ).pt
theorem aLj{t a b:E}(ht:Q3 P n t)(ha:Q3 P n a)(hb:Q3 P n b):Q3 P n (.ife t a b):=Q3.of (λ{X Γ} M {e} h RT Y old σ=>by
 obtain⟨⟨t',a',b'⟩,h1,g⟩:=aI h
 clear h
 obtain⟨p,rfl⟩:=h1
 have h:=g
 clear g
 obtain⟨h1,h2,h3⟩:=hG h
 exact aKQ (ht.t M h1 RT Y old σ) (ha.e M h2 RT Y old σ) (hb.e M h3 RT Y old σ)) (λ_=>rfl) rfl
theorem aLk{o:CmpOp}{a b:E}(ha:Q3 P n a)(hb:Q3 P n b):Q3 P n (.cmp o a b):=by
 have h0:∀{Γ:Ct} {e:Expr},bB Γ (.cmp o a b) e=true->∃l r p,e=.Compare l [o] [r] p/\bB Γ a l=true/\bB Γ b r=true:=λ{Γ e} h=>by
  obtain⟨⟨l,os,rs⟩,h1,g⟩:=aI h
  clear h
  obtain⟨p,rfl⟩:=h1
  have h:=g
  clear g
  rcases os with _|⟨o',_|⟨_,_⟩⟩
  . cases h
  . rcases rs with _|⟨r,_|⟨_,_⟩⟩
    . cases h
    . obtain⟨h1,h2,h3⟩:=hG h
      have e:o=o':=eq_of_beq h1
      subst e
      exact⟨l,r,p,rfl,h2,h3⟩
    . cases h
  . cases h
 refine⟨λ{X Γ} M {e} h RT Y old σ=>?_,λ{X Γ} M {e} h RT Y old σ=>?_,λ{X Γ} M {o xs pos} h RT Y old σ=>absurd h bN⟩
 . obtain⟨l,r,p,rfl,h2,h3⟩:=h0 h
   exact aKR M (ha.e M h2 RT Y old σ) (hb.e M h3 RT Y old σ) (aT h3)
 . obtain⟨l,r,p,rfl,h2,h3⟩:=h0 h
   exact cA M (ha.e M h2 RT Y old σ) (hb.e M h3 RT Y old σ) (aT h3)
theorem aIF{o1 o2:CmpOp}{a b c:E}(ha:Q3 P n a)(hb:Q3 P n b)(hc:Q3 P n c):Q3 P n (.cmp2 o1 o2 a b c):=by
 have h0:∀{Γ:Ct} {e:Expr},bB Γ (.cmp2 o1 o2 a b c) e=true->∃l m r p,e=.Compare l [o1,o2] [m,r] p/\bB Γ a l=true/\bB Γ b m=true/\bB Γ c r=true:=λ{Γ e} h=>by
  obtain⟨⟨l,os,rs⟩,h1,g⟩:=aI h
  clear h
  obtain⟨p,rfl⟩:=h1
  have h:=g
  clear g
  rcases os with _|⟨o1',_|⟨o2',_|⟨_,_⟩⟩⟩
  . cases h
  . cases h
  . rcases rs with _|⟨m,_|⟨r,_|⟨_,_⟩⟩⟩
    . cases h
    . cases h
    . obtain⟨h1,h2,h3,h4,h5⟩:=aAe h
      have e:o1=o1':=eq_of_beq h1
      subst e
      have e:o2=o2':=eq_of_beq h2
      subst e
      exact⟨l,m,r,p,rfl,h3,h4,h5⟩
    . cases h
  . cases h
 refine⟨λ{X Γ} M {e} h RT Y old σ=>?_,λ{X Γ} M {e} h RT Y old σ=>?_,λ{X Γ} M {o xs pos} h RT Y old σ=>absurd h bN⟩
 . obtain⟨l,m,r,p,rfl,h3,h4,h5⟩:=h0 h
   exact aIj M (ha.e M h3 RT Y old σ) (hb.e M h4 RT Y old σ) (hc.e M h5 RT Y old σ) (aT h5)
 . obtain⟨l,m,r,p,rfl,h3,h4,h5⟩:=h0 h
   exact aIk M (ha.e M h3 RT Y old σ) (hb.e M h4 RT Y old σ) (hc.e M h5 RT Y old σ) (aT h5)
theorem aLl{a b:E}(ha:Q3 P n a)(hb:Q3 P n b):Q3 P n (.idx a b):=by
 have k:PEc P n (.idx a b):=λ{X Γ} M {e} h RT Y old σ=>by
  obtain⟨⟨x,i⟩,h1,g⟩:=aI h
  clear h
  obtain⟨p,rfl⟩:=h1
  have h:=g
  clear g
  obtain⟨h1,h2⟩:=fR h
  exact aKS (ha.e M h1 RT Y old σ) (hb.e M h2 RT Y old σ) (aT h2)
 refine⟨k,λ{X Γ} M {e} h RT Y old σ=>?_,λ{X Γ} M {o xs pos} h RT Y old σ=>absurd h bN⟩
 refine sO (k M h RT Y old σ) ?_ λp hp=>?_
 . obtain⟨⟨x,i⟩,⟨p,rfl⟩,_⟩:=aI h
   intro _;rfl
 . have hp:=RE.bind' (show RE (ev P (call P n) σ a >>= λx=>ev P (call P n) σ b >>= λy=>eE x y >>= λz=>gH z) p from hp)
   show RE (ev P (call P n) σ a >>= λx=>ev P (call P n) σ b >>= λy=>eE x y) _
   rw[RE.bind]
   refine hp.mono λx hx=>?_
   rw[RE.bind]
   exact(RE.bind' hx).mono λy hy=>RE.bind' hy
theorem aLm{a:E}{lo hi:Es}(ha:Q3 P n a)(hl:QA P n lo)(hh:QA P n hi):Q3 P n (.sli a lo hi):=Q3.of (λ{X Γ} M {e} h RT Y old σ=>by
 obtain⟨⟨x,i⟩,h1,g⟩:=aI h
 clear h
 obtain⟨p,rfl⟩:=h1
 have h:=g
 clear g
 obtain⟨⟨l,u⟩,h1,g⟩:=aI h
 clear h
 obtain⟨p2,e2⟩:=h1
 have h:=g
 clear g
 have e2:i=.Slice l u none p2:=e2
 subst e2
 obtain⟨h1,h2,h3⟩:=hG h
 exact aKZ (ha.e M h1 RT Y old σ) (hl.o M h2 RT Y old σ) (hh.o M h3 RT Y old σ)) (λ_=>rfl) rfl
theorem aLn{es:Es}(ha:QA P n es):Q3 P n (.tup es):=Q3.of (λ{X Γ} M {e} h RT Y old σ=>by
 obtain⟨xs,h1,g⟩:=aI h
 clear h
 obtain⟨k,p,rfl⟩:=h1
 have h:=g
 clear g
 obtain⟨h1,h2⟩:=fR h
 exact aKT (ha.a M h2 RT Y old σ) h2 (A9 h1)) (λ_=>rfl) rfl
theorem aLo{es:Es}(ha:QA P n es):Q3 P n (.lst es):=Q3.of (λ{X Γ} M {e} h RT Y old σ=>by
 obtain⟨xs,h1,g⟩:=aI h
 clear h
 obtain⟨p,rfl⟩:=h1
 have h:=g
 clear g
 obtain⟨h1,h2⟩:=fR h
 exact aKU (ha.a M h2 RT Y old σ) h2 (A9 h1)) (λ_=>rfl) rfl
theorem aIG{f:Nat}{es:Es}(ha:QA P n es):Q3 P n (.call f es):=by
 have k:PEc P n (.call f es):=λ{X Γ} M {e} h RT Y old σ=>by
  obtain⟨⟨x,xs⟩,h1,g⟩:=aI h
  clear h
  obtain⟨p1,p2,rfl⟩:=h1
  have h:=g
  clear g
  obtain⟨h1,h2,h3,h4⟩:=aIE h
  exact aIh M (eq_of_beq h1) h2 h3 (ha.a M h4 RT Y old σ) (jD h4) h4
 refine⟨k,λ{X Γ} M {e} h RT Y old σ=>?_,λ{X Γ} M {o xs pos} h RT Y old σ=>absurd h bN⟩
 refine sO (k M h RT Y old σ) ?_ λp hp=>?_
 . obtain⟨⟨x,xs⟩,⟨p1,p2,rfl⟩,_⟩:=aI h
   intro _;rfl
 . have hp:=RE.bind' (show RE (evs P (call P n) σ es >>= λvs=>call P n f (vs.map (·.d)) >>= λr=>gH (iI vs r)) p from hp)
   show RE (evs P (call P n) σ es >>= λvs=>call P n f (vs.map (·.d)) >>= λr=>R.ok (iI vs r)) _
   rw[RE.bind]
   refine hp.mono λx hx=>?_
   rw[RE.bind]
   exact(RE.bind' hx).mono λy hy=>hy
theorem aNs{b:Bi}{es:Es}(ha:QA P n es):Q3 P n (.bi b es):=by
 have k:PEc P n (.bi b es):=λ{X Γ} M {e} h RT Y old σ=>by
  obtain⟨⟨x,xs⟩,h1,g⟩:=aI h
  clear h
  obtain⟨p1,p2,rfl⟩:=h1
  have h:=g
  clear g
  obtain⟨h,h6⟩:=fR h
  obtain⟨h1,h2,h3,h4,h5⟩:=aAe h
  cases xs with
  | nil=>cases h5
  | cons y ys=>exact aNl M h1 (eq_of_beq h2) h3 h4 (ha.a M h6 RT Y old σ) (jD h6)
 refine⟨k,λ{X Γ} M {e} h RT Y old σ=>?_,λ{X Γ} M {o xs pos} h RT Y old σ=>absurd h bN⟩
 refine sO (k M h RT Y old σ) ?_ λp hp=>?_
 . obtain⟨⟨x,xs⟩,⟨p1,p2,rfl⟩,_⟩:=aI h
   intro _;rfl
 . have hp:=RE.bind' (show RE (evs P (call P n) σ es >>= λvs=>biD b vs >>= λx=>gH x) p from hp)
   show RE (evs P (call P n) σ es >>= λvs=>biD b vs) _
   rw[RE.bind]
   exact hp.mono λx hx=>RE.bind' hx
theorem aLp{a:E}{cs:List Cl}(ha:Q3 P n a):Q3 P n (.isi a cs):=by
 have k:PEc P n (.isi a cs):=λ{X Γ} M {e} h RT Y old σ=>by
  obtain⟨⟨f,xs⟩,h1,g⟩:=aI h
  clear h
  obtain⟨p1,p2,rfl⟩:=h1
  have h:=g
  clear g
  rcases cs with _|⟨c,_|⟨_,_⟩⟩
  . cases h
  . rcases xs with _|⟨x,_|⟨y,_|⟨_,_⟩⟩⟩
    . cases h
    . cases h
    . obtain⟨h1,h2,h3,h4,h5⟩:=aAe h
      unfold aGW at h5
      split at h5
      . rename_i z p3
        obtain⟨q1,q2,q3⟩:=hG h5
        have hc:∃cv,wW c=some cv:=by cases c <;> first|exact⟨_,rfl⟩|cases h3
        obtain⟨cv,hc⟩:=hc
        exact aKV M (eq_of_beq h1) h2 hc (eq_of_beq q1) q2 q3 (ha.e M h4 RT Y old σ) (aT h4)
      . cases h5
    . cases h
  . cases h
 refine⟨k,λ{X Γ} M {e} h RT Y old σ=>?_,λ{X Γ} M {o xs pos} h RT Y old σ=>absurd h bN⟩
 refine sO (k M h RT Y old σ) ?_ λp hp=>?_
 . obtain⟨⟨x,xs⟩,⟨p1,p2,rfl⟩,_⟩:=aI h
   intro _;rfl
 . have hp:=RE.bind' (show RE (ev P (call P n) σ a >>= λx=>(match isI cs P x.d with|some k=>R.ok k|none=>.bad)) p from hp)
   show RE (ev P (call P n) σ a >>= λx=>(match isI cs P x.d with|some k=>R.ok (Vl.cl (.bl k))|none=>.bad)) _
   rw[RE.bind]
   refine hp.mono λx hx=>?_
   cases q:isI cs P x.d with
   | none=>rw[q] at hx;exact hx.elim
   | some k=>rw[q] at hx;exact hx
theorem aIH{k:Nat}{caps:List Nat}{t:T}{it:Hp.It}{cond:Es}{elt:E}(hi:QI P n it)(hc:QA P n cond)(he:Q3 P n elt):Q3 P n (.comp k caps t it cond elt):=Q3.of (λ{X Γ} M {e} h RT Y old σ=>by
 obtain⟨el,tg,iter,ifs,scope,pos,rfl,O,h1,h2,h3,h4,h5⟩:=aAV h
 refine aIw M (O.scope M) O.ndc O.tk (hi M h3 RT Y old σ) (λC s₀ H₀ ex=>?_) (nB (lE h3))
 have M':=O.mc M C s₀ H₀ ex
 exact⟨aGh M' h2,λRT Y old σ1=>hc.ts M' h1 h4 RT Y old σ1,λRT Y old σ1=>he.e M' h5 RT Y old σ1⟩) (λ_=>rfl) rfl
theorem aII{i:Nat}{a:E}(ha:Q3 P n a):Q3 P n (.tget i a):=Q3.of (λ{X Γ} M {e} h RT Y old σ=>by
 obtain⟨⟨o,m,xs,l⟩,h1,g⟩:=aI h
 clear h
 obtain⟨ap,cp,rfl,hl⟩:=h1
 have h:=g
 clear g
 obtain⟨x,h1,g⟩:=aI h
 clear h
 obtain⟨p,e2⟩:=h1
 have h:=g
 clear g
 have e2:o=.Name x p:=e2
 subst e2
 obtain⟨h,h6⟩:=fR h
 obtain⟨h1,h2,h3,h4,h5⟩:=aAe h
 rw[show l=true from h5] at hl
 rcases xs with _|⟨y,_|⟨_,_⟩⟩
 . cases h6
 . exact aIi M (eq_of_beq h1) (eq_of_beq h2) h3 h4 hl (ha.e M h6 RT Y old σ) (aT h6)
 . cases h6) (λ_=>rfl) rfl
theorem aEg{a:E}(ha:Q3 P n a):Q3 P n (.numset a):=Q3.of (λ{X Γ} M {e} h RT Y old σ=>by
 obtain⟨⟨f,xs⟩,h1,g⟩:=aI h
 clear h
 obtain⟨p1,p2,rfl⟩:=h1
 have h:=g
 clear g
 rcases xs with _|⟨s,_|⟨_,_⟩⟩
 . cases h
 . obtain⟨⟨g,ys⟩,h1,g⟩:=aI h
   clear h
   obtain⟨p3,p4,e2⟩:=h1
   have h:=g
   clear g
   have e2:s=.Call (.Name g p3) ys [] p4:=e2
   subst e2
   obtain⟨h1,h2,h3,h4,h5⟩:=aAe h
   rcases ys with _|⟨x,_|⟨_,_⟩⟩
   . cases h5
   . exact aDJ M (eq_of_beq h1) h2 (eq_of_beq h3) h4 (ha.e M h5 RT Y old σ) (aT h5)
   . cases h5
 . cases h) (λ_=>rfl) rfl
theorem uP{c:E}(h:∀{Γ:Ct} {e:Expr},bB Γ c e=false):Q3 P n c:=
 ⟨λ{X Γ} M {e} z=>absurd (h.symm.trans z) bN,λ{X Γ} M {e} z=>absurd (h.symm.trans z) bN,λ{X Γ} M {o xs pos} z=>absurd (h.symm.trans z) bN⟩
theorem aLq:QA P n .z:=by
 refine⟨λ{X Γ} M {es} h RT Y old σ=>?_,λ{X Γ} M {e} h RT Y old σ=>?_,λ{X Γ} M {es} hl h RT Y old σ=>?_⟩
 . cases es with
   | nil=>exact wY
   | cons _ _=>exact nf h
 . cases e with
   | none=>exact aKX
   | some _=>exact nf h
 . cases es with
   | nil=>exact aIu
   | cons _ _=>exact nf h
theorem aIJ{c:E}{cs:Es}(hc:Q3 P n c)(hs:QA P n cs):QA P n (.k c cs):=by
 refine⟨λ{X Γ} M {es} h RT Y old σ=>?_,λ{X Γ} M {e} h RT Y old σ=>?_,λ{X Γ} M {es} hl h RT Y old σ=>?_⟩
 . cases es with
   | nil=>exact nf h
   | cons e es=>
    obtain⟨h1,h2⟩:=fR h
    exact lB (hc.e M h1 RT Y old σ) (hs.a M h2 RT Y old σ) (aT h1)
 . cases cs with
   | z=>cases e with
    | none=>exact nf h
    | some e=>exact aKY (hc.e M (by exact h) RT Y old σ)
   | k _ _=>cases e <;> exact nf h
 . cases es with
   | nil=>exact nf h
   | cons e es=>
    obtain⟨h1,h2⟩:=fR h
    cases es with
    | nil=>cases cs with
     | z=>exact aIv (hc.t M h1 RT Y old σ)
     | k _ _=>exact absurd h2 bN
    | cons _ _=>simp at hl
theorem aLr{c:E}(hc:Q3 P n c):QI P n (.seq c):=λ{X Γ} M {tg e} h RT Y old σ=>aLa (hc.e M (by exact h) RT Y old σ)
theorem aLs{a b:E}(ha:Q3 P n a)(hb:Q3 P n b):QI P n (.rng a b):=λ{X Γ} M {tg e} h RT Y old σ=>by
 rw[xL] at h
 obtain⟨⟨f,xs⟩,h1,g⟩:=aI h
 clear h
 obtain⟨p1,p2,rfl⟩:=h1
 have h:=g
 clear g
 obtain⟨h1,h2,h3⟩:=hG h
 rcases xs with _|⟨x,_|⟨y,_|⟨_,_⟩⟩⟩
 . cases h3
 . obtain⟨h3,h4⟩:=fR h3
   have ez:a=.c (.int 0):=by
    unfold zP at h3
    split at h3
    . rw[eq_of_beq h3]
    . cases h3
   rw[ez]
   exact aIr M (eq_of_beq h1) h2 (hb.e M h4 RT Y old σ) (aT h4)
 . obtain⟨h3,h4⟩:=fR h3
   exact aIs M (eq_of_beq h1) h2 (ha.e M h3 RT Y old σ) (hb.e M h4 RT Y old σ) (aT h3) (aT h4)
 . cases h3
theorem aLt{a b:E}(ha:Q3 P n a)(hb:Q3 P n b):QI P n (.zip a b):=λ{X Γ} M {tg e} h RT Y old σ=>by
 rw[xM] at h
 obtain⟨⟨f,xs⟩,h1,g⟩:=aI h
 clear h
 obtain⟨p1,p2,rfl⟩:=h1
 have h:=g
 clear g
 rcases xs with _|⟨x,_|⟨y,_|⟨_,_⟩⟩⟩
 . cases h
 . cases h
 . obtain⟨h0,h1,h2,h3,h4⟩:=aAe h
   unfold pT at h0
   split at h0
   . exact aLb M (eq_of_beq h1) h2 (ha.e M h3 RT Y old σ) (hb.e M h4 RT Y old σ) (aT h3) (aT h4)
   . cases h0
 . cases h
theorem aIK{a:E}(ha:Q3 P n a):QI P n (.enum a):=λ{X Γ} M {tg e} h RT Y old σ=>by
 rw[sZ] at h
 obtain⟨⟨f,xs⟩,h1,g⟩:=aI h
 clear h
 obtain⟨p1,p2,rfl⟩:=h1
 have h:=g
 clear g
 rcases xs with _|⟨x,_|⟨_,_⟩⟩
 . cases h
 . obtain⟨h0,h1,h2,h3⟩:=aIE h
   unfold pT at h0
   split at h0
   . exact aIt M (eq_of_beq h1) h2 (ha.e M h3 RT Y old σ) (aT h3)
   . cases h0
 . cases h
theorem aLu{it:Hp.It}(z:∀Γ tt e,chkI Γ tt it e=false):QI P n it:=by
 intro X Γ M tg e h RT Y old σ
 rw[z] at h
 cases h
theorem aIL{a:E}(ha:Q3 P n a):Q3 P n (.sset a):=Q3.of (λ{X Γ} M {e} h RT Y old σ=>by
 obtain⟨⟨f,xs⟩,h1,g⟩:=aI h
 clear h
 obtain⟨p1,p2,rfl⟩:=h1
 have h:=g
 clear g
 rcases xs with _|⟨s,_|⟨_,_⟩⟩
 . cases h
 . obtain⟨⟨g,ys⟩,h1,g⟩:=aI h
   clear h
   obtain⟨p3,p4,e2⟩:=h1
   have h:=g
   clear g
   have e2:s=.Call (.Name g p3) ys [] p4:=e2
   subst e2
   obtain⟨h1,h2,h3,h4,h5⟩:=aAe h
   rcases ys with _|⟨x,_|⟨_,_⟩⟩
   . cases h5
   . exact aIC M (eq_of_beq h1) h2 (eq_of_beq h3) h4 (ha.e M h5 RT Y old σ) (aT h5)
   . cases h5
 . cases h) (λ_=>rfl) rfl
mutual
theorem qE:(c:E)->Q3 P n c
 | .c _=>n_c
 | .v _=>n_v
 | .op _ a b=>aNp (qE a) (qE b)
 | .neg a=>aLh (qE a)
 | .nt a=>aNq (qE a)
 | .an a b=>aNr (qE a) (qE b)
 | .orr a b=>aLi (qE a) (qE b)
 | .ife t a b=>aLj (qE t) (qE a) (qE b)
 | .cmp _ a b=>aLk (qE a) (qE b)
 | .cmp2 _ _ a b c=>aIF (qE a) (qE b) (qE c)
 | .idx a b=>aLl (qE a) (qE b)
 | .sli a lo hi=>aLm (qE a) (qA lo) (qA hi)
 | .tup es=>aLn (qA es)
 | .lst es=>aLo (qA es)
 | .dic _ _=>uP rfl
 | .call _ es=>aIG (qA es)
 | .bi _ es=>aNs (qA es)
 | .mth _ _ _=>uP rfl
 | .isi a _=>aLp (qE a)
 | .attr _ _=>uP rfl
 | .comp _ _ _ it cond elt=>aIH (qI it) (qA cond) (qE elt)
 | .numset a=>aEg (qE a)
 | .tget _ a=>aII (qE a)
 | .lzip _ _=>uP rfl
 | .sset a=>aIL (qE a)
theorem qA:(cs:Es)->QA P n cs
 | .z=>aLq
 | .k c cs=>aIJ (qE c) (qA cs)
theorem qI:(it:Hp.It)->QI P n it
 | .seq c=>aLr (qE c)
 | .rng a b=>aLs (qE a) (qE b)
 | .zip a b=>aLt (qE a) (qE b)
 | .enum a=>aIK (qE a)
 | .rev _=>aLu λ_ _ _=>rfl
end
theorem sE(c:E):PEc P n c:=(qE c).e
theorem sT(c:E):PTc P n c:=(qE c).t
theorem sTs(cs:Es):∀{X:Cx} {Γ:Ct},Mc X P Γ n->∀{es:List Expr},es.length<=1->chkEs Γ cs es=true->∀(RT Y old:Addr->Prop) (σ:Sg),PTs X es (wTs X P n RT Y old σ cs):=(qA cs).ts
theorem sI(it:Hp.It):QI P n it:=qI it
end
end Hp
end
noncomputable section
set_option maxHeartbeats 4000000
namespace Hp
open PySem PySem.Spec PyProof.Rows L2
def eT(K:Fg)(RT Y old:Addr->Prop)(H:Hp)(σ':Sg)(Q:L2.St->Hp->Prop):Prop:=
 ∀(RT':Addr->Prop) (σV':L2.St) (H':Hp),Kp RT H H'->(∀b,RT' b->RT b\/H b=none)->Sx K RT' Y old σ' σV' H'->Q σV' H'
def Rtv(K:Fg)(Y old:Addr->Prop)(H':Hp)(v:Vl)(u:V):Prop:=
 if v.fr=true then ∃a xs ds,u=.ref a/\v.d=.lst ds/\¬ old a/\H' a=some (.lst xs)/\Reps K H' (λb=>b=a\/exB Y old v.pa b) ds xs
 else Rep K H' (exB Y old v.pa) v.d u
def qP(K:Fg)(RT Y old:Addr->Prop)(H:Hp)(v:Vl)(Q:VK):Prop:=∀(u:V) (H':Hp),Kp RT H H'->Tk K H'->Rtv K Y old H' v u->Q u H'
def OE(K:Fg)(RT Y old:Addr->Prop)(H:Hp)(o:O)(D:Ends):Prop:=match o with
 | .next σ'=>eT K RT Y old H σ' D.nx
 | .brk σ'=>eT K RT Y old H σ' D.bk
 | .cnt σ'=>eT K RT Y old H σ' D.ct
 | .ret v=>qP K RT Y old H v D.rt
 | .exc _ _=>False
 | .bad=>False
def wS(X:Cx)(RT Y old:Addr->Prop)(σ:Sg)(o:O):TS:=λD σV H=>Sx X.K RT Y old σ σV H/\OE X.K RT Y old H o D
section
variable {K:Fg} {RT RT' RT'' Y old:Addr->Prop} {σ:Sg} {σV:L2.St} {H H1 H2:Hp} {o:O} {D D':Ends}
theorem Kp.chain(a:Kp RT H H1)(s:∀b,RT' b->RT b\/H b=none)(b:Kp RT' H1 H2):Kp RT H H2:=λc o e n=>b c o (a c o e n) λz=>(s c z).elim n λq=>by rw[q] at e;cases e
theorem nH(a:Kp RT H H1)(s1:∀b,RT' b->RT b\/H b=none)(s2:∀b,RT'' b->RT' b\/H1 b=none):∀b,RT'' b->RT b\/H b=none:=λb z=>by
 rcases s2 b z with q|q
 . exact s1 b q
 . by_cases hr:RT b
   . exact .inl hr
   . refine .inr ?_
     cases e:H b with
     | none=>rfl
     | some o=>rw[a b o e hr] at q;cases q
theorem eT.mono{σ':Sg}{Q:L2.St->Hp->Prop}(a:Kp RT H H1)(s:∀b,RT' b->RT b\/H b=none)(h:eT K RT Y old H σ' Q):eT K RT' Y old H1 σ' Q:=λRT2 σV2 H2 k n S=>h RT2 σV2 H2 (a.chain s k) (nH a s n) S
theorem OE.mono(a:Kp RT H H1)(s:∀b,RT' b->RT b\/H b=none)(h:OE K RT Y old H o D):OE K RT' Y old H1 o D:=by
 cases o with
 | next σ'=>exact eT.mono a s h
 | brk σ'=>exact eT.mono a s h
 | cnt σ'=>exact eT.mono a s h
 | ret v=>exact λu H2 k t r=>(show qP K RT Y old H v D.rt from h) u H2 (a.chain s k) t r
 | exc x σ'=>exact h
 | bad=>exact h
theorem cK:∀b,RT b->RT b\/H b=none:=λ_ z=>.inl z
def tkE(K:Fg)(D:Ends):Ends:=⟨λσ H=>Tk K H->D.nx σ H,λv H=>Tk K H->D.rt v H,λσ H=>Tk K H->D.bk σ H,λσ H=>Tk K H->D.ct σ H⟩
theorem OE.from{α:Type}{x:R α}{f:α->O}(h:OE K RT Y old H (O.from σ x f) D):RE x λa=>OE K RT Y old H (f a) D:=by
 cases x with
 | ok a=>exact h
 | exc e=>exact h
 | bad=>exact h
end
section
variable {X:Cx} {st:Stmt} {t t':TS}
theorem aHd{pins:List (Addr×Obj)}{D:Ends}{f:Flow}{s':Shared}(h:SP X pins (tkE X.K D) f s'):SP X pins D f s':=by
 cases f with
 | next=>obtain⟨σ',H',I,q⟩:=h;exact⟨σ',H',I,q I.tk⟩
 | brk=>obtain⟨σ',H',I,q⟩:=h;exact⟨σ',H',I,q I.tk⟩
 | cont=>obtain⟨σ',H',I,q⟩:=h;exact⟨σ',H',I,q I.tk⟩
 | ret u=>obtain⟨v,σ',H',I,r,q⟩:=h;exact⟨v,σ',H',I,r,q I.tk⟩
theorem dI(h:PS X st t)(f:∀D σV H,Tk X.K H->t' D σV H->t (tkE X.K D) σV H):PS X st t':=λpins s σV H D I hw=>thn (h pins s σV H _ I (f D σV H I.tk hw)) λfl s' q=>aHd q
theorem uQ{sts:List Stmt}(h:PSs X sts t)(f:∀D σV H,Tk X.K H->t' D σV H->t (tkE X.K D) σV H):PSs X sts t':=λpins s σV H D I hw=>thn (h pins s σV H _ I (f D σV H I.tk hw)) λfl s' q=>aHd q
theorem aAX{Y old:Addr->Prop}{sts:List Stmt}{f:Sg->O}(h:∀RT σ,PSs X sts (wS X RT Y old σ (f σ))):PSs X sts (λD σV H=>∃RT σ,wS X RT Y old σ (f σ) D σV H):=λpins s σV H D I ⟨RT,σ,hw⟩=>h RT σ pins s σV H D I hw
end
section
variable {X:Cx} {P:Pg} {Γ:Ct} {n:Nat} {RT Y old:Addr->Prop} {σ:Sg} {pos:Pos}
theorem eT.tkE{σ':Sg}{Q:L2.St->Hp->Prop}{H:Hp}(h:eT X.K RT Y old H σ' Q):eT X.K RT Y old H σ' λσ H=>Tk X.K H->Q σ H:=λRT' σV' H' k n S _=>h RT' σV' H' k n S
theorem OE.tkE{o:O}{D:Ends}{H:Hp}(h:OE X.K RT Y old H o D):OE X.K RT Y old H o (tkE X.K D):=by
 cases o with
 | next σ'=>exact eT.tkE h
 | brk σ'=>exact eT.tkE h
 | cnt σ'=>exact eT.tkE h
 | ret v=>exact λu H2 k t r _=>(show qP X.K RT Y old H v D.rt from h) u H2 k t r
 | exc x σ'=>exact h
 | bad=>exact h
theorem aLv:PSs X [] (wS X RT Y old σ (exs P (call P n) σ .z)):=uQ aFs λD σV H t ⟨S,h⟩ _=>(show eT X.K RT Y old H σ D.nx from h) RT σV H (Kp.refl RT H) cK S
theorem aIM{s:S}{ss:Ss}{x:Stmt}{xs:List Stmt}(h1:∀RT σ,PS X x (wS X RT Y old σ (ex P (call P n) σ s)))(h2:∀RT σ,PSs X xs (wS X RT Y old σ (exs P (call P n) σ ss))) :
 PSs X (x::xs) (wS X RT Y old σ (exs P (call P n) σ (.k s ss))):=by
 refine uQ (aCW (h1 RT σ) (aAX h2)) λD σV H t ⟨S,h⟩=>?_
 have h:OE X.K RT Y old H ((ex P (call P n) σ s).on λσ'=>exs P (call P n) σ' ss) D:=h
 refine⟨S,?_⟩
 cases q:ex P (call P n) σ s with
 | next σ'=>
  rw[q] at h
  exact λRT' σV' H' k nn S'=>⟨RT',σ',S',(OE.mono k nn (show OE X.K RT Y old H (exs P (call P n) σ' ss) D from h)).tkE⟩
 | brk σ'=>rw[q] at h;exact OE.tkE (D:=D) (o:=.brk σ') h
 | cnt σ'=>rw[q] at h;exact OE.tkE (D:=D) (o:=.cnt σ') h
 | ret v=>rw[q] at h;exact OE.tkE (D:=D) (o:=.ret v) h
 | exc e σ'=>rw[q] at h;exact h
 | bad=>rw[q] at h;exact h
theorem aIN:PS X (.Pass pos) (wS X RT Y old σ (ex P (call P n) σ .pass)):=dI aFt λD σV H t ⟨S,h⟩ _=>(show eT X.K RT Y old H σ D.nx from h) RT σV H (Kp.refl RT H) cK S
theorem aLw:PS X (.Break pos) (wS X RT Y old σ (ex P (call P n) σ .brk)):=dI aCX λD σV H t ⟨S,h⟩ _=>(show eT X.K RT Y old H σ D.bk from h) RT σV H (Kp.refl RT H) cK S
theorem aLx:PS X (.Continue pos) (wS X RT Y old σ (ex P (call P n) σ .cnt)):=dI wF λD σV H t ⟨S,h⟩ _=>(show eT X.K RT Y old H σ D.ct from h) RT σV H (Kp.refl RT H) cK S
theorem aLy{st:Stmt}{c:Nat}{k:Bool}{es:Es}:PS X st (wS X RT Y old σ (ex P (call P n) σ (.rse c k es))):=dI aCZ λD σV H t ⟨S,h⟩=>by
 have h:OE X.K RT Y old H (O.from σ (evs P (call P n) σ es) λvs=>.exc (.err c (if k then vs.map (·.d) else [])) σ) D:=h
 obtain⟨vs,_,q⟩:=(OE.from h).eq
 exact q
theorem aAY{pa:Bool}{al:List Nat}{σV:L2.St}{b:Addr}(h:exB Y old pa b):exV RT Y old σ σV pa al b:=.inr h
theorem Ro.rtv{H H':Hp}{σV:L2.St}{v:Vl}{u:V}(S:Sx X.K RT Y old σ σV H)(ro:Ro X.K RT Y old σ σV H H' v u):Rtv X.K Y old H' v u:=by
 unfold Rtv
 by_cases hf:v.fr=true
 . rw[if_pos hf]
   obtain⟨s,h⟩:=ro
   rw[if_pos hf] at h
   obtain⟨a,xs,ds,e1,e2,e3,e4,r⟩:=h
   exact⟨a,xs,ds,e1,e2,λz=>S.trk a (.inr (.inr z)) e3,e4,r.weak λb z=>z.elim .inl λz=>.inr (aAY z)⟩
 . rw[if_neg hf]
   exact Rep.weak (ro.rv S) λb z=>aAY z
theorem aLz{c:E}{e:Expr}(he:PE X e (WE X P n RT Y old σ c)):PS X (.Return (some e) pos) (wS X RT Y old σ (ex P (call P n) σ (.ret c))):=by
 refine dI (aCY he) λD σV H t ⟨S,h⟩=>?_
 have h:=OE.from (show OE X.K RT Y old H (O.from σ (ev P (call P n) σ c) .ret) D from h)
 exact wE.one S h λx u H1 hx t1 S1 r1 _=>(show qP X.K RT Y old H x D.rt from hx) u H1 (Kp.same r1.1) t1 (r1.rtv S)
theorem aIO:PS X (.Return none pos) (wS X RT Y old σ (ex P (call P n) σ .retN)):=dI aFu λD σV H t ⟨S,h⟩ _=>(show qP X.K RT Y old H (.cl .non) D.rt from h) .non H (Kp.refl RT H) t rfl
theorem aIP{i:Nat}{x:Str}{p:Pos}(M:Mc X P Γ n)(hx:eS Γ i x=true):PS X (.Return (some (.Name x p)) pos) (wS X RT Y old σ (ex P (call P n) σ (.retv i))):=by
 have hpe:PE X (.Name x p) (aHs i):=by
  unfold eS at hx
  obtain⟨h1,h2,h3⟩:=hG hx
  exact yX (by rw[M.N];exact eq_of_beq h1) (M.vis h2) (bC h3) (nA h3)
 refine dI (aCY hpe) λD σV H t ⟨S,h⟩=>?_
 have h:OE X.K RT Y old H (match σ[i]? with|some (.own pa ds)=>.ret ⟨.lst ds,true,pa,[]⟩|_=>O.from σ (bY σ i) .ret) D:=h
 unfold bY at h
 cases e:σ[i]? with
 | none=>rw[e] at h;exact h.elim
 | some sl=>
  rw[e] at h
  cases sl with
  | x=>exact h.elim
  | own pa ds=>
   obtain⟨a,xs,h1,h2,h3,h4,h5⟩:=S.own i pa ds e
   refine⟨.ref a,h1,λ_=>(show qP X.K RT Y old H ⟨.lst ds,true,pa,[]⟩ D.rt from h) _ H (Kp.refl RT H) t ?_⟩
   unfold Rtv
   rw[if_pos rfl]
   exact⟨a,xs,ds,rfl,rfl,h4,h2,h5.weak λb z=>z.elim (λz=>.inl (by rw[z];exact h3)) .inr⟩
  | sh pa d=>
   obtain⟨v,h1,h2⟩:=S.sh i pa d e
   refine⟨v,h1,λ_=>(show qP X.K RT Y old H ⟨d,false,pa&&!noL d,[]⟩ D.rt from h) v H (Kp.refl RT H) t ?_⟩
   unfold Rtv
   rw[if_neg bN]
   show Rep X.K H (exB Y old (pa&&!noL d)) d v
   cases hn:noL d with
   | true=>exact Rep.free d v hn h2
   | false=>
    refine h2.weak λb z=>.inr ?_
    rw[Bool.not_false,Bool.and_true] at z
    exact z
theorem aNt{c:E}{e:Expr}(he:PE X e (WE X P n RT Y old σ c))(hs:pU e=false):PS X (.Expr e pos) (wS X RT Y old σ (ex P (call P n) σ (.ex c))):=by
 refine dI (tZ he (by cases e <;> first|rfl|cases hs)) λD σV H t ⟨S,h⟩=>?_
 have h:=OE.from (show OE X.K RT Y old H (O.from σ (ev P (call P n) σ c) λ_=>.next σ) D from h)
 exact wE.one S h λx u H1 hx t1 S1 r1 _=>(show eT X.K RT Y old H σ D.nx from hx) RT σV H1 (Kp.same r1.1) cK S1
theorem aNu{c:E}{a b:Ss}{e:Expr}{xa xb:List Stmt}(hc:PT X e (WT X P n RT Y old σ c))(ha:∀RT σ,PSs X xa (wS X RT Y old σ (exs P (call P n) σ a)))(hb:∀RT σ,PSs X xb (wS X RT Y old σ (exs P (call P n) σ b))) :
 PS X (.If e xa xb pos) (wS X RT Y old σ (ex P (call P n) σ (.iff c a b))):=by
 refine dI (aJX hc (ha RT σ) (hb RT σ)) λD σV H t ⟨S,h⟩=>?_
 have h:=OE.from (show OE X.K RT Y old H (O.from σ (tst P (call P n) σ c) λk=>if k=true then exs P (call P n) σ a else exs P (call P n) σ b) D from h)
 refine⟨S,h.mono λk hk H1 t1 s1=>?_⟩
 cases k with
 | true=>rw[if_pos rfl] at hk ⊢;exact⟨S.grow s1 t1,(OE.mono (Kp.same s1) cK hk).tkE⟩
 | false=>rw[if_neg bN] at hk ⊢;exact⟨S.grow s1 t1,(OE.mono (Kp.same s1) cK hk).tkE⟩
theorem uR{σV:L2.St}{H H1:Hp}{v:Vl}{u:V}{t:T}{D:Ends}(S:Sx X.K RT Y old σ σV H)(t1:Tk X.K H1)(r1:Ro X.K RT Y old σ σV H H1 v u)(h:OE X.K RT Y old H (O.from σ (cI (freeze σ v.al) v t) .next) D):gT X.K t u σV H1 D.nx:=by
 obtain⟨σ2,e,hp⟩:=(OE.from h).eq
 have hp:eT X.K RT Y old H σ2 D.nx:=hp
 clear h
 cases t with
 | n i=>
  obtain⟨RT',S',hsub⟩:=S.store r1 t1 i
  rw[qK e] at hp
  exact hp RT' _ H1 (Kp.same r1.1) hsub S'
 | t is=>
  obtain⟨ds,hd,hl,e'⟩:=qJ e
  have Sf:=(S.grow r1.1 t1).frz v.al
  have hr:Rep X.K H1 (λa=>rtF RT σ σV v.al a\/exB Y old v.pa a) v.d u:=r1.rv S
  have hf:v.fr=false\/v.fr=true:=by cases v.fr <;> simp
  rcases hf with hf|hf
  . exact aDW Sf hf hr e λσ2V S2 _=>hp _ _ _ (Kp.same r1.1) (λb z=>.inl z.1) S2
  . have:=r1.2
    rw[if_pos hf] at this
    obtain⟨a,xs,ds',_,e2,_⟩:=this
    rw[hd] at e2;cases e2
theorem aIQ{c:E}{e:Expr}{i:Nat}{x:Str}{p:Pos}(M:Mc X P Γ n)(hx:cO Γ i x=true)(he:PE X e (WE X P n RT Y old σ c))(hs:pU e=false):PS X (.Assign [.Name x p] e pos) (wS X RT Y old σ (ex P (call P n) σ (.set (.n i) c))):=by
 unfold cO at hx
 obtain⟨h1,h2,h3⟩:=hG hx
 refine dI (yZ (i:=i) M.nd (by rw[M.N];exact eq_of_beq h1) (M.loc h2) he (by cases e <;> first|rfl|cases hs) (M.st x h2)) λD σV H t ⟨S,h⟩=>?_
 have h:=OE.from (show OE X.K RT Y old H (O.from σ (ev P (call P n) σ c) λv=>O.from σ (cI (freeze σ v.al) v (.n i)) .next) D from h)
 exact wE.one S h λv u H1 hv t1 S1 r1=>uR (t:=.n i) S t1 r1 (OE.tkE hv)
theorem aIR{c:E}{e:Expr}{is:List Nat}{es:List Expr}{k:Nat}{p:Pos}(M:Mc X P Γ n)(hx:oF Γ (.t is) (.Tuple es k p)=true)(he:PE X e (WE X P n RT Y old σ c))(hs:pV e=false):PS X (.Assign [.Tuple es k p] e pos) (wS X RT Y old σ (ex P (call P n) σ (.set (.t is) c))):=by
 refine dI (yY he (aGh M hx) (by cases e <;> rfl) (by cases e <;> first|rfl|cases hs)) λD σV H t ⟨S,h⟩=>?_
 have h:=OE.from (show OE X.K RT Y old H (O.from σ (ev P (call P n) σ c) λv=>O.from σ (cI (freeze σ v.al) v (.t is)) .next) D from h)
 exact wE.one S h λv u H1 hv t1 S1 r1=>uR (t:=.t is) S t1 r1 (OE.tkE hv)
theorem aCn{i:Nat}{x:Str}{p cpos:Pos}(M:Mc X P Γ n)(hx:cO Γ i x=true){k:Nat}{caps:List Nat}{t:T}{it:Hp.It}{cond:Es}{elt:E}{e tg iter:Expr}{ifs:List Expr}{scope:Scope}{N':List Str}(CS:dY X scope k caps N')(hnd:caps.Nodup)(hk:∀i∈tIx t,i<k)
 (hi:PI X tg iter (wI X P n RT Y old σ it))
 (hch:∀C s₀ H₀ ex,PG (eQ X scope N' C s₀ H₀ ex) tg (gT X.K t)/\(∀RT Y old σ1,PTs (eQ X scope N' C s₀ H₀ ex) ifs (wTs X P n RT Y old σ1 cond))/\∀RT Y old σ1,PE (eQ X scope N' C s₀ H₀ ex) e (WE X P n RT Y old σ1 elt))
 (hs:∀x,foldedSetIterable iter X.env x=pure x):PS X (.Assign [.Name x p] (.ListComp e [⟨tg,iter,ifs,0⟩] scope cpos) pos) (wS X RT Y old σ (ex P (call P n) σ (.set (.n i) (.comp k caps t it cond elt)))):=by
 unfold cO at hx
 obtain⟨h1,h2,h3⟩:=hG hx
 refine dI (zT (g:=gT X.K t) (tt:=λσV H Q=>∃RT Y old σ1,wTs X P n RT Y old σ1 cond σV H Q) (te:=λσV H Q=>∃RT Y old σ1,WE X P n RT Y old σ1 elt σV H Q) CS M.calm hi (λC s₀ H₀ ex=>?_) hs M.nd (by rw[M.N];exact eq_of_beq h1) (M.loc h2) (M.st x h2)) λD σV H t0 ⟨S,h⟩=>?_
 . obtain⟨h1,h2,h3⟩:=hch C s₀ H₀ ex
   exact⟨h1,λpins s σV H Q I ⟨RT,Y,old,σ1,hw⟩=>h2 RT Y old σ1 pins s σV H Q I hw,λpins s σV H Q I ⟨RT,Y,old,σ1,hw⟩=>h3 RT Y old σ1 pins s σV H Q I hw⟩
 . have h:=OE.from (show OE X.K RT Y old H (O.from σ (ev P (call P n) σ (.comp k caps t it cond elt)) λv=>O.from σ (cI (freeze σ v.al) v (.n i)) .next) D from h)
   exact aDY (Q:=λv H'=>sC i v σV H' D.nx) hnd hk ⟨S,h.mono λv hv u H1 t1 r1=>uR (t:=.n i) S t1 r1 hv⟩
theorem Sx.mut{K:Fg}{σV:L2.St}{H:Hp}(S:Sx K RT Y old σ σV H){i:Nat}{pa pa':Bool}{ds ds':List D}{a:Addr}{xs':List V}(e:σ[i]? = some (.own pa ds))(ha:σV[i]? = some (some (.ref a)))(r:Reps K H (λb=>RT b\/exB Y old pa' b) ds' xs') :
 Sx K RT Y old (σ.set i (.own pa' ds')) σV (upd H a (.lst xs')):=by
 obtain⟨a',xs,h1,h2,h3,h4,h5⟩:=S.own i pa ds e
 rw[ha] at h1
 cases h1
 have ks:∀{ex:Addr->Prop},∀b o,H b=some o->(∀ys,o=.lst ys->¬ (RT b\/ex b))->upd H a (.lst xs') b=some o:=λ{ex} b o q hl=>by
  rw[aZ λz=>by subst z;rw[h2] at q;cases q;exact hl xs rfl (.inl h3)]
  exact q
 exact {
  sh:=λj pb d q=>by
   rcases set_some q with⟨_,z,_⟩|⟨_,q⟩
   . cases z
   . obtain⟨v,g1,g2⟩:=S.sh j pb d q
     exact⟨v,g1,g2.keep ks⟩
  own:=λj pb dd q=>by
   rcases set_some q with⟨rfl,z,_⟩|⟨hne,q⟩
   . cases z
     exact⟨a,xs',ha,cV,h3,h4,r.keep ks⟩
   . obtain⟨b,ys,g1,g2,g3,g4,g5⟩:=S.own j pb dd q
     have hb:b≠a:=λz=>by
      subst z
      exact hne (S.inj i j pa pb ds dd b e q ha g1)
     exact⟨b,ys,g1,by rw[aZ hb];exact g2,g3,g4,g5.keep ks⟩
  trk:=λb z q=>by
   by_cases hb:b=a
   . rw[hb,cV] at q;cases q
   . rw[aZ hb] at q;exact S.trk b z q
  yo:=S.yo
  tk:=λb z=>by
   by_cases hb:b=a
   . rw[hb];exact S.tk a (by rw[h2];simp)
   . rw[aZ hb] at z;exact S.tk b z
  rt:=λb z=>by
   by_cases hb:b=a
   . rw[hb];exact⟨xs',cV⟩
   . rw[aZ hb];exact S.rt b z
  inj:=λj j' pb pb' dd dd' b q1 q2=>by
   have get:∀{j:Nat} {pb:Bool} {dd:List D},(σ.set i (.own pa' ds'))[j]? = some (.own pb dd)->∃p2 d2,σ[j]? = some (.own p2 d2):=λ{j pb dd} q=>by
    rcases set_some q with⟨rfl,_,_⟩|⟨_,q⟩
    . exact⟨pa,ds,e⟩
    . exact⟨pb,dd,q⟩
   obtain⟨_,_,z1⟩:=get q1
   obtain⟨_,_,z2⟩:=get q2
   exact S.inj j j' _ _ _ _ b z1 z2
  len:=by rw[Ax];exact S.len }
theorem Kp.upd{H H1:Hp}{a:Addr}{xs:List V}(s:aX H H1)(h:RT a):Kp RT H (upd H1 a (.lst xs)):=λb o e nn=>by
 rw[aZ λz=>nn (by rw[z];exact h)]
 exact s b o e
theorem aEh{i:Nat}{pa:Bool}{ds:List D}(h:lR σ i=some (pa,ds)):σ[i]? = some (.own pa ds):=by
 unfold lR at h
 split at h
 . rename_i q;cases h;exact q
 . cases h
theorem aAf{i:Nat}{v:Vl}{f:List D->Option (List D)}{H:Hp}{D:Ends}(h:OE X.K RT Y old H (put σ i v f) D):∃pa ds ds',σ[i]? = some (.own pa ds)/\i∉v.al/\f ds=some ds'/\ds'.length<=lim/\eT X.K RT Y old H ((freeze σ v.al).set i (.own (pa||v.pa) ds')) D.nx:=by
 unfold put at h
 split at h
 . rename_i pa ds q
   have q:=gD (aEh q)
   split at h
   . rename_i ds' q2
     split at h
     . rename_i hl
       exact⟨pa,ds,ds',q.1,q.2,q2,hl,h⟩
     . exact h.elim
   . exact h.elim
 . exact h.elim
theorem uS{pa pb:Bool}{b:Addr}(h:exB Y old (pa||pb) b):exB Y old pa b:=h.imp_right λz=>⟨by cases pa <;> simp_all,z.2⟩
theorem aAZ{pa pb:Bool}{b:Addr}(h:exB Y old (pa||pb) b):exB Y old pb b:=h.imp_right λz=>⟨by cases pb <;> simp_all,z.2⟩
theorem aBa{i:Nat}{m:Str}{c:Expr}{xs:List Expr}(h:rW Γ i m c=some xs):∃x p ap cp,c=.Call (.Attribute (.Name x p) m ap) xs [] cp/\eS Γ i x=true/\(ap.endLine==cp.line)=true:=by
 unfold rW at h
 split at h
 . rename_i x p a ap xs' cp
   split at h
   . rename_i q
     obtain⟨q1,q2,q3⟩:=hG q
     cases h
     have e:a=m:=eq_of_beq q1
     subst e
     exact⟨x,p,ap,cp,rfl,q2,q3⟩
   . cases h
 . cases h
theorem oQ{i:Nat}{x:Str}{p:Pos}(M:Mc X P Γ n)(hx:eS Γ i x=true):PE X (.Name x p) (aHs i):=by
 unfold eS at hx
 obtain⟨h1,h2,h3⟩:=hG hx
 exact yX (by rw[M.N];exact eq_of_beq h1) (M.vis h2) (bC h3) (nA h3)
theorem aEi:lim<sizeLine:=by rw[C2];decide
theorem qQ{i:Nat}{al:List Nat}{pa:Bool}{ds:List D}{σV:L2.St}{H H1:Hp}{b:Addr}{xs:List V}(S:Sx X.K RT Y old σ σV H)(s1:aX H H1)(q1:σ[i]? = some (.own pa ds))(h1:σV[i]? = some (some (.ref b)))(h2:H b=some (.lst xs)) :
 Reps X.K H1 (λc=>rtF RT σ σV al c\/exB Y old pa c) ds xs:=by
 obtain⟨b',xs',g1,g2,g3,g4,g5⟩:=S.own i pa ds q1
 rw[h1] at g1
 cases g1
 rw[h2] at g2
 cases g2
 exact(g5.grow s1).weak λc z=>z.elim (λz=>.inl z.1) .inr
theorem qR{i:Nat}{v:Vl}{pa:Bool}{ds ds':List D}{σV:L2.St}{H H1:Hp}{b:Addr}{xs':List V}{Q:L2.St->Hp->Prop}(S:Sx X.K RT Y old σ σV H)(s1:aX H H1)(t1:Tk X.K H1)(q1:σ[i]? = some (.own pa ds))(q2:i∉v.al)(h1:σV[i]? = some (some (.ref b)))
 (r:Reps X.K H1 (λc=>rtF RT σ σV v.al c\/exB Y old (pa||v.pa) c) ds' xs') (hpost:eT X.K RT Y old H ((freeze σ v.al).set i (.own (pa||v.pa) ds')) Q):Q σV (upd H1 b (.lst xs')):=by
 obtain⟨b',xs,g1,g2,g3,g4,g5⟩:=S.own i pa ds q1
 rw[h1] at g1
 cases g1
 have e':(freeze σ v.al)[i]? = some (.own pa ds):=by
  rw[iM,q1]
  simp[q2]
 exact hpost _ σV _ (Kp.upd s1 g3) (λc z=>.inl z.1) (((S.grow s1 t1).frz v.al).mut e' h1 r)
theorem aEj{σV:L2.St}{H1:Hp}{v:Vl}{u:V}{pa:Bool}(h:Rv X.K RT Y old σ σV H1 v u):Rep X.K H1 (λc=>rtF RT σ σV v.al c\/exB Y old (pa||v.pa) c) v.d u:=Rep.weak h λc z=>z.imp id aAZ
theorem aLA{i:Nat}{c:E}{e a:Expr}(M:Mc X P Γ n)(hc:rW Γ i "append" e=some [a])(ha:PE X a (WE X P n RT Y old σ c))(hp:bK a=true):PS X (.Expr e pos) (wS X RT Y old σ (ex P (call P n) σ (.app i c))):=by
 obtain⟨x,p,ap,cp,rfl,hx,hl⟩:=aBa hc
 refine dI (tZ (aGQ PySem.F.plainAttrs_list PySem.F.slot_list_append PySem.F.type_list_append aBP (oQ M hx) (jU ha mX (aE hp)) rfl (by rw[aE hp];rfl) hl (aE hp) rfl)) λD σV H t ⟨S,h⟩=>?_
 have h:=OE.from (show OE X.K RT Y old H (O.from σ (ev P (call P n) σ c) λv=>put σ i v λds=>some (ds++[v.d])) D from h)
 obtain⟨v,ee,h⟩:=h.eq
 obtain⟨pa,ds,ds',q1,q2,q3,q4,hpost⟩:=aAf h
 cases q3
 obtain⟨b,xs,h1,h2,h3,h4,h5⟩:=S.own i pa ds q1
 refine⟨.ref b,h1,.inl ⟨rfl,xs,SqL.of h2⟩,S,?_⟩
 rw[ee]
 intro u H1 t1 r1
 have hlen:=h5.length
 refine⟨b,xs,u,rfl,rfl,r1.1 _ _ h2,?_,λ_=>?_⟩
 . rw[lA,C6] at q4
   have:=aEi
   omega
 . exact qR S r1.1 t1 q1 q2 h1 (((qQ S r1.1 q1 h1 h2).weak λc z=>z.imp id uS).append (.cons (aEj (r1.rv S)) .nil)) hpost
theorem aLB{i:Nat}{c:E}{e a:Expr}(M:Mc X P Γ n)(hc:rW Γ i "extend" e=some [a])(ha:PE X a (WE X P n RT Y old σ c))(hp:bK a=true):PS X (.Expr e pos) (wS X RT Y old σ (ex P (call P n) σ (.ext i c))):=by
 obtain⟨x,p,ap,cp,rfl,hx,hl⟩:=aBa hc
 refine dI (tZ (aGQ PySem.F.plainAttrs_list PySem.F.slot_list_extend PySem.F.type_list_extend aBQ (oQ M hx) (jU ha mX (aE hp)) rfl (by rw[aE hp];rfl) hl (aE hp) rfl)) λD σV H t ⟨S,h⟩=>?_
 have h:=OE.from (show OE X.K RT Y old H (O.from σ (ev P (call P n) σ c) λv=>(match pR v with|some (v',ds')=>put σ i v' λds=>some (ds++ds')|none=>.bad)) D from h)
 obtain⟨v,ee,h⟩:=h.eq
 unfold pR at h
 cases hf:v.fr with
 | false=>rw[hf] at h;exact h.elim
 | true=>
  rw[hf] at h
  cases hd:v.d with
  | lst es=>
   rw[hd] at h
   obtain⟨pa,ds,ds',q1,q2,q3,q4,hpost⟩:=aAf h
   cases q3
   obtain⟨b,xs,h1,h2,h3,h4,h5⟩:=S.own i pa ds q1
   refine⟨.ref b,h1,.inl ⟨rfl,xs,SqL.of h2⟩,S,?_⟩
   rw[ee]
   intro u H1 t1 r1
   have hr:=r1.2
   rw[if_pos hf] at hr
   obtain⟨a',ys,es',e1,e2,e3,e4,r⟩:=hr
   rw[hd] at e2
   cases e2
   subst e1
   have hlen:=h5.length
   have hlen2:=r.length
   refine⟨b,a',xs,ys,rfl,rfl,r1.1 _ _ h2,e4,?_,λ_=>?_⟩
   . rw[lA] at q4
     have:=aEi
     omega
   . refine qR S r1.1 t1 q1 q2 h1 (((qQ S r1.1 q1 h1 h2).weak λc z=>z.imp id uS).append ?_) hpost
     have rr:=gJ (r.weak λb z=>.inr z)
     exact rr.weak λc z=>z.imp id aAZ
  | _=>rw[hd] at h;exact h.elim
theorem aGl{i:Nat}{ck c:E}{x:Str}{p p2:Pos}{ix v:Expr}(M:Mc X P Γ n)(hx:eS Γ i x=true)(hk:PE X ix (WE X P n RT Y old σ ck))(he:PE X v (WE X P n RT Y old σ c))(hpl:bK ix=true):PS X (.Assign [.Subscript (.Name x p) ix p2] v pos) (wS X RT Y old σ (ex P (call P n) σ (.setIx i ck c))):=by
 refine dI (yY he (aHE (oQ M hx) hk aDl (by intro _;cases ix <;> first|rfl|cases hpl)) (by cases v <;> rfl) (by cases v <;> rfl)) λD σV H t ⟨S,h⟩=>?_
 have h:=OE.from (show OE X.K RT Y old H (O.from σ (ev P (call P n) σ c) λv=>O.from σ (ev P (call P n) σ ck) λkv=>(match kv.d with
  | .int k=>put σ i v λds=>(match ixN ds.length k with|some j=>some (ds.set j v.d)|none=>none)
  | _=>.bad)) D from h)
 refine wE.one S h λv u H1 hv t1 S1 r1=>?_
 obtain⟨kv,ek,hv⟩:=(OE.from hv).eq
 cases hd:kv.d with
 | int k=>
  rw[hd] at hv
  obtain⟨pa,ds,ds',q1,q2,q3,q4,hpost⟩:=aAf hv
  obtain⟨b,xs,h1,h2,h3,h4,h5⟩:=S.own i pa ds q1
  cases hj:ixN ds.length k with
  | none=>rw[hj] at q3;cases q3
  | some j=>
   rw[hj] at q3
   cases q3
   refine⟨.ref b,h1,S1,?_⟩
   rw[ek]
   intro uk H2 t2 r2
   have hlen:=h5.length
   refine⟨b,xs,k,j,rfl,(r2.rv S1).int hd,r2.1 _ _ (r1.1 _ _ h2),by rw[<-hlen,<-uJ];exact hj,λ_=>?_⟩
   have s2:=r1.1.trans r2.1
   refine qR S s2 t2 q1 q2 h1 (((qQ S s2 q1 h1 h2).weak λc z=>z.imp id uS).set j (aEj ((r1.rv S).grow r2.1))) hpost
 | _=>rw[hd] at hv;exact hv.elim
theorem Sx.move{K:Fg}{σV:L2.St}{H:Hp}(S:Sx K RT Y old σ σV H){i j:Nat}{pa:Bool}{ds:List D}{a:Addr}(e:σ[j]? = some (.own pa ds))(hij:i≠j)(ha:σV[j]? = some (some (.ref a))):Sx K RT Y old ((σ.set j .x).set i (.own pa ds)) (σV.set i (some (.ref a))) H where
 sh:=λk pb d q=>by
  rcases set_some q with⟨_,z,_⟩|⟨n1,q⟩
  . cases z
  rcases set_some q with⟨_,z,_⟩|⟨n2,q⟩
  . cases z
  obtain⟨v,g1,g2⟩:=S.sh k pb d q
  exact⟨v,by rw[Ap n1];exact g1,g2⟩
 own:=λk pb dd q=>by
  rcases set_some q with⟨rfl,z,hl⟩|⟨n1,q⟩
  . cases z
    obtain⟨b,xs,g1,g2,g3⟩:=S.own j pa ds e
    rw[ha] at g1
    cases g1
    rw[Ax] at hl
    exact⟨a,xs,Bf (by rw[<-S.len];exact hl),g2,g3⟩
  rcases set_some q with⟨_,z,_⟩|⟨n2,q⟩
  . cases z
  obtain⟨b,xs,g1,g2⟩:=S.own k pb dd q
  exact⟨b,xs,by rw[Ap n1];exact g1,g2⟩
 trk:=S.trk
 yo:=S.yo
 tk:=S.tk
 rt:=S.rt
 inj:=λk k' pb pb' dd dd' b q1 q2 v1 v2=>by
  have get:∀{k:Nat} {pb:Bool} {dd:List D},((σ.set j .x).set i (.own pa ds))[k]? = some (.own pb dd)->(σV.set i (some (.ref a)))[k]? = some (some (.ref b))->(k=i/\b=a)\/(k≠i/\k≠j/\σ[k]? = some (.own pb dd)/\σV[k]? = some (some (.ref b))):=λ{k pb dd} q v=>by
   rcases set_some q with⟨rfl,z,hl⟩|⟨n1,q⟩
   . rw[Ax] at hl
     rw[Bf (by rw[<-S.len];exact hl)] at v
     cases v
     exact .inl ⟨rfl,rfl⟩
   rcases set_some q with⟨_,z,_⟩|⟨n2,q⟩
   . cases z
   rw[Ap n1] at v
   exact .inr ⟨Ne.symm n1,Ne.symm n2,q,v⟩
  rcases get q1 v1 with⟨e1,b1⟩|⟨n1,m1,o1,w1⟩
  . rcases get q2 v2 with⟨e2,_⟩|⟨n2,m2,o2,w2⟩
    . rw[e1,e2]
    . subst b1
      exact absurd (S.inj k' j _ _ _ _ b o2 e w2 ha) m2
  . rcases get q2 v2 with⟨e2,b2⟩|⟨n2,m2,o2,w2⟩
    . subst b2
      exact absurd (S.inj k j _ _ _ _ b o1 e w1 ha) m1
    . exact S.inj k k' _ _ _ _ b o1 o2 w1 w2
 len:=by rw[Ax,Ax,Ax];exact S.len
theorem aLC{i j:Nat}{x y:Str}{p p2:Pos}(M:Mc X P Γ n)(hx:cO Γ i x=true)(hy:eS Γ j y=true):PS X (.Assign [.Name x p] (.Name y p2) pos) (wS X RT Y old σ (ex P (call P n) σ (.mov i j))):=by
 unfold cO at hx
 obtain⟨h1,h2,h3⟩:=hG hx
 refine dI (yZ (i:=i) M.nd (by rw[M.N];exact eq_of_beq h1) (M.loc h2) (oQ M hy) rfl (M.st x h2)) λD σV H t ⟨S,h⟩=>?_
 have h:OE X.K RT Y old H (match σ[j]? with
  | some (.own pa ds)=>if i=j then .bad else .next ((σ.set j .x).set i (.own pa ds))
  | some (.sh pa d)=>.next (σ.set i (.sh (pa&&!noL d) d))
  | _=>.bad) D:=h
 cases e:σ[j]? with
 | none=>rw[e] at h;exact h.elim
 | some sl=>
  rw[e] at h
  cases sl with
  | x=>exact h.elim
  | own pa ds=>
   by_cases hij:i=j
   . have h:OE X.K RT Y old H (if i=j then .bad else .next ((σ.set j .x).set i (.own pa ds))) D:=h
     rw[if_pos hij] at h;exact h.elim
   . have h:OE X.K RT Y old H (if i=j then .bad else .next ((σ.set j .x).set i (.own pa ds))) D:=h
     rw[if_neg hij] at h
     obtain⟨a,xs,g1,g2⟩:=S.own j pa ds e
     exact⟨.ref a,g1,λ_=>(show eT X.K RT Y old H _ D.nx from h) RT _ H (Kp.refl RT H) cK (S.move e hij g1)⟩
  | sh pa d=>
   obtain⟨v,g1,g2⟩:=S.sh j pa d e
   refine⟨v,g1,λ_=>(show eT X.K RT Y old H (σ.set i (.sh (pa&&!noL d) d)) D.nx from h) RT _ H (Kp.refl RT H) cK (S.setSh ?_)⟩
   cases hn:noL d with
   | true=>exact Rep.free d v hn g2
   | false=>rw[Bool.not_false,Bool.and_true];exact g2
theorem aLD{t:T}{it:Hp.It}{b:Ss}{tg iter:Expr}{body:List Stmt}(M:Mc X P Γ n)(hx:oF Γ t tg=true)(hi:PI X tg iter (wI X P n RT Y old σ it))(hb:∀RT σ,PSs X body (wS X RT Y old σ (exs P (call P n) σ b)))(hs:∀x,foldedSetIterable iter X.env x=pure x) :
 PS X (.For tg iter body [] pos) (wS X RT Y old σ (ex P (call P n) σ (.for t it b))):=by
 have hp:PassesOwn (model X.prog X.w) X.A X.env X.xe:=by rw[M.xe];exact PassesOwn.never
 refine dI (aHG hp M.calm hi (aGh M hx) (aAX hb) hs) λD0 σV H t0 ⟨S,h⟩=>?_
 have h:=OE.tkE h
 revert h
 generalize tkE X.K D0=D
 intro h
 let f:Sg->Vl->O:=λσ x=>O.from σ (cI σ x t) λσ'=>exs P (call P n) σ' b
 have h:=OE.from (show OE X.K RT Y old H (O.from σ (walk P (call P n) σ it) λxs=>eF f xs.1 (freeze σ xs.2)) D from h)
 refine⟨S,h.mono λxs hx J H1 t1 s1 ok=>?_⟩
 have S1:=S.grow s1 t1
 have Sf:=S1.frz xs.2
 refine⟨λi m σ1V Hc=>m=xs.1.length-i/\i<=xs.1.length/\∃RT1 σ1,Kp (rtF RT σ σV xs.2) H1 Hc/\(∀b,RT1 b->rtF RT σ σV xs.2 b\/H1 b=none)/\Sx X.K RT1 Y old σ1 σ1V Hc/\OE X.K RT1 Y old Hc (eF f (xs.1.drop i) σ1) D,
  ⟨_,rfl,B5 _,rtF RT σ σV xs.2,freeze σ xs.2,Kp.refl _ _,cK,Sf,OE.mono (Kp.same s1) (λb z=>.inl z.1) hx⟩,?_⟩
 rintro i m σ1V Hc ⟨hm,hi,RT1,σ1,kp,hsub,Sc,ho⟩
 have okc:=ok.ok (rtF RT σ σV xs.2) (λ_ z=>z) i Hc kp
 by_cases hlt:i<xs.1.length
 . refine .inr ⟨okc.1 hlt,λσ' H'=>xs.1.length-(i+1)=xs.1.length-(i+1)/\i+1<=xs.1.length/\∃RT1 σ1,Kp (rtF RT σ σV xs.2) H1 H'/\(∀b,RT1 b->rtF RT σ σV xs.2 b\/H1 b=none)/\Sx X.K RT1 Y old σ1 σ' H'/\OE X.K RT1 Y old H' (eF f (xs.1.drop (i+1)) σ1) D,
    λσ' H' hN=>⟨_,by omega,hN⟩,λx H' hy=>?_⟩
   have hxi:xs.1[i]? = some xs.1[i]:=Ad hlt
   obtain⟨sm,tkf,rv⟩:=okc.2.2 x H' hy xs.1[i] hxi
   have hmem:xs.1[i]∈xs.1:=Ba hlt
   rw[Br hlt] at ho
   have Sc':=Sc.grow sm (tkf Sc.tk)
   have rep:Rep X.K H' (λa=>RT1 a\/exB Y old xs.1[i].pa a) xs.1[i].d x:=rv.weak λa z=>by
    rcases z with z|z
    . rcases hsub a z with q|q
      . exact .inl (.inl ⟨q.1,λw=>q.2 (w.mono (ok.sub _ hmem))⟩)
      . exact .inr ⟨q,Sc.tk a (Sc.trk a (.inl z))⟩
    . exact .inl (.inr z)
   have ho:OE X.K RT1 Y old Hc (match f σ1 xs.1[i] with
    | .next σ'=>eF f (xs.1.drop (i+1)) σ'
    | .cnt σ'=>eF f (xs.1.drop (i+1)) σ'
    | .brk σ'=>.next σ'
    | o=>o) D:=ho
   cases hset:cI σ1 xs.1[i] t with
   | exc e=>rw[show f σ1 xs.1[i]=.exc e σ1 by show O.from σ1 (cI σ1 xs.1[i] t) _=_;rw[hset];rfl] at ho;exact ho.elim
   | bad=>rw[show f σ1 xs.1[i]=.bad by show O.from σ1 (cI σ1 xs.1[i] t) _=_;rw[hset];rfl] at ho;exact ho.elim
   | ok σ2=>
    rw[show f σ1 xs.1[i]=exs P (call P n) σ2 b by show O.from σ1 (cI σ1 xs.1[i] t) _=_;rw[hset];rfl] at ho
    refine aDW Sc' (ok.nofr _ hmem) rep hset λσ2V S2 _=>⟨RT1,σ2,S2,?_⟩
    have kS:Kp RT1 Hc H':=Kp.same sm
    have again:∀{σ':Sg} {RT':Addr->Prop} {σV':L2.St} {H'':Hp},Kp RT1 H' H''->(∀b,RT' b->RT1 b\/H' b=none)->Sx X.K RT' Y old σ' σV' H''->OE X.K RT1 Y old Hc (eF f (xs.1.drop (i+1)) σ') D ->
     (xs.1.length-(i+1)=xs.1.length-(i+1)/\i+1<=xs.1.length/\∃RT1 σ1,Kp (rtF RT σ σV xs.2) H1 H''/\(∀b,RT1 b->rtF RT σ σV xs.2 b\/H1 b=none)/\Sx X.K RT1 Y old σ1 σV' H''/\OE X.K RT1 Y old H'' (eF f (xs.1.drop (i+1)) σ1) D):=λ{σ' RT' σV' H''} k2 s2 S3 h3=>by
     have k3:Kp RT1 Hc H'':=kS.chain cK k2
     have s3:∀b,RT' b->RT1 b\/Hc b=none:=nH kS cK s2
     exact⟨rfl,hlt,RT',σ',kp.chain hsub k3,nH kp hsub s3,S3,OE.mono k3 s3 h3⟩
    cases q:exs P (call P n) σ2 b with
    | next σ'=>rw[q] at ho;exact λRT' σV' H'' k2 s2 S3=>again k2 s2 S3 ho
    | cnt σ'=>rw[q] at ho;exact λRT' σV' H'' k2 s2 S3=>again k2 s2 S3 ho
    | brk σ'=>rw[q] at ho;exact eT.mono kS cK (show eT X.K RT1 Y old Hc σ' D.nx from ho)
    | ret v=>rw[q] at ho;exact OE.mono (o:=.ret v) kS cK ho
    | exc e σ'=>rw[q] at ho;exact ho.elim
    | bad=>rw[q] at ho;exact ho.elim
 . have hie:i=xs.1.length:=by omega
   subst hie
   rw[List.drop_length] at ho
   exact .inl ⟨okc.2.1 (Aj _),(show eT X.K RT1 Y old Hc σ1 D.nx from ho) RT1 σ1V Hc (Kp.refl _ _) cK Sc⟩
end
section
variable {X:Cx} {P:Pg} {Γ:Ct} {n:Nat} {RT Y old:Addr->Prop} {σ:Sg} {pos:Pos}
theorem Rvs.snoc{K:Fg}{σV:L2.St}{H:Hp}{v:Vl}{u:V}(h2:Rv K RT Y old σ σV H v u):∀{vs:List Vl} {us:List V},Rvs K RT Y old σ σV H vs us->Rvs K RT Y old σ σV H (vs++[v]) (us++[u])
 | [],_,h=>by
  rw[show _=[] from h]
  exact⟨u,[],rfl,h2,rfl⟩
 | w::vs,_,h=>by
  obtain⟨x,r,e,h1,h3⟩:=h
  subst e
  exact⟨x,r++[u],rfl,h1,Rvs.snoc h2 h3⟩
end
end Hp
end
noncomputable section
namespace Hp
open PySem PySem.Spec PyProof.Rows L2
section
variable {prog:Program} {w:World} {A:Around} {E:Value->Shared->Prop} {s:Shared}
theorem tB{it l:Addr}{items:Array Value}(hne:l≠it):∀(n i:Nat) (s:Shared) (Q:List Value->Shared->Prop),s.heap.IsListIter it l i->s.heap.IsList l items->i+n<=items.size ->
 (∀h',Heap.IsListIter h' it l (i+n)->Heap.SameBut it s.heap h'->Q ((items.toList.drop i).take n) { s with heap:=h' })->wpAny (model prog w) A (draw (.ref it) n) Q E s
 | 0,i,s,Q,hit,_,_,hQ=>by
  show wpAny _ _ (pure []) Q E s
  exact Ac (by simpa using hQ s.heap hit (Heap.SameBut.refl ..))
 | n+1,i,s,Q,hit,hl,hle,hQ=>by
  have hlt:i<items.size:=by omega
  show wpAny _ _ (pyNext (.ref it) >>= _) Q E s
  refine Aa (wpAny_pyNext_list_item hit hl (x:=items[i]) (by simp[hlt]) λh1 hit1 hs1=>?_)
  refine Aa (Bp (tB hne n (i+1) _ _ hit1 (hl.extBut hs1.extBut hne) (by omega) λh2 hit2 hs2=>Ac ?_))
  have hd:items.toList.drop i=items[i]::items.toList.drop (i+1):=by simp[Br,hlt]
  have:=hQ h2 (by rw[show i+(n+1)=i+1+n by omega];exact hit2) (hs1.trans hs2)
  rw[hd,List.take_succ_cons] at this
  exact this
theorem nI{l:Addr}{items:Array Value}{Q:List Value->Shared->Prop}(hh:A.handled=none)(hl:s.heap.IsList l items)
 (hQ:∀h',Heap.ExtBut s.heap.objs.size s.heap h'->Q items.toList { s with heap:=h' }):wpAny (model prog w) A (unpackItems (.ref l) items.size none) Q E s:=by
 have hlt:l≠s.heap.objs.size:=by obtain⟨o,ho,_⟩:=hl;exact Ao (Ah ho)
 unfold unpackItems
 refine Aa ?_
 unfold notIterableAtAll
 refine Aa (wpAny_specialOf hl.typeIs slot_list_iter.lookup ?_)
 refine Ac ?_
 simp only[bF,if_false]
 refine Aa (Bp (C0 hl ?_))
 refine Aa (Bp (tB hlt items.size 0 _ _ ⟨_,Ai _ rfl,rfl,rfl⟩ (hl.push _) (by omega) λh1 hit1 hs1=>?_))
 rw[show List.take items.size (List.drop 0 items.toList)=items.toList by rw[List.drop_zero];exact Bv (by simp)]
 rw[if_neg (by simp)]
 refine Aa (Bp (wpAny_pyNext_list_end hh hit1 ((hl.push _).extBut hs1.extBut hlt) (by simp) λh2 he2=>?_))
 simp only[Option.isSome_none,bF,if_false]
 exact Ac (hQ h2 λb o hb e=>he2 b o hb (hs1.extBut b o hb (Ab _ e)))
end
def aNv(K:PySem.W.Frag)(n:Nat)(t:TGs):TG:=λv σ H Q=>∃a xs,v=.ref a/\SqL K H a xs/\xs.length=n/\t xs σ H Q
section
variable {X:Cx} {pos:Pos}
theorem aIS{es:List Expr}{k:Nat}{t:TGs}{n:Nat}(hc:X.calm=true)(h:PGs X es t)
 (hn:(assignEach es X.env).length=n) (hst:(assignEach es X.env).findIdx? (·.1)=none):PG X (.Tuple es k pos) (aNv X.K n t):=by
 intro pins s σ H v u Q I r hw
 obtain⟨a,xs,e1,hq,hl,hw⟩:=hw
 subst e1
 cases r
 obtain⟨its,rv,pl,hz⟩:=I.list hq
 have hx:∀h',Heap.ExtBut s.heap.objs.size s.heap h'->wpAny (model X.prog X.w) X.A (assignInOrder ((assignEach es X.env).map (·.2)) its) (λ_ s'=>∃σ' H',Inv X pins σ' H' s'/\Q σ' H') X.xe { s with heap:=h' }:=λh' hx=>by
  have I1:Inv X pins σ H { s with heap:=h' }:=I.kept (t':=s.toks) λb o e=>hx b o (Ao (Ah e)) e
  exact h pins _ σ H xs _ Q I1 rv hw
 rw[assign_Tuple]
 refine Aa (wpAny_standAt ?_)
 unfold unpack
 rw[hn,hst,show n=its.toArray.size by rw[<-hl,rv.length];simp]
 exact Aa (Bp (nI (I.ok.hd hc) pl.isList λh' hx'=>by simpa using hx h' hx'))
end
end Hp
namespace Hp
open PySem PySem.Spec PyProof.Rows L2
section
variable {X:Cx} {P:Pg} {Γ:Ct} {n:Nat} {RT Y old:Addr->Prop} {σ:Sg} {tg:Expr} {pos:Pos}
theorem aIT{c:E}{e:Expr}{is:List Nat}{es:List Expr}{k:Nat}{p:Pos}(M:Mc X P Γ n)(hx:oF Γ (.t is) (.Tuple es k p)=true)(he:PE X e (WE X P n RT Y old σ c))(hs:pV e=false):PS X (.Assign [.Tuple es k p] e pos) (wS X RT Y old σ (ex P (call P n) σ (.setU is c))):=by
 have hx:(is.length==es.length&&(is.zip es).all λp=>match p.2 with|.Name x _=>cO Γ p.1 x|_=>false)=true:=hx
 rw[bA,beq_iff_eq] at hx
 obtain⟨h1,h2,h3⟩:=qL M hx.1 hx.2
 refine dI (yY he (aIS M.calm h1 h2 h3) (by cases e <;> rfl) (by cases e <;> first|rfl|cases hs)) λD σV H t ⟨S,h⟩=>?_
 have h:=OE.from (show OE X.K RT Y old H (O.from σ (ev P (call P n) σ c) λv=>match v.d with
  | .lst ds=>if ds.length=is.length/\noLs ds=true then .next ((is.zip ds).foldl (λσ p=>σ.set p.1 (v.sub p.2).slot) σ) else .bad
  | _=>.bad) D from h)
 refine wE.one S h λv u H1 hv t1 S1 r1=>?_
 split at hv
 . rename_i ds hd
   split at hv
   . rename_i hc
     obtain⟨a,xs,e1,q,_,r⟩:=(r1.rv S).lst hd
     have hl:=r.length
     have hp:eT X.K RT Y old H _ (tkE X.K D).nx:=OE.tkE (o:=.next _) hv
     exact⟨a,xs,e1,q,by rw[<-hl];exact hc.1,aDS (by rw[<-hl];exact hc.1.symm) (hp RT _ H1 (Kp.same r1.1) (λb z=>.inl z) (S1.setAll (v:=v) (Reps.free ds xs hc.2 r)))⟩
   . exact hv.elim
 . exact hv.elim
end
end Hp
end
noncomputable section
set_option maxHeartbeats 4000000
namespace Hp
open PySem PySem.Spec PyProof.Rows L2
section
variable {P:Pg} {n:Nat} {Y old:Addr->Prop}
theorem xN{Γ:Ct}{is:List Nat}{tg:Expr}(h:oF Γ (.t is) tg=true):∃es k p,tg=.Tuple es k p:=by
 cases tg with
 | Tuple es k p=>exact⟨es,k,p,rfl⟩
 | _=>cases h
theorem aCo{Γ:Ct}{i:Nat}{tg:Expr}(h:oF Γ (.n i) tg=true):∃x p,tg=.Name x p/\cO Γ i x=true:=by
 cases tg with
 | Name x p=>exact⟨x,p,rfl,h⟩
 | _=>cases h
theorem aCp{Γ:Ct}{c:E}{e:Expr}(h:bB Γ c e=true)(hc:pU e=true):∃k caps t it cond elt,c=.comp k caps t it cond elt:=by
 cases c with
 | comp k caps t it cond elt=>exact⟨k,caps,t,it,cond,elt,rfl⟩
 | c d=>
  rcases(Cr _ _).mp (show(oS (asC e) (eqC d)||oS (asN e) λx=>dR Γ x&&dA x&&oB (Γ.cns.lookup x) (eqK d))=true from h) with h|h
  . obtain⟨_,⟨_,_,rfl⟩,_⟩:=aI h;cases hc
  . obtain⟨_,⟨_,rfl⟩,_⟩:=aI h;cases hc
 | v i=>obtain⟨_,⟨_,rfl⟩,_⟩:=aI h;cases hc
 | op o a b=>obtain⟨_,⟨_,rfl⟩,_⟩:=aI h;cases hc
 | neg a=>obtain⟨_,⟨_,rfl⟩,_⟩:=aI h;cases hc
 | nt a=>obtain⟨_,⟨_,rfl⟩,_⟩:=aI h;cases hc
 | an a b=>obtain⟨_,rfl,_⟩:=aI h;cases hc
 | orr a b=>obtain⟨_,rfl,_⟩:=aI h;cases hc
 | ife t a b=>obtain⟨_,⟨_,rfl⟩,_⟩:=aI h;cases hc
 | cmp o a b=>obtain⟨_,⟨_,rfl⟩,_⟩:=aI h;cases hc
 | cmp2 o1 o2 a b c=>obtain⟨_,⟨_,rfl⟩,_⟩:=aI h;cases hc
 | idx a b=>obtain⟨_,⟨_,rfl⟩,_⟩:=aI h;cases hc
 | sli a lo hi=>obtain⟨_,⟨_,rfl⟩,_⟩:=aI h;cases hc
 | tup es=>obtain⟨_,⟨_,_,rfl⟩,_⟩:=aI h;cases hc
 | lst es=>obtain⟨_,⟨_,rfl⟩,_⟩:=aI h;cases hc
 | call f es=>obtain⟨_,⟨_,_,rfl⟩,_⟩:=aI h;cases hc
 | bi b es=>obtain⟨_,⟨_,_,rfl⟩,_⟩:=aI h;cases hc
 | mth _ _ _=>cases h
 | isi a cs=>obtain⟨_,⟨_,_,rfl⟩,_⟩:=aI h;cases hc
 | numset a=>obtain⟨_,⟨_,_,rfl⟩,_⟩:=aI h;cases hc
 | tget i a=>obtain⟨_,⟨_,_,rfl,_⟩,_⟩:=aI h;cases hc
 | lzip _ _=>cases h
 | dic ks vs=>cases h
 | sset a=>obtain⟨_,⟨_,_,rfl⟩,_⟩:=aI h;cases hc
 | attr _ _=>cases h
theorem m1{Γ:Ct}{i:Nat}{m:Str}{c:Expr}{f:Expr->Bool}(h:(match rW Γ i m c with|some [a]=>f a|_=>false)=true):∃a,rW Γ i m c=some [a]/\f a=true:=by
 split at h
 . rename_i a q;exact⟨a,q,h⟩
 . cases h
theorem m0{Γ:Ct}{i:Nat}{m:Str}{c:Expr}(h:(match rW Γ i m c with|some []=>true|_=>false)=true):rW Γ i m c=some []:=by
 split at h
 . rename_i q;exact q
 . cases h
abbrev QS(P:Pg)(n:Nat)(Y old:Addr->Prop)(c:S):Prop:=∀{X:Cx} {Γ:Ct},Mc X P Γ n->∀{st:Stmt},iJ Γ c st=true->∀(RT:Addr->Prop) (σ:Sg),PS X st (wS X RT Y old σ (ex P (call P n) σ c))
abbrev QSs(P:Pg)(n:Nat)(Y old:Addr->Prop)(c:Ss):Prop:=∀{X:Cx} {Γ:Ct},Mc X P Γ n->∀{st:List Stmt},chkSs Γ c st=true->∀(RT:Addr->Prop) (σ:Sg),PSs X st (wS X RT Y old σ (exs P (call P n) σ c))
theorem aLE{t:T}{e:E}:QS P n Y old (.set t e):=λ{X Γ} M {st} h RT σ=>by
 unfold iJ at h
 obtain⟨⟨tg,v⟩,⟨p,rfl⟩,g⟩:=aI h
 clear h
 obtain⟨h1,h2,h3⟩:=hG g
 clear g
 cases t with
 | n i=>
  obtain⟨x,p,e1,hx⟩:=aCo h1
  have e1:tg=.Name x p:=e1
  subst e1
  cases hc:pU v with
  | false=>exact aIQ M hx (sE e M h2 RT Y old σ) hc
  | true=>
   obtain⟨k,caps,t,it,cond,elt,rfl⟩:=aCp h2 hc
   obtain⟨el,tg,iter,ifs,scope,cpos,e2,O,g1,g2,g3,g4,g5⟩:=aAV h2
   have e2:v=.ListComp el [⟨tg,iter,ifs,0⟩] scope cpos:=e2
   subst e2
   refine aCn M hx (O.scope M) O.ndc O.tk (sI it M g3 RT Y old σ) (λC s₀ H₀ ex=>?_) (nB (lE g3))
   have M':=O.mc M C s₀ H₀ ex
   exact⟨aGh M' g2,λRT Y old σ1=>sTs cond M' g1 g4 RT Y old σ1,λRT Y old σ1=>sE elt M' g5 RT Y old σ1⟩
 | t is=>
  obtain⟨es,k,p,e1⟩:=xN h1
  have e1:tg=.Tuple es k p:=e1
  subst e1
  refine aIR M h1 (sE e M h2 RT Y old σ) ?_
  have:(false||!pV v)=true:=h3
  simpa using this
theorem aLF{i j:Nat}:QS P n Y old (.mov i j):=λ{X Γ} M {st} h RT σ=>by
 unfold iJ at h
 obtain⟨⟨tg,v⟩,⟨p,rfl⟩,g⟩:=aI h
 clear h
 obtain⟨x,⟨p1,e1⟩,g⟩:=aI g
 obtain⟨y,⟨p2,e2⟩,g⟩:=aI g
 have e1:tg=.Name x p1:=e1
 have e2:v=.Name y p2:=e2
 subst e1 e2
 obtain⟨h1,h2⟩:=fR g
 exact aLC M h1 h2
theorem aGm{i:Nat}{k e:E}:QS P n Y old (.setIx i k e):=λ{X Γ} M {st} h RT σ=>by
 unfold iJ at h
 obtain⟨⟨tg,v⟩,⟨p,rfl⟩,g⟩:=aI h
 clear h
 obtain⟨⟨o,ix⟩,⟨p1,e1⟩,g⟩:=aI g
 obtain⟨x,⟨p2,e2⟩,g⟩:=aI g
 have e1:tg=.Subscript o ix p1:=e1
 have e2:o=.Name x p2:=e2
 subst e1 e2
 obtain⟨h1,h2,h3⟩:=hG g
 exact aGl M h1 (sE k M h2 RT Y old σ) (sE e M h3 RT Y old σ) (aT h2)
theorem aLG{i:Nat}{e:E}:QS P n Y old (.app i e):=λ{X Γ} M {st} h RT σ=>by
 unfold iJ at h
 obtain⟨c,⟨p,rfl⟩,g⟩:=aI h
 obtain⟨a,h1,h2⟩:=m1 (f:=λa=>bB Γ e a) g
 exact aLA M h1 (sE e M h2 RT Y old σ) (aT h2)
theorem aLH{i:Nat}{e:E}:QS P n Y old (.ext i e):=λ{X Γ} M {st} h RT σ=>by
 unfold iJ at h
 obtain⟨c,⟨p,rfl⟩,g⟩:=aI h
 obtain⟨a,h1,h2⟩:=m1 (f:=λa=>bB Γ e a) g
 exact aLB M h1 (sE e M h2 RT Y old σ) (aT h2)
theorem aLI{e:E}:QS P n Y old (.ret e):=λ{X Γ} M {st} h RT σ=>by
 unfold iJ at h
 obtain⟨r,⟨p,rfl⟩,g⟩:=aI h
 clear h
 obtain⟨v,e1,g⟩:=aDC g
 subst e1
 exact aLz (sE e M g RT Y old σ)
theorem aIU{i:Nat}:QS P n Y old (.retv i):=λ{X Γ} M {st} h RT σ=>by
 unfold iJ at h
 obtain⟨r,⟨p,rfl⟩,g⟩:=aI h
 clear h
 obtain⟨v,e1,g⟩:=aDC g
 subst e1
 obtain⟨x,⟨p1,e2⟩,g⟩:=aI g
 have e2:v=.Name x p1:=e2
 subst e2
 exact aIP M g
theorem aIV:QS P n Y old .retN:=λ{X Γ} M {st} h RT σ=>by
 unfold iJ at h
 obtain⟨r,⟨p,rfl⟩,g⟩:=aI h
 cases r with
 | none=>exact aIO
 | some _=>cases g
theorem aLJ{c:E}{a b:Ss}(ha:QSs P n Y old a)(hb:QSs P n Y old b):QS P n Y old (.iff c a b):=λ{X Γ} M {st} h RT σ=>by
 unfold iJ at h
 obtain⟨⟨t,x,y⟩,⟨p,rfl⟩,g⟩:=aI h
 obtain⟨h1,h2,h3⟩:=hG g
 exact aNu (sT c M h1 RT Y old σ) (ha M h2) (hb M h3)
theorem aLK{t:T}{it:Hp.It}{b:Ss}(hb:QSs P n Y old b):QS P n Y old (.for t it b):=λ{X Γ} M {st} h RT σ=>by
 unfold iJ at h
 obtain⟨⟨tg,iter,body⟩,⟨p,rfl⟩,g⟩:=aI h
 obtain⟨h1,h2,h3⟩:=hG g
 exact aLD M h1 (sI it M h2 RT Y old σ) (hb M h3) (nB (lE h2))
theorem aLL:QS P n Y old .brk:=λ{X Γ} M {st} h RT σ=>by
 unfold iJ at h
 obtain⟨_,⟨p,rfl⟩,_⟩:=aI h
 exact aLw
theorem aLM:QS P n Y old .cnt:=λ{X Γ} M {st} h RT σ=>by
 unfold iJ at h
 obtain⟨_,⟨p,rfl⟩,_⟩:=aI h
 exact aLx
theorem aIW:QS P n Y old .pass:=λ{X Γ} M {st} h RT σ=>by
 unfold iJ at h
 obtain⟨_,⟨p,rfl⟩,_⟩:=aI h
 exact aIN
theorem aNw{e:E}:QS P n Y old (.ex e):=λ{X Γ} M {st} h RT σ=>by
 unfold iJ at h
 obtain⟨v,⟨p,rfl⟩,g⟩:=aI h
 obtain⟨h1,h2⟩:=fR g
 exact aNt (sE e M h1 RT Y old σ) (by simpa using h2)
theorem aLN{c:Nat}{k:Bool}{es:Es}:QS P n Y old (.rse c k es):=by
 intro X Γ M st h RT σ
 exact aLy
theorem qS{c:S}(z:∀Γ st,iJ Γ c st=false):QS P n Y old c:=by
 intro X Γ M st h RT σ
 rw[z] at h
 cases h
theorem aIX{X:Cx}{Γ:Ct}{RT:Addr->Prop}{σ:Sg}{pos:Pos}{b:Ss}{body:List Stmt}{h0:ExceptHandler}{hs:List ExceptHandler}(M:Mc X P Γ n)(hb:PSs X body (wS X RT Y old σ (exs P (call P n) σ b))) :
 PS X (.Try body (h0::hs) [] [] pos) (wS X RT Y old σ (ex P (call P n) σ (.tryN b))):=by
 intro pins s σV H D I h
 refine wpAny_Try_except (Dh (hb pins s σV H D I h) (λf s1 q=>?_) λe s1 q=>?_)
 . cases f with
   | next=>exact wpAny_execs_nil q
   | _=>exact q
 . rw[M.xe] at q
   exact q.elim
theorem aIY{is:List Nat}{e:E}:QS P n Y old (.setU is e):=λ{X Γ} M {st} h RT σ=>by
 unfold iJ at h
 obtain⟨⟨tg,v⟩,⟨p,rfl⟩,g⟩:=aI h
 clear h
 obtain⟨h1,h2,h3⟩:=hG g
 obtain⟨es,k,p,e1⟩:=xN h1
 have e1:tg=.Tuple es k p:=e1
 subst e1
 exact aIT M h1 (sE e M h2 RT Y old σ) (by simpa using h3)
theorem aIZ{b:Ss}(hb:QSs P n Y old b):QS P n Y old (.tryN b):=λ{X Γ} M {st} h RT σ=>by
 unfold iJ at h
 obtain⟨r,⟨hd,hs,p,rfl⟩,g⟩:=aI h
 exact aIX M (hb M g RT σ)
theorem aLO:QSs P n Y old .z:=λ{X Γ} M {st} h RT σ=>by
 cases st with
 | nil=>exact aLv
 | cons _ _=>exact nf h
theorem aJa{c:S}{cs:Ss}(hc:QS P n Y old c)(hs:QSs P n Y old cs):QSs P n Y old (.k c cs):=λ{X Γ} M {st} h RT σ=>by
 cases st with
 | nil=>exact nf h
 | cons x xs=>
  obtain⟨h1,h2⟩:=fR h
  exact aIM (hc M h1) (hs M h2)
mutual
theorem sS:(c:S)->QS P n Y old c
 | .set _ _=>aLE
 | .mov _ _=>aLF
 | .setIx _ _ _=>aGm
 | .app _ _=>aLG
 | .ext _ _=>aLH
 | .pop _ _ _=>qS λ_ _=>rfl
 | .clr _=>qS λ_ _=>rfl
 | .ins _ _ _=>qS λ_ _=>rfl
 | .rev _=>qS λ_ _=>rfl
 | .appCall _ _ _=>qS λ_ _=>rfl
 | .ret _=>aLI
 | .retv _=>aIU
 | .retN=>aIV
 | .iff _ a b=>aLJ (sSs a) (sSs b)
 | .for _ _ b=>aLK (sSs b)
 | .whl _ _=>qS λ_ _=>rfl
 | .brk=>aLL
 | .cnt=>aLM
 | .pass=>aIW
 | .ex _=>aNw
 | .rse _ _ _=>aLN
 | .try _ _=>qS λ_ _=>rfl
 | .tryN b=>aIZ (sSs b)
 | .setU _ _=>aIY
theorem sSs:(c:Ss)->QSs P n Y old c
 | .z=>aLO
 | .k c cs=>aJa (sS c) (sSs cs)
end
end
structure Tx where
 x:Str
 qual:Str
 st:Stmt
 N:List Str
def tD(Γ:Ct)(F:Fn)(t:Tx):Bool:=
 t.N.length==F.ns&&decide (F.np<=F.ns)&&decide t.N.Nodup&&(cD t.st).kind==.function&&!(cD t.st).isCoroutine&&!(cD t.st).isGenerator &&
 ((t.N.take F.np).all λx=>(cD t.st).names.lookup x==some .local||(cD t.st).names.lookup x==some .cell)&&((cD t.st).names.all λp=>p.2 != .free) &&
 chkSs { Γ with N:=t.N,sc:=(cD t.st).names,fn:=true } F.body (jW t.st)
def jI(Γ:Ct):List Fn->List Tx->Bool
 | [],[]=>true
 | F::Fs,t::ts=>tD Γ F t&&jI Γ Fs ts
 | _,_=>false
theorem iO{Γ:Ct}:∀{Fs:List Fn} {ts:List Tx},jI Γ Fs ts=true->∀{f:Nat} {t:Tx},ts[f]? = some t->∃F,Fs[f]? = some F/\tD Γ F t=true
 | [],[],_,_,_,e=>by simp at e
 | [],_::_,h,_,_,_=>by cases h
 | _::_,[],h,_,_,_=>by cases h
 | F::Fs,t::ts,h,0,t',e=>by
  obtain⟨h1,h2⟩:=fR (show(tD Γ F t&&jI Γ Fs ts)=true from h)
  have e':t=t':=by simpa using e
  subst e'
  exact⟨F,rfl,h1⟩
 | F::Fs,t::ts,h,f+1,t',e=>by
  obtain⟨h1,h2⟩:=fR (show(tD Γ F t&&jI Γ Fs ts)=true from h)
  obtain⟨F',q1,q2⟩:=iO h2 (f:=f) (t:=t') (by simpa using e)
  exact⟨F',by simpa using q1,q2⟩
section
variable {prog:Program} {w:World} {K:Fg} {mg:Str->Option Value} {base:Heap} {P:Pg} {Γ:Ct} {txs:List Tx}
structure Top (prog:Program) (w:World) (K:Fg) (mg:Str->Option Value) (P:Pg) (Γ:Ct) (txs:List Tx):Prop where
 fn:∀(f:Nat) (t:Tx),txs[f]? = some t->∃fa fd,mg t.x=some (.ref fa)/\Fun K t.x t.qual t.st fa fd/\∀F,P.fns[f]? = some F->kM K fd (t.N.take F.np) []
 fns:∀(f:Nat) (x:Str),Γ.fns[f]? = some x->∃t,txs[f]? = some t/\t.x=x
 blt:∀x∈bltNames,mg x=none
 cns:∀(x:Str) (d:D),Γ.cns.lookup x=some d->∃u v,mg x=some u/\bR v u/\∀H ex,Rep K H ex d v
 tab:∀(i:Nat) (x:Str),Γ.tbs[i]? = some x->∃a t,mg x=some (.ref a)/\P.tabs[i]? = some t/\sL prog w K a t
 chk:jI Γ P.fns txs=true
theorem aBb{k f:Nat}{F:Fn}(hF:P.fns[f]? = some F){vs:List V}{H:Hp}{Q:VK}{E:XK}(h:spF K P (k+1) f vs H Q E):vs.length=F.np:=by
 obtain⟨ds,Y,_,r,hr⟩:=h
 obtain⟨x,e,_⟩:=hr.eq
 have e:uH P (call P k) f ds=.ok x:=e
 unfold uH at e
 rw[hF] at e
 have e:(if ds.length=F.np then _ else R.bad)=R.ok x:=e
 split at e
 . rename_i hl;rw[<-r.length];exact hl
 . cases e
theorem aEk{ds:List D}{vs:List V}{H:Hp}{Y:Addr->Prop}{m:Nat}(hY:∀a,Y a->H a≠none)(t:Tk K H)(r:Reps K H Y ds vs):Sx K (λ_=>False) Y (λb=>H b≠none) ((ds.map λd=>Sl.sh true d)++List.replicate m Sl.x) (vs.map some++List.replicate m none) H:=by
 have len:=r.length
 have get:∀{i:Nat} {s:Sl},((ds.map λd=>Sl.sh true d)++List.replicate m Sl.x)[i]? = some s->s=.x\/∃d,s=.sh true d/\ds[i]? = some d:=λ{i s} e=>by
  by_cases hi:i<ds.length
  . rw[Bc (by simpa using hi),Az,Ad hi] at e
    cases e
    exact .inr ⟨ds[i],rfl,Ad hi⟩
  . rw[Au (by simpa using hi),Ci] at e
    split at e
    . cases e;exact .inl rfl
    . cases e
 exact {
  sh:=λi pa d e=>by
   rcases get e with z|⟨d',z,q⟩
   . cases z
   . cases z
     obtain⟨v,hv,rv⟩:=r.get q
     have hi:i<vs.length:=(Aw.mp hv).1
     refine⟨v,?_,rv.weak λa z=>?_⟩
     . rw[Bc (by simpa using hi),Az,hv];rfl
     . rcases z with z|z|⟨z,_⟩
       . exact z.elim
       . exact z
       . cases z
  own:=λi pa ds' e=>by
   rcases get e with z|⟨d',z,q⟩
   . cases z
   . cases z
  trk:=λa z=>by
   rcases z with z|z|z
   . exact z.elim
   . exact hY a z
   . exact z
  yo:=hY
  tk:=t
  rt:=λ_ z=>z.elim
  inj:=λi j pa pa' ds1 ds2 a e=>by
   rcases get e with z|⟨d',z,q⟩
   . cases z
   . cases z
  len:=by rw[lA,lA,lM,lM,A0,A0,len] }
theorem aBc{k f:Nat}{t:Tx}{F:Fn}{fa:Addr}{fd:FuncData}(hmd:∀(f:Nat) (x:Str),Γ.fns[f]? = some x->∃fa fd ps,mg x=some (.ref fa)/\PySem.W.keepIn K (.ref fa)=true/\kM K fd ps []/\oD prog w K mg base CX0 k fa fd ps (spF K P k f))
 (hblt:∀x∈bltNames,mg x=none) (hcns:∀(x:Str) (d:D),Γ.cns.lookup x=some d->∃u v,mg x=some u/\bR v u/\∀H ex,Rep K H ex d v) (htab:∀(i:Nat) (x:Str),Γ.tbs[i]? = some x->∃a t,mg x=some (.ref a)/\P.tabs[i]? = some t/\sL prog w K a t) (h2:Fun K t.x t.qual t.st fa fd) (hF:P.fns[f]? = some F) (hc:tD Γ F t=true) :
 oD prog w K mg base CX0 (k+1) fa fd (t.N.take F.np) (spF K P (k+1) f):=by
 unfold tD at hc
 simp only[bA,beq_iff_eq,A1,D8,Bu,Cr,bne_iff_ne,ne_eq] at hc
 obtain⟨⟨⟨⟨⟨⟨⟨⟨c1,c2⟩,c3⟩,c4⟩,c5⟩,c6⟩,c7⟩,c8⟩,c9⟩:=hc
 have lt:(t.N.take F.np).length=F.np:=by rw[A2];omega
 have sc:oP t.N (t.N.take F.np) (cD t.st):=⟨c4,c5,c6,c3,by rw[lt],c7,c8⟩
 refine h2.ok sc (λvs H Q E h=>by rw[lt];exact aBb hF h) λcdv A outer s H vs Q E hr h=>?_
 have hlen:=aBb hF h
 obtain⟨ds,Y,hY,r,hq⟩:=h
 have M:Mc (zG CX0 prog w K mg base t.N t.qual (cD t.st) fa cdv A outer s H E).nox P { Γ with N:=t.N,sc:=(cD t.st).names,fn:=true } k:={
  md:=⟨hmd,hblt,hcns,htab⟩
  N:=rfl
  nd:=c3
  sc:=rfl
  calm:=rfl
  room:=hr
  xe:=rfl
  st:=λ_ _=>.inl rfl
  fk:=c4 }
 obtain⟨res,er,hq⟩:=hq.eq
 have er:uH P (call P k) f ds=.ok res:=er
 unfold uH at er
 rw[hF] at er
 have er:(if ds.length=F.np then (match exs P (call P k) ((ds.map λd=>Sl.sh true d)++List.replicate (F.ns-F.np) Sl.x) F.body with
  | .ret v=>R.ok (v.d,v.fr,v.pa)
  | .next _=>R.ok (.non,false,false)
  | .exc x _=>R.exc x
  | _=>R.bad) else R.bad)=R.ok res:=er
 have hdl:ds.length=F.np:=by rw[r.length];exact hlen
 rw[if_pos hdl] at er
 refine⟨_,uQ (t':=λD σV H'=>Tk K H'->wS _ (λ_=>False) Y (λb=>H b≠none) ((ds.map λd=>Sl.sh true d)++List.replicate (F.ns-F.np) Sl.x) (exs P (call P k) ((ds.map λd=>Sl.sh true d)++List.replicate (F.ns-F.np) Sl.x) F.body) D σV H') (sSs (Y:=Y) (old:=λb=>H b≠none) F.body M c9 (λ_=>False) ((ds.map λd=>Sl.sh true d)++List.replicate (F.ns-F.np) Sl.x)) (λD σV H' tk hw=>⟨(hw tk).1,OE.tkE (hw tk).2⟩),λtk=>⟨?_,?_⟩⟩
 . have e:L2.start t.N vs=vs.map some++List.replicate (F.ns-F.np) none:=by unfold L2.start;rw[hlen,c1]
   rw[e]
   exact aEk hY tk r
 . have same:∀{H':Hp},Kp (λ_=>False) H H'->aX H H':=λk b o e=>k b o e id
   show OE K (λ_=>False) Y (λb=>H b≠none) H (exs P (call P k) ((ds.map λd=>Sl.sh true d)++List.replicate (F.ns-F.np) Sl.x) F.body) _
   cases q:exs P (call P k) ((ds.map λd=>Sl.sh true d)++List.replicate (F.ns-F.np) Sl.x) F.body with
   | next σ'=>
    rw[q] at er
    cases(show R.ok (D.non,false,false)=R.ok res from er)
    exact λRT' σV' H' kp sub S'=>hq .non H' S'.tk (same kp) (show(if false=true then _ else _) from aKv rfl)
   | ret v=>
    rw[q] at er
    cases(show R.ok (v.d,v.fr,v.pa)=R.ok res from er)
    refine λu H' kp tk' rt=>hq u H' tk' (same kp) ?_
    unfold Rr
    unfold Rtv at rt
    cases hfr:v.fr with
    | true=>
     rw[hfr,if_pos rfl] at rt
     obtain⟨a,xs,ds',e1,e2,e3,e4,rr⟩:=rt
     exact aNa ⟨a,xs,ds',e1,e2,Classical.not_not.mp e3,e4,rr⟩
    | false=>
     rw[hfr,if_neg bN] at rt
     exact aKv rt
   | brk σ'=>rw[q] at er;cases er
   | cnt σ'=>rw[q] at er;cases er
   | exc e σ'=>rw[q] at er;cases er
   | bad=>rw[q] at er;cases er
theorem aEl(T:Top prog w K mg P Γ txs):∀(k f:Nat) (x:Str),Γ.fns[f]? = some x->∃fa fd ps,mg x=some (.ref fa)/\PySem.W.keepIn K (.ref fa)=true/\kM K fd ps []/\oD prog w K mg base CX0 k fa fd ps (spF K P k f)
 | 0,f,x,hf=>by
  obtain⟨t,ht,rfl⟩:=T.fns f x hf
  obtain⟨fa,fd,h1,h2,h3⟩:=T.fn f t ht
  obtain⟨F,hF,_⟩:=iO T.chk ht
  have no:∀vs H Q E,¬ spF K P 0 f vs H Q E:=λvs H Q E h=>by
   obtain⟨ds,Y,_,r,hr⟩:=h
   exact hr
  exact⟨fa,fd,_,h1,h2.kp,h3 F hF,λvs H Q E h=>absurd h (no vs H Q E),λA outer s H args us vs Q E _ _ _ _ h=>absurd h (no vs H Q E)⟩
 | k+1,f,x,hf=>by
  obtain⟨t,ht,rfl⟩:=T.fns f x hf
  obtain⟨fa,fd,h1,h2,h3⟩:=T.fn f t ht
  obtain⟨F,hF,hc⟩:=iO T.chk ht
  exact⟨fa,fd,_,h1,h2.kp,h3 F hF,aBc (λf x hf=>aEl T k f x hf) T.blt T.cns T.tab h2 hF hc⟩
theorem aJb(T:Top prog w K mg P Γ txs){f:Nat}{t:Tx}{F:Fn}{fa:Addr}{fd:FuncData}(ht:txs[f]? = some t)(hF:P.fns[f]? = some F)(h2:Fun K t.x t.qual t.st fa fd)(k:Nat):oD prog w K mg base CX0 (k+1) fa fd (t.N.take F.np) (spF K P (k+1) f):=by
 obtain⟨F',hF',hc⟩:=iO T.chk ht
 rw[hF] at hF'
 cases hF'
 exact aBc (aEl T k) T.blt T.cns T.tab h2 hF hc
theorem aJc{k f:Nat}{K:Fg}{H:Hp}{a:Addr}{ns:List Int}(hO:aFN H)(hS:SqL K H a (ns.map V.int))(h:∃fr pa,call P k f [.lst (ns.map D.int)]=.ok (.bl true,fr,pa)) :
 spF K P k f [.ref a] H (λv _=>v=.bl true) λ_ _ _=>False:=by
 obtain⟨fr,pa,e⟩:=h
 have ri:∀(ns:List Int),Reps K H (λ_=>False) (ns.map D.int) (ns.map V.int):=by
  intro ns
  induction ns with
  | nil=>exact .nil
  | cons i ns ih=>exact .cons rfl ih
 refine⟨[.lst (ns.map D.int)],λ_=>False,λ_ z=>z.elim,.cons ⟨a,_,rfl,hS,id,ri ns⟩ .nil,?_⟩
 rw[e]
 intro u H' _ _ rr
 unfold Rr at rr
 cases fr with
 | true=>
  rw[if_pos rfl] at rr
  obtain⟨_,_,_,_,e2,_⟩:=rr
  cases e2
 | false=>
  rw[if_neg bN] at rr
  exact rr
end
end Hp
end
noncomputable section
namespace Hp
open PySem PySem.Spec PyProof.Rows L2
def ER(w:World)(K:Fg)(e:DictEntry)(p:Str×D):Prop:=e.hash=hashStr w p.1/\(∃tk,e.key=.str p.1 tk)/\∃v,bR v e.val/\∀(H:Hp) (ex:Addr->Prop),Rep K H ex p.2 v
theorem tE{K:Fg}{H:Hp}{ex:Addr->Prop}:∀xs:List Str,Reps K H ex (xs.map D.str) (xs.map V.str)
 | []=>rfl
 | x::xs=>⟨.str x,xs.map V.str,rfl,rfl,tE xs⟩
theorem aEm{K:Fg}{b:Addr}{od:Option Addr}{its:Array Value}{n:Nat}{sl:Array (Option Value)}(h:K.lookup b=some ⟨.type "tuple",od,.seq its n,sl⟩)(xs:List Str)(hz:its.size<=1000)(hv:aU (xs.map V.str) its.toList) :
 ∀(H:Hp) (ex:Addr->Prop),Rep K H ex (.tup (xs.map D.str)) (.ref b):=λH ex=>
 ⟨b,xs.map V.str,rfl,.inr ⟨_,its,n,h,rfl,rfl,A4 hz (by rw[C2];decide),hv⟩,tE xs⟩
theorem aEn{prog:Program}{w:World}{K:Fg}:∀{es:List DictEntry} {t:List (Str×D)},Paired (ER w K) es t->∃vs:List (Key×Value),(∀e∈es,∃k:Key,(bS prog w).is k e.key=true/\e.hash=(bS prog w).hash k) /\
 Pairs (bS prog w) es vs/\vs.map (·.1)=t.map (λp=>(Sum.inr p.1:Key)) /\
 ∀k:Str,(t.lookup k=none/\valueAt vs (Sum.inr k:Key)=none)\/∃d u v,t.lookup k=some d/\valueAt vs (Sum.inr k:Key)=some u/\bR v u/\∀(H:Hp) (ex:Addr->Prop),Rep K H ex d v
 | _,_,.nil=>⟨[],λe he=>absurd he (by simp),.nil,rfl,λk=>.inl ⟨rfl,rfl⟩⟩
 | e::es,p::t,.cons ⟨h1,⟨tk,h2⟩,v,h3,h4⟩ r=>by
  obtain⟨vs,g1,g2,g3,g4⟩:=aEn (prog:=prog) r
  have hk:pI (Sum.inr p.1:Key) e.key=true:=by rw[h2];exact mW p.1 tk
  refine⟨(Sum.inr p.1,e.val)::vs,λe' he=>?_,.cons hk rfl g2,by rw[mC,mC,g3],λk=>?_⟩
  . rcases An.mp he with rfl|he
    . exact⟨Sum.inr p.1,hk,h1⟩
    . exact g1 e' he
  . by_cases hkp:k=p.1
    . subst hkp
      refine .inr ⟨p.2,e.val,v,?_,?_,h3,h4⟩
      . obtain⟨a,b⟩:=p
        simp[List.lookup]
      . simp[valueAt]
    . have n1:(p::t).lookup k=t.lookup k:=by
       obtain⟨a,b⟩:=p
       have:(k==a)=false:=Bb.mpr hkp
       simp[List.lookup,this]
      have n2:valueAt ((Sum.inr p.1,e.val)::vs) (Sum.inr k:Key)=valueAt vs (Sum.inr k:Key):=by
       unfold valueAt
       have:decide ((Sum.inr p.1:Key)=Sum.inr k)=false:=As λz=>hkp (Sum.inr.inj z).symm
       rw[List.find?_cons]
       simp only[this]
      rw[n1,n2]
      exact g4 k
theorem aJd{prog:Program}{w:World}{K:Fg}{a:Addr}{es:Array DictEntry}{ep:Nat}{t:List (Str×D)}(hs:(a==sysModules)=false)(h:K.lookup a=some ⟨.type "dict",none,.dict es ep,#[]⟩)(hp:Paired (ER w K) es.toList t)(hn:(t.map (·.1)).Nodup):sL prog w K a t:=by
 obtain⟨vs,g1,g2,g3,g4⟩:=aEn (prog:=prog) hp
 refine⟨hs,vs,λhh X=>⟨_,es,ep,X a _ h,⟨rfl,rfl,rfl⟩,rfl,λe he=>g1 e (by simpa using he),g2,?_⟩,g4⟩
 rw[g3]
 have e:t.map (λp=>(Sum.inr p.1:Key))=(t.map (·.1)).map Sum.inr:=by rw[A3];rfl
 rw[e]
 unfold List.Nodup at hn ⊢
 rw[List.pairwise_map]
 exact hn.imp λhne z=>hne (Sum.inr.inj z)
end Hp
end
noncomputable section
namespace Hh
open PySem PySem.W PySem.Calls PyProof.Rows
def go(st:SharedT->Thread->Option (SharedT×Thread))(ok:Thread->Bool)(n:Nat):SharedT->Thread->Option SharedT:=
 @Nat.rec (λ_=>SharedT->Thread->Option SharedT) (λ_ _=>none) (λ_ ih s t=>match through t with
  | true=>some s
  | false=>match ok t with
   | false=>none
   | true=>match st s t with
    | some (s',t')=>ih s' t'
    | none=>none) n
theorem pJ{tb:String->Option Builtin}{p:Program}{w:World}{n₀:Nat}{ann:Option Value}:∀(n:Nat) (s s':SharedT) (t:Thread),go (stepT (denote tb) p w) (stepOk n₀ ann) n s t=some s'->topRun tb p w n₀ ann n s.abs t=some s'.abs
 | 0,_,_,_,h=>by cases h
 | n+1,s,s',t,h=>by
  have h:(match through t with
   | true=>some s
   | false=>match stepOk n₀ ann t with
    | false=>none
    | true=>match stepT (denote tb) p w s t with
     | some (s',t')=>go (stepT (denote tb) p w) (stepOk n₀ ann) n s' t'
     | none=>none)=some s':=h
  unfold topRun
  cases ht:through t with
  | true=>rw[ht] at h;cases h;rfl
  | false=>
   rw[ht] at h
   cases hk:stepOk n₀ ann t with
   | false=>rw[hk] at h;cases h
   | true=>
    rw[hk] at h
    cases hs:stepT (denote tb) p w s t with
    | none=>rw[hs] at h;cases h
    | some r=>obtain⟨s₂,t₂⟩:=r;rw[hs] at h;rw[stepT_spec hs];exact pJ n _ _ _ h
def bt(l:List Obj)(n:Nat):Nat->Nat->BT:=
 @Nat.rec (λ_=>Nat->Nat->BT) (λ_ _=>.nil) (λ_ ih a b=>match l[b]? with
  | some o=>.node o (ih (2*a) (a+b)) (ih (2*a) (2*a+b))
  | none=>.nil) n
end Hh
namespace Hh
open PySem PySem.W PySem.Calls PyProof.Rows
def aEo{α:Type}(p q:Program)(loose:List Str)(Xt:Shared->Bool)(Yf:Shared->α)(h0:Heap)(s:Shared):=
 ((staticsOk (importedModules p.main.body) h0 s.heap&&namesBound p s.heap&&gensDone s&&laidKept h0 s.heap),openSeen q loose (importedModules p.main.body) Xt true s,Yf s)
theorem aGn{p q:Program}{loose:List Str}{Xt:Shared->Bool}{α:Type}{Yf:Shared->α}{Ya:World->α}{N m₀:Nat}{ann:Option Value}{T₀:Params->BT}{l₀:Life}(e:opening p=plainProg p.main.scope.names)(hN:Nat.ble 600 N=true)(f:∀s,fenceModules? p s=some s)
 (hb:∀P,absHeap (T₀ P) m₀ l₀=boot_heap P) (hz:∀P:Params,((boot_heap P).isNs mainGlobals,(boot_heap P).objs.size,(boot_heap P).nsMap mainGlobals "__annotations__")=(true,m₀,ann))
 (h:∀(w:World) (os:OsState),(go (stepT (denote treeTable) p w) (stepOk m₀ ann) N ⟨T₀ w.params,m₀,l₀,Array.mk [],boot_drawn,boot_toks,os⟩ (topStub p)).map (λs=>aEo p q loose Xt Yf (boot_heap w.params) s.abs)=some (true,openGood q loose,Ya w)):LeftO p q loose Xt Yf Ya N:=λw=>by
 obtain⟨⟨hh,gs,d,k,os⟩,e1,e2⟩:=Bk.mp (boot_open e hN f w)
 simp only[Prod.mk.injEq] at e2
 obtain⟨rfl,rfl,rfl,rfl⟩:=e2
 obtain⟨s,g1,g2⟩:=Bk.mp (h w os)
 have r:=pJ N _ _ _ g1
 have r:topRun treeTable p w m₀ ann N ⟨boot_heap w.params,Array.mk [],boot_drawn,boot_toks,os⟩ (topStub p)=some s.abs:=by
  rw[<-hb];exact r
 have z:=hz w.params
 simp only[Prod.mk.injEq] at z
 obtain⟨z1,z2,z3⟩:=z
 unfold aEo at g2
 simp only[Prod.mk.injEq] at g2
 obtain⟨l1,l2,l3⟩:=g2
 have t:topFrom treeTable p w N ⟨boot_heap w.params,Array.mk [],boot_drawn,boot_toks,os⟩=some s.abs:=by
  unfold topFrom
  dsimp only
  rw[z1,z2,z3,r]
  show(match staticsOk (importedModules p.main.body) (boot_heap w.params) s.abs.heap&&namesBound p s.abs.heap&&gensDone s.abs&&laidKept (boot_heap w.params) s.abs.heap with|true=>_|false=>_)=_
  rw[l1]
 unfold openEnds
 rw[e1]
 show(topFrom treeTable p w N _).map _=_
 rw[t]
 exact congrArg some (Prod.ext l2 l3)
def T0(P:Params):BT:=bt (boot_heap P).objs.toList 5 1 0
theorem aJe:∀P,absHeap (T0 P) 11 {}=boot_heap P:=λP=>by kernel_rfl
theorem aGo:∀P:Params,((boot_heap P).isNs mainGlobals,(boot_heap P).objs.size,(boot_heap P).nsMap mainGlobals "__annotations__")=(true,11,some (.ref 6)):=λP=>by kernel_rfl
abbrev aLP:=@PySem.W.Fast.tw10156331382660048174
abbrev qOk:=@PySem.W.Fast.tw6613529449190102663
abbrev aNx:=@PySem.W.Fast.tw11892475500146522536
abbrev aNy:=@PySem.W.Fast.tw14364793385576792824
abbrev aLQ:=@PySem.W.Fast.tw4187177175401517315
abbrev aLR:=@PySem.W.Fast.tw5923862056798008813
def aLS{α:Type}(p q:Program)(loose:List Str)(Yf:Shared->α)(N:Nat)(w:World)(os:OsState):=
 (go (aLP (aNx aNy) p w) (qOk 11 (some (.ref 6))) N ⟨T0 w.params,11,{},Array.mk [],boot_drawn,boot_toks,os⟩ (topStub p)).map λs=>
  ((staticsOk (aLR p.main.body) (boot_heap w.params) s.abs.heap&&namesBound p s.abs.heap&&gensDone s.abs&&laidKept (boot_heap w.params) s.abs.heap),aLQ q loose (aLR p.main.body) (λ_=>true) true s.abs,Yf s.abs)
theorem aJf{p q:Program}{loose:List Str}{α:Type}{Yf:Shared->α}{Ya:World->α}{N:Nat}(e:opening p=plainProg p.main.scope.names)(hN:Nat.ble 600 N=true)(f:∀s,fenceModules? p s=some s)
 (h:∀w os,aLS p q loose Yf N w os=some (true,openGood q loose,Ya w)):LeftO p q loose (λ_=>true) Yf Ya N:=by
 refine aGn e hN f aJe aGo λw os=>?_
 unfold aEo
 rw[PySem.W.Fast.te10156331382660048174,PySem.W.Fast.te6613529449190102663,PySem.W.Fast.te11892475500146522536,PySem.W.Fast.te14364793385576792824,PySem.W.Fast.te4187177175401517315,PySem.W.Fast.te5923862056798008813]
 exact h w os
end Hh
end
noncomputable section
namespace Hh
open PySem PySem.W PySem.Calls PyProof.Rows L2 Hp
def lF(h:Heap):PySem.W.Frag:=(List.range h.objs.size).filterMap λa=>(h.get? a).map λo=>(a,o)
theorem qT{α:Type}(f:Nat->Option α)(a:Nat):∀n,((List.range n).filterMap λi=>(f i).map λo=>(i,o)).lookup a=if a<n then f a else none
 | 0=>rfl
 | n+1=>by
  rw[List.range_succ,Dr,List.lookup_append,qT f a n]
  by_cases h:a<n
  . rw[if_pos h,if_pos (B3 h)]
    cases q:f a with
    | some o=>rfl
    | none=>
     have hne:(a==n)=false:=Bb.mpr (Ao h)
     cases q2:f n with
     | none=>simp[q2]
     | some o=>simp[q2,List.lookup,hne]
  . rw[if_neg h]
    by_cases e:a=n
    . subst e
      rw[if_pos (Cy _)]
      cases q:f a with
      | none=>simp[q]
      | some o=>simp[q,List.lookup]
    . rw[if_neg (by omega)]
      have hne:(a==n)=false:=Bb.mpr e
      cases q2:f n with
      | none=>simp[q2]
      | some o=>simp[q2,List.lookup,hne]
theorem dS(h:Heap)(a:Addr):(lF h).lookup a=h.get? a:=by
 unfold lF
 rw[qT]
 by_cases q:a<h.objs.size
 . rw[if_pos q]
 . rw[if_neg q]
   cases e:h.get? a with
   | none=>rfl
   | some o=>exact absurd (Ah e) q
theorem aBd{h h':Heap}(k:∀b o,h.get? b=some o->h'.get? b=some o):(lF h).In h':=λa o e=>k a o (by rw[<-dS];exact e)
def nJ(h:Heap)(x:Str):Option (Option Value):=match h.get? mainGlobals with
 | some ⟨_,_,.dict es _,_⟩=>(match es.toList.find? (λe=>match e.key with|.str y _=>Fast.sEq y x|_=>false) with
  | some e=>some (some e.val)
  | none=>if es.toList.any (·.refKey) then none else some none)
 | _=>none
theorem aEp(v:Value)(x:Str):v.isStr x=(match v with|.str y _=>Fast.sEq y x|_=>false):=by
 cases v with
 | str y t=>
  show(y==x)=Fast.sEq y x
  rw[Dn,beq_iff_eq,Fast.sEq_iff]
 | _=>rfl
theorem iP(h:Heap)(x:Str):nsIn (lF h) mainGlobals x=nJ h x:=by
 unfold nsIn nJ
 rw[dS]
 simp only[aEp]
 rfl
def qU(h:Heap)(cd:Value):Option Str:=match cd with
 | .ref c=>(match h.get? c with
  | some ⟨_,_,.fields vs,_⟩=>(match vs.toList with|_::.str n _::_=>some n|_=>none)
  | _=>none)
 | _=>none
theorem aCq{h:Heap}{cd:Value}{q:Str}(e:qU h cd=some q):codeIn (lF h) cd q=true:=by
 unfold qU at e
 unfold codeIn
 split at e
 . rename_i c
   simp only[dS]
   split at e
   . rename_i vs _ ho
     rw[ho]
     split at e
     . rename_i a n t r hv
       cases e
       simp only[hv,Bm]
     . cases e
   . cases e
 . cases e
abbrev Pin:=Str×Str×Arguments×FuncBody×Scope×Addr×List (Str×Addr)×Value×Addr×Option Str
def aAg(h:Heap)(x:Str):Option Pin:=match nJ h x with
 | some (some (.ref a))=>(match h.get? a with
  | some ⟨_,_,.func fd,_⟩=>some (fd.name,fd.qualname,fd.params,fd.body,fd.scope,fd.globals,fd.closure,fd.defaults,fd.builtins,qU h fd.code)
  | _=>none)
 | _=>none
def dN(s:Stmt):Str:=match s with
 | .FunctionDef x _ _ _ _ _ _ _ _ _=>x
 | _=>⟨#[]⟩
def aEq(st:Stmt):Pin:=(dN st,dN st,jV st,.stmts (jW st),cD st,mainGlobals,[],.none,builtinsNs,some (dN st))
theorem aGp{h:Heap}{st:Stmt}(e:aAg h (dN st)=some (aEq st)):∃fa fd,nsIn (lF h) mainGlobals (dN st)=some (some (.ref fa))/\Fun (lF h) (dN st) (dN st) st fa fd:=by
 unfold aAg at e
 split at e
 . rename_i a hn
   split at e
   . rename_i c d fd sl ho
     obtain⟨n,qn,ps,b,sc,g,cl,df,kd,doc,pm,an,cd,ct,bn⟩:=fd
     unfold aEq at e
     simp only[Db,Prod.mk.injEq] at e
     obtain⟨rfl,rfl,rfl,rfl,rfl,rfl,rfl,rfl,rfl,hc⟩:=e
     refine⟨a,_,by rw[iP];exact hn,⟨⟨c,d,kd,doc,pm,an,cd,ct,sl,rfl,by rw[dS];exact ho,aCq hc⟩,?_⟩⟩
     unfold keepIn
     simp only[dS,ho]
   . cases e
 . cases e
theorem xO{α:Type}{x:Str}{u:α}:∀{ps:List Str} {us:List α},ps.Nodup->ps.length=us.length->(x,u)∈ps.zip us->(ps.zip us).lookup x=some u
 | [],_,_,_,h=>by simp at h
 | p::ps,[],_,h,_=>by simp at h
 | p::ps,v::us,hn,hl,h=>by
  rw[A8] at h ⊢
  obtain⟨h1,h2⟩:=C1.mp hn
  rcases An.mp h with h|h
  . cases h;simp[List.lookup]
  . have hx:x∈ps:=(List.of_mem_zip h).1
    have:(x==p)=false:=Bb.mpr λz=>h1 (z▸hx)
    simp only[List.lookup,this]
    exact xO h2 (by simpa using hl) h
theorem aEr{α:Type}(L:List (Str×α)):∀{ps:List Str} {us:List α},ps.length=us.length->(∀p∈ps.zip us,L.lookup p.1=some p.2)->(ps.filterMap λn=>(L.lookup n).map (n,·))=ps.zip us
 | [],_,_,_=>by simp
 | p::ps,[],h,_=>by simp at h
 | p::ps,v::us,hl,h=>by
  rw[A8,Dx,h (p,v) (by simp),aEr L (ps:=ps) (us:=us) (by simpa using hl) λq hq=>h q (by rw[A8];exact Ag _ hq)]
  rfl
theorem aEs{α:Type}(L:List (Str×α)):∀{ps:List Str} {us:List α},ps.length=us.length->(∀p∈ps.zip us,L.lookup p.1=some p.2)->(ps.filter λn=>(L.lookup n).isNone)=[]
 | [],_,_,_=>by simp
 | p::ps,[],h,_=>by simp at h
 | p::ps,v::us,hl,h=>by
  rw[List.filter_cons,h (p,v) (by simp),aEs L (ps:=ps) (us:=us) (by simpa using hl) λq hq=>h q (by rw[A8];exact Ag _ hq)]
  rfl
def kC(a:Arguments)(ps:List Str):Bool:=match a with
 | ⟨[],as,none,[],[],none,[]⟩=>decide (as.map (·.arg)=ps)&&decide ps.Nodup
 | _=>false
theorem qV{x q:Str}{a:Arguments}{b:List Stmt}{sc:Scope}{kV doc pm:Value}{an:Option Addr}{cdv ct:Value}{ps:List Str}{us:List Value}(h:kC a ps=true)(hl:us.length=ps.length) :
 bindArgs (fnOf x q a b sc .none kV doc pm an cdv ct) ⟨us,[]⟩=pure (ps.zip us):=by
 unfold kC at h
 split at h
 . rename_i as
   obtain⟨h1,h2⟩:=Bool.and_eq_true_iff.mp h
   have h1:=A9 h1
   have h2:=A9 h2
   have z:∀p∈ps.zip us,(ps.zip us).lookup p.1=some p.2:=λp hp=>xO h2 hl.symm hp
   have e1:=aEs (ps.zip us) hl.symm z
   have e2:=aEr (ps.zip us) hl.symm z
   unfold bindArgs
   have e3:∀s:Value,s=.none->(seqItems? s)=pure none:=λs e=>by subst e;rfl
   simp only[mN,List.nil_append,h1,e3,List.forIn_nil,pure_bind,hl,gt_iff_lt,Bl,decide_false,Bool.false_and,Option.getD_none,lN,Nat.zero_sub,List.drop_nil,Nat.sub_zero,B8,e1,List.isEmpty_nil,Ck,List.drop_length,List.zip_nil_right,Ch,e2,if_false,bF]
 . cases h
def xP(s:Stmt):Bool:=match s with
 | .FunctionDef _ _ _ _ _ _ _ _ _ _=>true
 | _=>false
def aEt:D->Value->Bool
 | .int i,.int j _=>decide (i=j)
 | .str a,.str b _=>Fast.sEq a b
 | .non,.none=>true
 | .bl a,.bool b=>a==b
 | _,_=>false
def aAh(h:Heap)(c:Str×D):Bool:=match nJ h c.1 with
 | some (some u)=>aEt c.2 u
 | _=>false
def mB:Value->Option Str
 | .str x _=>some x
 | _=>none
abbrev aEu:=Int×Option Str×Option (Value×List (Option Str))
def oR(h:Heap)(e:DictEntry):aEu:=(e.hash,mB e.key,match e.val with
 | .ref b=>(match h.get? b with
  | some ⟨c,_,.seq its _,_⟩=>some (c,its.toList.map mB)
  | _=>none)
 | _=>none)
def uT(h:Heap)(x:Str):Option (Bool×Value×Option Addr×Array (Option Value)×List aEu):=match nJ h x with
 | some (some (.ref a))=>(match h.get? a with
  | some ⟨c,d,.dict es _,sl⟩=>some (a==sysModules,c,d,sl,es.toList.map (oR h))
  | _=>none)
 | _=>none
def uU(w:World)(p:Str×List Str):aEu:=(hashStr w p.1,some p.1,some (.type "tuple",p.2.map some))
def aAi(w:World)(t:List (Str×List Str)):Option (Bool×Value×Option Addr×Array (Option Value)×List aEu):=some (false,.type "dict",none,#[],t.map (uU w))
def aCr(t:List (Str×List Str)):List (Str×D):=t.map λp=>(p.1,.tup (p.2.map D.str))
theorem aBe:∀{us:List Value} {xs:List Str},us.map mB=xs.map some->aU (xs.map V.str) us
 | [],[],_=>.nil
 | [],_::_,h=>by cases h
 | _::_,[],h=>by cases h
 | u::us,x::xs,h=>by
  rw[mC,mC] at h
  obtain⟨h1,h2⟩:=List.cons.inj h
  refine .cons ?_ (aBe h2)
  unfold mB at h1
  split at h1
  . cases h1;exact⟨_,rfl⟩
  . cases h1
theorem aJg{h:Heap}{w:World}{e:DictEntry}{p:Str×List Str}(q:oR h e=uU w p)(hl:p.2.length<=1000):ER w (lF h) e (p.1,.tup (p.2.map D.str)):=by
 unfold oR uU at q
 simp only[Prod.mk.injEq] at q
 obtain⟨q1,q2,q3⟩:=q
 refine⟨q1,?_,?_⟩
 . unfold mB at q2
   split at q2
   . rename_i y tk he
     exact⟨tk,by rw[he];exact congrArg (λz=>Value.str z tk) (Ak q2)⟩
   . cases q2
 . split at q3
   . rename_i b he
     split at q3
     . rename_i c d its n sl ho
       have q3:=Ak q3
       simp only[Prod.mk.injEq] at q3
       obtain⟨e1,e2⟩:=q3
       subst e1
       have hz:=congrArg List.length e2
       rw[lM,lM] at hz
       exact⟨.ref b,by rw[he];rfl,aEm (by rw[dS];exact ho) p.2 (by rw[<-Bo,hz];exact hl) (aBe e2)⟩
     . cases q3
   . cases q3
theorem tF{h:Heap}{w:World}:∀{es:List DictEntry} {t:List (Str×List Str)},es.map (oR h)=t.map (uU w)->(∀p∈t,p.2.length<=1000)->Paired (ER w (lF h)) es (aCr t)
 | [],[],_,_=>.nil
 | [],_::_,q,_=>by cases q
 | _::_,[],q,_=>by cases q
 | e::es,p::t,q,hl=>by
  rw[mC,mC] at q
  obtain⟨h1,h2⟩:=List.cons.inj q
  exact .cons (aJg h1 (hl p (Al ..))) (tF h2 λp' hp=>hl p' (Ag _ hp))
def aBf(t:List (Str×List Str)):Bool:=(t.all λp=>decide (p.2.length<=1000))&&decide (t.map (·.1)).Nodup
theorem aEv{prog:Program}{h:Heap}{w:World}{x:Str}{t:List (Str×List Str)}(e:uT h x=aAi w t)(ok:aBf t=true):∃a,nsIn (lF h) mainGlobals x=some (some (.ref a))/\sL prog w (lF h) a (aCr t):=by
 unfold aBf at ok
 rw[bA,Bu] at ok
 unfold uT aAi at e
 split at e
 . rename_i a hn
   split at e
   . rename_i c d es ep sl ho
     have e:=Ak e
     simp only[Prod.mk.injEq] at e
     obtain⟨e1,rfl,rfl,rfl,e5⟩:=e
     refine⟨a,(iP h x).trans hn,aJd e1 (by rw[dS];exact ho) (tF e5 λp hp=>A9 (ok.1 p hp)) ?_⟩
     unfold aCr
     rw[A3]
     exact A9 ok.2
   . cases e
 . cases e
structure Sn where
 cns:List (Str×D)
 tbs:List (Str×List (Str×List Str))
abbrev aHe:=List (Option Pin)×List (Option (Option Value))×Bool×List (Option (Bool×Value×Option Addr×Array (Option Value)×List aEu))
def kE(p:Program)(n:Sn)(h:Heap):aHe:=
 ((p.main.body.filter xP).map (λst=>aAg h (dN st)),bltNames.map (nJ h),n.cns.all (aAh h),n.tbs.map (λq=>uT h q.1))
def nK(p:Program)(n:Sn)(w:World):aHe:=
 ((p.main.body.filter xP).map (λst=>some (aEq st)),bltNames.map (λ_=>some none),true,n.tbs.map (λq=>aAi w q.2))
def xQ(p:Program)(i:Nat):Stmt:=p.main.body.getD i (.Pass ⟨0,0,0,0⟩)
def oK(p:Program)(c:Nat×List Str):Tx:=⟨dN (xQ p c.1),dN (xQ p c.1),xQ p c.1,c.2⟩
theorem aJh{p:Program}{i:Nat}(h:xP (xQ p i)=true):xQ p i∈p.main.body:=by
 unfold xQ at h ⊢
 rw[Ae] at h ⊢
 cases e:p.main.body[i]? with
 | none=>rw[e] at h;cases h
 | some s=>exact mG e
theorem aGq{h:Heap}{c:Str×D}(e:aAh h c=true):∃u v,nsIn (lF h) mainGlobals c.1=some (some u)/\bR v u/\∀H ex,Rep (lF h) H ex c.2 v:=by
 unfold aAh at e
 split at e
 . rename_i u hn
   obtain⟨x,d⟩:=c
   have e:aEt d u=true:=e
   unfold aEt at e
   split at e
   . cases A9 e;exact⟨_,.int _,(iP _ _).trans hn,⟨_,rfl⟩,λ_ _=>rfl⟩
   . cases Fast.sEq_iff.mp e;exact⟨_,.str _,(iP _ _).trans hn,⟨_,rfl⟩,λ_ _=>rfl⟩
   . exact⟨_,.non,(iP _ _).trans hn,rfl,λ_ _=>rfl⟩
   . cases eq_of_beq e;exact⟨_,.bl _,(iP _ _).trans hn,rfl,λ_ _=>rfl⟩
   . cases e
 . cases e
theorem aJi{prog p:Program}{w:World}{h0 h:Heap}{mg:Str->Option Value}{P:Pg}{Γ:Ct}{ix:List (Nat×List Str)}{n:Sn}(S:kE p n h0=nK p n w)(k:∀b o,h0.get? b=some o->h.get? b=some o)(G:h.Ns mainGlobals mg)
 (hi:(ix.all λc=>xP (xQ p c.1))=true) (h1:Γ.fns=(ix.map (oK p)).map (·.x)) (h2:Γ.cns=n.cns) (h3:Γ.tbs=n.tbs.map (·.1)) (h4:P.tabs=n.tbs.map λq=>aCr q.2) (h5:(n.tbs.all λq=>aBf q.2)=true)
 (hb:((P.fns.zip (ix.map (oK p))).all λq=>kC (jV q.2.st) (q.2.N.take q.1.np))=true) (chk:jI Γ P.fns (ix.map (oK p))=true) :
 Top prog w (lF h0) mg P Γ (ix.map (oK p)):=by
 unfold kE nK at S
 simp only[Prod.mk.injEq] at S
 obtain⟨s1,s2,s3,s4⟩:=S
 have X:=aBd k
 exact {
  fn:=λf t ht=>by
   rw[Az] at ht
   obtain⟨c,hc,rfl⟩:=Bk.mp ht
   have hd:=Bu.mp hi c (mG hc)
   obtain⟨fa,fd,g1,g2⟩:=aGp (List.map_inj_left.mp s1 _ (C9.mpr ⟨aJh hd,hd⟩))
   refine⟨fa,fd,mg_of X G g1,g2,λF hF=>g2.binds λkV doc pm an cdv ct us hl=>qV (Bu.mp hb (F,oK p c) (mG (i:=f) ?_)) hl⟩
   rw[Dw]
   exact⟨hF,by rw[Az,hc];rfl⟩
  fns:=λf x hx=>by
   rw[h1,Az] at hx
   obtain⟨t,ht,rfl⟩:=Bk.mp hx
   exact⟨t,ht,rfl⟩
  blt:=λx hx=>mg_none_of X G ((iP h0 x).trans (List.map_inj_left.mp s2 x hx))
  cns:=λx d hx=>by
   rw[h2] at hx
   obtain⟨u,v,g1,g2⟩:=aGq (Bu.mp s3 _ (B9 hx))
   exact⟨u,v,mg_of X G g1,g2⟩
  tab:=λi x hx=>by
   rw[h3,Az] at hx
   obtain⟨q,hq,rfl⟩:=Bk.mp hx
   have hm:=mG hq
   obtain⟨a,g1,g2⟩:=aEv (prog:=prog) (List.map_inj_left.mp s4 q hm) (Bu.mp h5 q hm)
   exact⟨a,aCr q.2,mg_of X G g1,by rw[h4,Az,hq];rfl,g2⟩
  chk:=chk }
theorem aEw{l:PySem.W.OpenLaw}{n k:Nat}{q:Program}{loose:List Str}{XP:(Str->Option Value)->Heap->Prop}{YP:World->Heap->Prop}{d:DefRec}{sp:PySem.W.Frag->Sp}{x:Str}(hn:l.most=some n)(hn2:n<=sizeLine)(hdf:d.params.defaults=[])(hr:kW k callerA)
 (F:∀(w:World) (mg:Str->Option Value) (fa:Addr) (h:Heap),YP w h->h.Ns mainGlobals mg->mg d.name=some (.ref fa)->∃K:PySem.W.Frag,K.In h/\∃fd:FuncData,(∀(s:Shared) (u:Value),BindsTo s fd ⟨[u],[]⟩ [(x,u)])/\∀base:Heap,K.In base->base.Ns mainGlobals mg->oD l.prog w K mg base CX0 k fa fd [x] (sp K))
 (hsp:∀(K:PySem.W.Frag) (H:Hp) (a:Addr) (ns:List Int),ns.length<=n->aFN H->SqL K H a (ns.map V.int)->sp K [.ref a] H (λv _=>v=.bl true) λ_ _ _=>False):PySem.W.WalkO q loose XP YP l.row.toRowW d [] (λf vs=>PySem.call f vs):=by
 refine Att.attach_call hn hdf λw s₀ s₁ mg mb fa o pm cd doc a vs ns G Y ho hd hcd hmg hobj hints hlen hg=>?_
 obtain⟨K,KX,fd,hb,hF⟩:=F w mg fa _ Y G.T.g hmg
 exact aDn KX G.T.g G.T.b G.T.builtins G.T.nolimit hg hobj hints (A4 hlen hn2) hr hF hb (λH hO hS=>hsp K H a ns hlen hO hS) λ_ _ _ z=>z
def lst(p:Program):Stmt:=p.main.body.getLastD (.Pass ⟨0,0,0,0⟩)
def tG(p:Program):Program:={ p with main:={ p.main with body:=[lst p] } }
def uV(p:Program):List Str:=(p.main.scope.names.map (·.1)).filter λx=>!(Fast.sEq x (dN (lst p)))
def aJj(s:Stmt):Pos:=match s with
 | .FunctionDef _ _ _ _ _ _ _ _ _ p=>p
 | _=>⟨0,0,0,0⟩
def lG(p:Program):DefRec:=⟨dN (lst p),jV (lst p),jW (lst p),cD (lst p),aJj (lst p)⟩
theorem aJk{l:PySem.W.OpenLaw}{P:Pg}{n:Sn}{ix:List (Nat×List Str)}{k f N:Nat}{x:Str}{sl:List Str}(said:l.row.wellSaid=true)(left:LeftO l.prog (tG l.prog) (uV l.prog) (λ_=>true) (λs=>kE l.prog n s.heap) (λw=>nK l.prog n w) N)
 (hdef:defOf (tG l.prog) l.name=some (lG l.prog,[])) (hp:l.prog.theDef l.name=some ((lG l.prog).params,(lG l.prog).body,(lG l.prog).scope)) (hk:kwWritten? (lG l.prog).params.kwonlyargs (lG l.prog).params.kw_defaults=some []) (hwr:(!l.writes||([]:WRecords).isEmpty)=true)
 (ok:(chainsOk (tG l.prog)&&opensWell l.prog&&(frees l.row.toRowW&&l.row.within.isEmpty))=true) (hb:l.prog.bare) (hw:l.row.toRowW.promised) (hn:l.most=some 63) (hdf:(lG l.prog).params.defaults=[])
 (hi:(ix.all λc=>xP (xQ l.prog c.1))=true) (hbd:((P.fns.zip (ix.map (oK l.prog))).all λq=>kC (jV q.2.st) (q.2.N.take q.1.np))=true) (chk:jI ⟨[],[],(ix.map (oK l.prog)).map (·.x),n.cns,[],true,n.tbs.map (·.1)⟩ P.fns (ix.map (oK l.prog))=true)
 (h4:P.tabs=n.tbs.map λq=>aCr q.2) (h5:(n.tbs.all λq=>aBf q.2)=true) (hr:kW (k+1) callerA) (hx:(ix.map (oK l.prog))[f]? = some ⟨dN (lst l.prog),dN (lst l.prog),lst l.prog,x::sl⟩) (hnp:(P.fns[f]?).map (·.np)=some 1)
 (pure:∀ns:List Int,ns.length<=63->∃fr pa,Hp.call P (k+1) f [.lst (ns.map D.int)]=.ok (.bl true,fr,pa)):l.row.Holds:=by
 refine holds_open (XP:=λ_ _=>True) (YP:=λw h=>∃h0,kE l.prog n h0=nK l.prog n w/\∀b o,h0.get? b=some o->h.get? b=some o) left (λw s e=>⟨s.heap,e,λ_ _ z=>z⟩) (λw h h' ⟨h0,e,k⟩ k'=>⟨h0,e,λb o z=>k' b o (k b o z)⟩) (λ_ _=>trivial) (λ_ _ _ _ _=>trivial) hdef hp hk (λ_ _=>recFacts_nil rfl) hwr said ok hb hw ?_
 obtain⟨F,hF,hFn⟩:=Bk.mp hnp
 refine aEw (sp:=λK=>spF K P (k+1) f) (x:=x) hn (by decide) hdf hr (λw mg fa h ⟨h0,e,kk⟩ G hmg=>?_) λK H a ns hl hO hS=>aJc hO hS (pure ns hl)
 have T:=aJi (prog:=l.prog) (w:=w) (P:=P) (Γ:=⟨[],[],(ix.map (oK l.prog)).map (·.x),n.cns,[],true,n.tbs.map (·.1)⟩) e kk G hi rfl rfl rfl h4 h5 hbd chk
 obtain⟨fa',fd,g1,g2,g3⟩:=T.fn f _ hx
 have e:=hmg.symm.trans g1
 cases e
 have b:=g3 F hF
 refine⟨lF h0,aBd kk,fd,λs u=>?_,λbase _ _=>?_⟩
 . obtain⟨oc,od,kV,doc,pm,an,cdv,ct,osl,rfl,lk,hcd⟩:=g2.ex
   refine .of_eq ((qV (ps:=[x]) ?_ rfl).trans rfl)
   have:=Bu.mp hbd (F,_) (mG (i:=f) (Dw.mpr ⟨hF,hx⟩))
   rw[hFn] at this
   exact this
 . have:=aJb (base:=base) T hx hF g2 k
   rw[hFn] at this
   exact this
end Hh
end
noncomputable section
namespace Hp
open PySem (Str Operator CmpOp)
section
variable {P:Pg} {cl:Caller} {σ:Sg}
@[simp] theorem aA {α β:Type} (a:α) (f:α->R β):((R.ok a:R α) >>= f)=f a:=id rfl
@[simp] theorem xR {α:Type} (x:R α):R.iff true x=x:=id rfl
@[simp] theorem aOj {α:Type} (x:α):R.of (some x)=.ok x:=id rfl
@[simp] theorem bJ {α:Type} (a:α) (f:α->O):O.from σ (.ok a) f=f a:=id rfl
@[simp] theorem rY (f:Sg->O):(O.next σ).on f=f σ:=id rfl
@[simp] theorem qW (v:Vl) (f:Sg->O):(O.ret v).on f=.ret v:=id rfl
@[simp] theorem aC (d:D):ev P cl σ (.c d)=.ok (.cl d):=id rfl
@[simp] theorem gE (i:Nat):ev P cl σ (.v i)=bY σ i:=id rfl
@[simp] theorem xS (o:Operator) (a b:E):ev P cl σ (.op o a b)=(ev P cl σ a >>= λx=>ev P cl σ b >>= λy=>opD o x y):=id rfl
@[simp] theorem aJl (a:E):ev P cl σ (.neg a)=(ev P cl σ a >>= λx=>match x.d with|.int i=>.ok (.cl (.int (-i)))|_=>.bad):=id rfl
@[simp] theorem aLT (a:E):ev P cl σ (.nt a)=(ev P cl σ a >>= λx=>gH x >>= λk=>.ok (.cl (.bl (!k)))):=id rfl
@[simp] theorem aLU (a b:E):ev P cl σ (.an a b)=(ev P cl σ a >>= λx=>match x.d with|.bl true=>ev P cl σ b|.bl false=>.ok (.cl (.bl false))|_=>.bad):=id rfl
@[simp] theorem aJm (a b:E):ev P cl σ (.orr a b)=(ev P cl σ a >>= λx=>match x.d with|.bl true=>.ok (.cl (.bl true))|.bl false=>ev P cl σ b|_=>.bad):=id rfl
@[simp] theorem aAj (t a b:E):ev P cl σ (.ife t a b)=(tst P cl σ t >>= λx=>if x then ev P cl σ a else ev P cl σ b):=id rfl
@[simp] theorem aJn (o:CmpOp) (a b:E):ev P cl σ (.cmp o a b)=(ev P cl σ a >>= λx=>ev P cl σ b >>= λy=>match cG o x.d y.d with|some k=>.ok (.cl (.bl k))|none=>.bad):=id rfl
@[simp] theorem aMB (o o':CmpOp) (a b c:E):ev P cl σ (.cmp2 o o' a b c)=(ev P cl σ a >>= λx=>ev P cl σ b >>= λy=>match cG o x.d y.d with
 | some true=>ev P cl σ c >>= λz=>(match cG o' y.d z.d with|some k=>.ok (.cl (.bl k))|none=>.bad)
 | some false=>.ok (.cl (.bl false))
 | none=>.bad):=id rfl
@[simp] theorem iQ (a b:E):ev P cl σ (.idx a b)=(ev P cl σ a >>= λx=>ev P cl σ b >>= λy=>eE x y):=id rfl
@[simp] theorem qX (es:Es):ev P cl σ (.tup es)=(evs P cl σ es >>= λvs=>.ok (sK vs)):=id rfl
@[simp] theorem aJo (es:Es):ev P cl σ (.lst es)=(evs P cl σ es >>= λvs=>.ok (pP vs)):=id rfl
@[simp] theorem dC (f:Nat) (es:Es):ev P cl σ (.call f es)=(evs P cl σ es >>= λvs=>cl f (vs.map (·.d)) >>= λr=>.ok (iI vs r)):=id rfl
@[simp] theorem qY (b:Bi) (es:Es):ev P cl σ (.bi b es)=(evs P cl σ es >>= λvs=>biD b vs):=id rfl
@[simp] theorem aNz (m:Mt) (o:E) (es:Es):ev P cl σ (.mth m o es)=(ev P cl σ o >>= λx=>evs P cl σ es >>= λys=>mtD m x ys):=id rfl
@[simp] theorem aNA (a:E) (cs:List Cl):ev P cl σ (.isi a cs)=(ev P cl σ a >>= λx=>match isI cs P x.d with|some k=>.ok (.cl (.bl k))|none=>.bad):=id rfl
@[simp] theorem aBg (a:E) (h:E):ev P cl σ (.sli a .z (.k h .z))=(ev P cl σ a >>= λx=>ev P cl σ h >>= λh=>match h.d with|.int h=>.iff (aN h) (dQ x none (some h))|_=>.bad):=by
 show(ev P cl σ a >>= λx=>evs P cl σ .z >>= λl=>evs P cl σ (.k h .z) >>= λh=>_)=_
 cases ev P cl σ a with
 | ok x=>
  show(evs P cl σ (.k h .z) >>= λh=>_)=(ev P cl σ h >>= λh=>_)
  show((ev P cl σ h >>= λx=>evs P cl σ .z >>= λxs=>R.ok (x::xs)) >>= λh=>_)=_
  cases ev P cl σ h <;> rfl
 | exc e=>rfl
 | bad=>rfl
theorem oT(k:Nat)(caps:List Nat)(t:T)(it:It)(cond:Es)(elt:E):ev P cl σ (.comp k caps t it cond elt)=(walk P cl σ it >>= λxs=>
 eR (λx=>cI (List.replicate k .x++caps.map λi=>((freeze σ xs.2)[i]?).getD .x) x t >>= λσ1=>tsts P cl σ1 cond >>= λk=>if k then (ev P cl σ1 elt >>= λy=>.ok (some y)) else .ok none) xs.1 >>= λvs=>
 .iff (decide (vs.length<=lim)) (.ok (fQ k caps xs.2 vs))):=rfl
@[simp] theorem aJO (a:E):ev P cl σ (.numset a)=(ev P cl σ a >>= λx=>match x.d with
 | .lst ds=>(match gB ds with|some ks=>.iff (decide (ds.length<=1000)) (.ok (.cl (.int (pO ks).length)))|none=>.bad)
 | _=>.bad):=id rfl
@[simp] theorem bI:evs P cl σ .z=.ok []:=id rfl
@[simp] theorem aH (e:E) (es:Es):evs P cl σ (.k e es)=(ev P cl σ e >>= λx=>evs P cl σ es >>= λxs=>.ok (x::xs)):=id rfl
@[simp] theorem lH (a:E):tst P cl σ (.nt a)=(tst P cl σ a >>= λx=>.ok (!x)):=id rfl
@[simp] theorem aAk (a b:E):tst P cl σ (.an a b)=(tst P cl σ a >>= λx=>if x then tst P cl σ b else .ok false):=id rfl
@[simp] theorem fS (a b:E):tst P cl σ (.orr a b)=(tst P cl σ a >>= λx=>if x then .ok true else tst P cl σ b):=id rfl
@[simp] theorem aOg (d:D):tst P cl σ (.c d)=gH (.cl d):=id rfl
@[simp] theorem aHf (i:Nat):tst P cl σ (.v i)=(bY σ i >>= λx=>gH x):=id rfl
@[simp] theorem dD (o:CmpOp) (a b:E):tst P cl σ (.cmp o a b)=(ev P cl σ a >>= λx=>ev P cl σ b >>= λy=>match cG o x.d y.d with|some k=>.ok k|none=>.bad):=id rfl
@[simp] theorem mD (o o':CmpOp) (a b c:E):tst P cl σ (.cmp2 o o' a b c)=(ev P cl σ a >>= λx=>ev P cl σ b >>= λy=>match cG o x.d y.d with
 | some true=>ev P cl σ c >>= λz=>(match cG o' y.d z.d with|some k=>.ok k|none=>.bad)
 | some false=>.ok false
 | none=>.bad):=id rfl
@[simp] theorem hX (f:Nat) (es:Es):tst P cl σ (.call f es)=(evs P cl σ es >>= λvs=>cl f (vs.map (·.d)) >>= λr=>gH (iI vs r)):=id rfl
@[simp] theorem aBh (a:E) (cs:List Cl):tst P cl σ (.isi a cs)=(ev P cl σ a >>= λx=>match isI cs P x.d with|some k=>.ok k|none=>.bad):=id rfl
@[simp] theorem aMC (a b:E):tst P cl σ (.idx a b)=(ev P cl σ a >>= λx=>ev P cl σ b >>= λy=>eE x y >>= λz=>gH z):=id rfl
@[simp] theorem aEx:tsts P cl σ .z=.ok true:=id rfl
@[simp] theorem tH (e:E) (es:Es):tsts P cl σ (.k e es)=(tst P cl σ e >>= λx=>if x then tsts P cl σ es else .ok false):=id rfl
@[simp] theorem xT (a b:E):walk P cl σ (.rng a b)=(ev P cl σ a >>= λx=>ev P cl σ b >>= λy=>match x.d,y.d with|.int i,.int j=>.iff (aN i&&aN j) (.ok ((fM i j).map .cl,[]))|_,_=>.bad):=id rfl
@[simp] theorem cE (e:E):walk P cl σ (.seq e)=(ev P cl σ e >>= λx=>match x.d with
 | .lst ds=>.ok (items x ds,x.al)
 | .tup ds=>.ok (items x ds,x.al)
 | .str a=>.iff (decide (a.length<=lim)) (.ok (a.cps.toList.map λn=>.cl (.str ⟨#[n]⟩),[]))
 | _=>.bad):=id rfl
@[simp] theorem jJ (a b:E):walk P cl σ (.zip a b)=(ev P cl σ a >>= λx=>ev P cl σ b >>= λy=>match iZ x.d,iZ y.d with
 | some as,some bs=>.ok (items ⟨.non,false,x.pa||y.pa,x.al++y.al⟩ (fC as bs),x.al++y.al)
 | _,_=>.bad):=id rfl
@[simp] theorem fO (t:T) (e:E):ex P cl σ (.set t e)=O.from σ (ev P cl σ e) λv=>O.from σ (cI (freeze σ v.al) v t) .next:=id rfl
@[simp] theorem aJp (i:Nat) (e:E):ex P cl σ (.app i e)=O.from σ (ev P cl σ e) λv=>put σ i v λds=>some (ds++[v.d]):=id rfl
@[simp] theorem aEy (i:Nat) (e:E):ex P cl σ (.ext i e)=O.from σ (ev P cl σ e) λv=>match pR v with|some (v',ds')=>put σ i v' λds=>some (ds++ds')|none=>.bad:=id rfl
@[simp] theorem aNB (i:Nat):ex P cl σ (.clr i)=put σ i (.cl .non) λ_=>some []:=id rfl
@[simp] theorem aEz (i:Nat) (k e:E):ex P cl σ (.setIx i k e)=O.from σ (ev P cl σ e) λv=>O.from σ (ev P cl σ k) λkv=>match kv.d with
 | .int k=>put σ i v λds=>(match ixN ds.length k with|some j=>some (ds.set j v.d)|none=>none)
 | _=>.bad:=id rfl
@[simp] theorem uW (e:E):ex P cl σ (.ret e)=O.from σ (ev P cl σ e) .ret:=id rfl
@[simp] theorem eU (c:E) (a b:Ss):ex P cl σ (.iff c a b)=O.from σ (tst P cl σ c) λk=>if k then exs P cl σ a else exs P cl σ b:=id rfl
theorem jK(t:T)(it:It)(b:Ss):ex P cl σ (.for t it b)=O.from σ (walk P cl σ it) λxs=>eF (λσ x=>O.from σ (cI σ x t) λσ'=>exs P cl σ' b) xs.1 (freeze σ xs.2):=rfl
@[simp] theorem aNC (i j:Nat):ex P cl σ (.mov i j)=(match σ[j]? with
 | some (.own pa ds)=>if i=j then .bad else .next ((σ.set j .x).set i (.own pa ds))
 | some (.sh pa d)=>.next (σ.set i (.sh (pa&&!noL d) d))
 | _=>.bad):=id rfl
@[simp] theorem oU (i:Nat):ex P cl σ (.retv i)=(match σ[i]? with|some (.own pa ds)=>.ret ⟨.lst ds,true,pa,[]⟩|_=>O.from σ (bY σ i) .ret):=id rfl
@[simp] theorem aLV (i:Nat) (k:E):ex P cl σ (.pop none i (some k))=O.from σ (ev P cl σ k >>= λv=>match v.d with|.int k=>.iff (aN k) (.ok (some k))|_=>.bad) λk=>O.from σ (aDr σ i k) λr=>.next r.2:=id rfl
@[simp] theorem eV:exs P cl σ .z=.next σ:=id rfl
@[simp] theorem bZ (s:S) (ss:Ss):exs P cl σ (.k s ss)=(ex P cl σ s).on λσ'=>exs P cl σ' ss:=id rfl
end
theorem aG{P:Pg}{cl:Caller}{f:Nat}{F:Fn}{ds:List D}(hF:P.fns[f]? = some F)(hl:ds.length=F.np){v:Vl}
 (h:exs P cl ((ds.map λd=>Sl.sh true d)++List.replicate (F.ns-F.np) Sl.x) F.body=.ret v):uH P cl f ds=.ok (v.d,v.fr,v.pa):=by
 unfold uH
 rw[hF]
 simp only[hl,if_true,h]
theorem xU{f:Sg->Vl->O}:∀(xs:List Vl) (I:Nat->Sg->Prop) (σ:Sg),I 0 σ->(∀(i:Nat) (h:i<xs.length) (σ:Sg),I i σ->∃σ',f σ xs[i]=.next σ'/\I (i+1) σ')->∃σ',eF f xs σ=.next σ'/\I xs.length σ'
 | [],I,σ,h0,_=>⟨σ,rfl,h0⟩
 | x::xs,I,σ,h0,hs=>by
  obtain⟨σ1,e1,h1⟩:=hs 0 (by simp) σ h0
  obtain⟨σ2,e2,h2⟩:=xU xs (λi=>I (i+1)) σ1 h1 λi h σ hI=>by
   have:=hs (i+1) (by simpa using h) σ hI
   simpa using this
  refine⟨σ2,?_,by simpa using h2⟩
  have e1:f σ x=.next σ1:=by simpa using e1
  unfold eF
  rw[e1]
  exact e2
theorem qZ{f:Vl->R (Option Vl)}{g:Vl->Vl}:∀{xs:List Vl},(∀x∈xs,f x=.ok (some (g x)))->eR f xs=.ok (xs.map g)
 | [],_=>rfl
 | x::xs,h=>by
  have h1:=h x Al
  have h2:=qZ (f:=f) (g:=g) (xs:=xs) λy hy=>h y (Ag _ hy)
  show(f x >>= λy=>eR f xs >>= λys=>(match y with|some y=>R.ok (y::ys)|none=>R.ok ys))=_
  rw[h1,h2]
  rfl
theorem aJq(n:Nat):(fM 0 (n:Int)).map Vl.cl=(List.range n).map λ(k:Nat)=>Vl.cl (.int (k:Int)):=by
 unfold fM
 rw[A3]
 simp
theorem mE{P:Pg}{cl:Caller}{σ:Sg}{k:Nat}{caps:List Nat}{t:T}{it:It}{elt:E}{xs:List Vl}{al:List Nat}(g:Vl->Vl)(hw:walk P cl σ it=.ok (xs,al))(hl:xs.length<=lim)
 (hb:∀x∈xs,∃σ1,cI (List.replicate k .x++caps.map λi=>((freeze σ al)[i]?).getD .x) x t=.ok σ1/\ev P cl σ1 elt=.ok (g x)):ev P cl σ (.comp k caps t it .z elt)=.ok (fQ k caps al (xs.map g)):=by
 rw[oT,hw,aA,qZ (g:=g) λx hx=>by
  obtain⟨σ1,e1,e2⟩:=hb x hx
  show(cI _ x t >>= λσ1=>_)=_
  rw[e1]
  show(ev P cl σ1 elt >>= λy=>R.ok (some y))=_
  rw[e2]
  rfl]
 have hl2:decide ((xs.map g).length<=lim)=true:=Am (by rw[lM];exact hl)
 rw[aA,hl2,xR]
theorem dJ{P:Pg}{cl:Caller}{σ:Sg}{t:T}{it:It}{b:Ss}{xs:List Vl}{al:List Nat}(I:Nat->Sg->Prop)(hw:walk P cl σ it=.ok (xs,al))(h0:I 0 (freeze σ al))
 (hs:∀(i:Nat) (h:i<xs.length) (σ:Sg),I i σ->∃σ1 σ',cI σ xs[i] t=.ok σ1/\exs P cl σ1 b=.next σ'/\I (i+1) σ'):∃σ',ex P cl σ (.for t it b)=.next σ'/\I xs.length σ':=by
 rw[jK,hw]
 refine xU xs I _ h0 λi h σ hI=>?_
 obtain⟨σ1,σ',e1,e2,h'⟩:=hs i h σ hI
 refine⟨σ',?_,h'⟩
 show O.from σ (cI σ xs[i] t) _=_
 rw[e1]
 exact e2
theorem aGr:aN 0=true:=by decide
theorem fG{n:Nat}(hn:n<=1000000):aN (n:Int)=true:=by
 unfold aN
 rw[bA,A1,A1]
 exact⟨Int.le_trans (b:=0) (by decide) (Int.natCast_nonneg n),Int.lt_of_le_of_lt (b:=1000000) (by omega) (by decide)⟩
theorem aGs{n:Int}(h0:0<=n)(hn:n<=1000000):aN n=true:=by
 have:=fG (n:=n.toNat) (by omega)
 rwa [B2 h0] at this
theorem cR{P:Pg}{cl:Caller}{σ:Sg}{a:E}{v:Vl}{n:Nat}(h:ev P cl σ a=.ok v)(hd:v.d=.int n)(hn:n<=1000000):walk P cl σ (.rng (.c (.int 0)) a)=.ok ((List.range n).map λ(k:Nat)=>Vl.cl (.int (k:Int)),[]):=by
 rw[xT,h,aC,aA,aA,hd,<-aJq]
 show R.iff (aN 0&&aN (n:Int)) _=_
 rw[aGr,fG hn]
 rfl
theorem tJ{k:Nat}{caps al:List Nat}{vs:List Vl}(h:noLs (vs.map (·.d))=true):fQ k caps al vs=⟨.lst (vs.map (·.d)),true,false,[]⟩:=by
 unfold fQ
 rw[if_pos h]
end Hp
end
noncomputable section
namespace HpS
open Hp PySem
def box(b:Str×Int):D:=.tup [.str b.1,.int b.2]
def aB(bs:List (Str×Int)):List D:=bs.map box
def aO(is:List Int):D:=.tup (is.map D.int)
structure aGt (bs:List (Str×Int)):Prop where
 few:bs.length<=5
 one:∀b∈bs,1<=b.2/\b.2<=7
 room:(bs.map λb=>b.2+1).foldl (·*·) 1<=24
def iR(bs:List (Str×Int)):Int:=(bs.map λb=>b.2+1).foldl (·*·) 1
theorem jL:∀is:List Int,noLs (is.map D.int)=true
 | []=>rfl
 | i::is=>by simp[noLs,noL,jL is]
@[simp] theorem aR (is:List Int):noL (aO is)=true:=by simp[aO,noL,jL]
@[simp] theorem mF (b:Str×Int):noL (box b)=true:=by simp[box,noL,noLs]
theorem jM:∀ss:List (List Int),noLs (ss.map aO)=true
 | []=>rfl
 | s::ss=>by simp[noLs,jM ss]
theorem xV{v:Vl}(bs:List (Str×Int)):items v (aB bs)=bs.map λb=>Vl.cl (box b):=by
 simp[items,aB,Vl.sub,Function.comp_def]
theorem uX:∀(xs:List Int) (a:Int),1<=a->(∀x∈xs,1<=x)->a<=xs.foldl (·*·) a
 | [],a,_,_=>Int.le_refl _
 | x::xs,a,ha,h=>by
  have hx:=h x Al
  have h1:a<=a*x:=by
   have:=Int.mul_le_mul_of_nonneg_left hx (show 0<=a by omega)
   omega
  exact Int.le_trans h1 (uX xs (a*x) (by omega) λy hy=>h y (Ag _ hy))
theorem uY(bs:List (Str×Int))(h:∀b∈bs,1<=b.2)(i:Nat):1<=iR (bs.take i)/\iR (bs.take i)<=iR bs:=by
 have pos:∀(l:List (Str×Int)),(∀b∈l,1<=b.2)->∀x∈l.map (λb=>b.2+1),1<=x:=λl hl x hx=>by
  obtain⟨b,hb,rfl⟩:=A6.mp hx
  have:=hl b hb
  omega
 have e:bs=bs.take i++bs.drop i:=(List.take_append_drop i bs).symm
 have h1:1<=iR (bs.take i):=uX _ 1 (by omega) (pos _ λb hb=>h b (List.mem_of_mem_take hb))
 refine⟨h1,?_⟩
 have:iR bs=((bs.drop i).map λb=>b.2+1).foldl (·*·) (iR (bs.take i)):=by
  unfold iR
  conv=>lhs;rw[e,Ay,Ds]
 rw[this]
 exact uX _ _ h1 (pos _ λb hb=>h b (List.mem_of_mem_drop hb))
theorem aCs{bs:List (Str×Int)}{i:Nat}(h:i<bs.length):iR (bs.take (i+1))=iR (bs.take i)*(bs[i].2+1):=by
 rw[Co h]
 unfold iR
 rw[Ay,Ds]
 rfl
def uZ:Fn:=⟨1,6,
 (.k (.set (.n 1) (.lst (.k (.tup .z) .z)))
 (.k (.for (.t [2,3]) (.seq (.v 0))
  (.k (.set (.n 4) (.lst .z))
  (.k (.for (.n 5) (.seq (.v 1))
   (.k (.ext 4 (.comp 1 [5] (.n 0) (.rng (.c (.int 0)) (.op .Add (.v 3) (.c (.int 1)))) .z (.op .Add (.v 1) (.tup (.k (.v 0) .z)))))
   .z))
  (.k (.mov 1 4)
  .z))))
 (.k (.retv 1)
 .z)))⟩
def eD(b:List Int)(top:Int):List (List Int):=(List.range (top+1).toNat).map λ(h:Nat)=>b++[(h:Int)]
def jN(found:List (List Int))(top:Int):List (List Int):=found.flatMap λb=>eD b top
def standsL(bs:List (Str×Int)):List (List Int):=bs.foldl (λfound b=>jN found b.2) [[]]
theorem fT{bs:List (Str×Int)}{i:Nat}(h:i<bs.length):standsL (bs.take (i+1))=jN (standsL (bs.take i)) bs[i].2:=by
 rw[Co h]
 unfold standsL
 rw[Ds]
 rfl
theorem aAl(found:List (List Int))(top:Int):(jN found top).length=found.length*(top+1).toNat:=by
 induction found with
 | nil=>simp[jN]
 | cons b r ih=>
  unfold jN at ih ⊢
  rw[List.flatMap_cons,lA,ih,lC,Nat.succ_mul]
  simp[eD]
  omega
theorem aAm{bs:List (Str×Int)}(h:aGt bs):∀i,i<=bs.length->((standsL (bs.take i)).length:Int)=iR (bs.take i)/\∀s∈standsL (bs.take i),s.length=i
 | 0,_=>by simp[standsL,iR]
 | i+1,hi=>by
  have hi':i<bs.length:=by omega
  obtain⟨h1,h2⟩:=aAm h i (by omega)
  obtain⟨g2,g3⟩:=h.one bs[i] (Ba hi')
  rw[fT hi',aCs hi',aAl]
  refine⟨?_,λs hs=>?_⟩
  . rw[Int.natCast_mul,h1,B2 (by omega)]
  . obtain⟨b,hb,hs⟩:=List.mem_flatMap.mp hs
    obtain⟨k,_,rfl⟩:=A6.mp hs
    rw[lA,h2 b hb];rfl
theorem aHg{bs:List (Str×Int)}(h:aGt bs)(i:Nat)(hi:i<=bs.length):(standsL (bs.take i)).length<=24:=by
 have h1:=(aAm h i hi).1
 have h2:=(uY bs (λb hb=>(h.one b hb).1) i).2
 have h3:iR bs<=24:=h.room
 omega
theorem oA{found:List (List Int)}{top:Int}{j:Nat}(h:j<found.length):(found.take (j+1)).flatMap (λb=>eD b top)=(found.take j).flatMap (λb=>eD b top)++eD found[j] top:=by
 rw[Co h,List.flatMap_append]
 simp
theorem oV{found:List (List Int)}{top:Int}(j:Nat):((found.take j).flatMap λb=>eD b top).length<=(jN found top).length:=by
 have e:found=found.take j++found.drop j:=(List.take_append_drop j found).symm
 unfold jN
 conv=>rhs;rw[e,List.flatMap_append,lA]
 omega
theorem vC{v:Vl}(ss:List (List Int)):items v (ss.map aO)=ss.map λs=>Vl.cl (aO s):=by
 simp[items,Vl.sub,Function.comp_def]
theorem aEA{P:Pg}(n:Nat){s0 s1 s2 s4:Sl}{b:List Int}{top:Int}(ht:1<=top)(ht7:top<=7)(hb:b.length<=10) :
 ev P (call P n) [s0,s1,s2,.sh false (.int top),s4,.sh false (aO b)] (.comp 1 [5] (.n 0) (.rng (.c (.int 0)) (.op .Add (.v 3) (.c (.int 1)))) .z (.op .Add (.v 1) (.tup (.k (.v 0) .z))))=.ok ⟨.lst ((eD b top).map aO),true,false,[]⟩:=by
 have hw:walk P (call P n) [s0,s1,s2,.sh false (.int top),s4,.sh false (aO b)] (.rng (.c (.int 0)) (.op .Add (.v 3) (.c (.int 1))))=.ok ((List.range (top+1).toNat).map λ(k:Nat)=>Vl.cl (.int (k:Int)),[]):=by
  refine cR (v:=.cl (.int (top+1))) ?_ ?_ (by omega)
  . simp[bY,Sl.val,opD,Vl.cl,noL]
  . show D.int (top+1)=D.int ((top+1).toNat:Int)
    rw[B2 (by omega)]
 rw[mE (λv=>match v.d with|.int k=>.cl (aO (b++[k]))|_=>.cl .non) hw]
 . have e:(((List.range (top+1).toNat).map λ(k:Nat)=>Vl.cl (.int (k:Int))).map λv=>(match v.d with|.int k=>Vl.cl (aO (b++[k]))|_=>Vl.cl .non)).map (·.d)=(eD b top).map aO:=by
    simp[eD,Vl.cl,Function.comp_def]
   rw[tJ (by rw[e];exact jM _),e]
 . simp only[lM,Cf];unfold lim;omega
 . intro y hy
   obtain⟨k,hk,rfl⟩:=A6.mp hy
   have hl:b.length+1<=lim:=by unfold lim;omega
   refine⟨[.sh false (.int k),.sh false (aO b)],?_,?_⟩
   . simp[cI,Vl.cl,Vl.slot,freeze]
   . simp[bY,Sl.val,Vl.cl,opD,sK,dZ,bT,aO,noL,hl,jL]
theorem aCt{P:Pg}{f:Nat}(hF:P.fns[f]? = some uZ)(n:Nat){bs:List (Str×Int)}(h:aGt bs):call P (n+1) f [.lst (aB bs)]=.ok (.lst ((standsL bs).map aO),true,false):=by
 obtain⟨σ',e,hI⟩:=dJ (P:=P) (cl:=call P n) (σ:=[.sh true (.lst (aB bs)),.own false [.tup []],.x,.x,.x,.x]) (t:=.t [2,3]) (it:=.seq (.v 0))
  (b:=.k (.set (.n 4) (.lst .z)) (.k (.for (.n 5) (.seq (.v 1)) (.k (.ext 4 (.comp 1 [5] (.n 0) (.rng (.c (.int 0)) (.op .Add (.v 3) (.c (.int 1)))) .z (.op .Add (.v 1) (.tup (.k (.v 0) .z))))) .z)) (.k (.mov 1 4) .z)))
  (xs:=bs.map λb=>Vl.cl (box b)) (al:=[])
  (λi σ=>∃s2 s3 s4 s5,σ=[.sh true (.lst (aB bs)),.own false ((standsL (bs.take i)).map aO),s2,s3,s4,s5])
  (by simp[bY,Sl.val,xV]) ⟨_,_,_,_,rfl⟩ (λi hi σ hσ=>by
   obtain⟨s2,s3,s4,s5,rfl⟩:=hσ
   have hi':i<bs.length:=by simpa using hi
   obtain⟨g2,g3⟩:=h.one bs[i] (Ba hi')
   have hl24:=aHg h (i+1) hi'
   rw[fT hi'] at hl24
   obtain⟨_,hlen⟩:=aAm h i (by omega)
   have hfew:=h.few
   obtain⟨σ2,e2,hJ⟩:=dJ (P:=P) (cl:=call P n) (σ:=[.sh true (.lst (aB bs)),.own false ((standsL (bs.take i)).map aO),.sh false (.str bs[i].1),.sh false (.int bs[i].2),.own false [],s5]) (t:=.n 5) (it:=.seq (.v 1))
    (b:=.k (.ext 4 (.comp 1 [5] (.n 0) (.rng (.c (.int 0)) (.op .Add (.v 3) (.c (.int 1)))) .z (.op .Add (.v 1) (.tup (.k (.v 0) .z))))) .z)
    (xs:=(standsL (bs.take i)).map λs=>Vl.cl (aO s)) (al:=[1])
    (λj σ=>∃s5,σ=[.sh true (.lst (aB bs)),.sh false (.lst ((standsL (bs.take i)).map aO)),.sh false (.str bs[i].1),.sh false (.int bs[i].2),.own false ((((standsL (bs.take i)).take j).flatMap λb=>eD b bs[i].2).map aO),s5])
    (by simp[bY,Sl.val,vC]) ⟨_,by simp[freeze,Sl.freeze];rfl⟩ (λj hj σ hσ=>by
     obtain⟨s5,rfl⟩:=hσ
     have hj':j<(standsL (bs.take i)).length:=by simpa using hj
     have hb:(standsL (bs.take i))[j].length<=10:=by rw[hlen _ (Ba hj')];omega
     have hc:=aEA (P:=P) n (s0:=.sh true (.lst (aB bs))) (s1:=.sh false (.lst ((standsL (bs.take i)).map aO))) (s2:=.sh false (.str bs[i].1)) (s4:=.own false ((((standsL (bs.take i)).take j).flatMap λb=>eD b bs[i].2).map aO)) (b:=(standsL (bs.take i))[j]) g2 g3 hb
     have hle:=oV (found:=standsL (bs.take i)) (top:=bs[i].2) (j+1)
     rw[oA hj',lA] at hle
     have hlim:((((standsL (bs.take i)).take j).flatMap λb=>eD b bs[i].2).map aO++(eD (standsL (bs.take i))[j] bs[i].2).map aO).length<=lim:=by
      rw[lA,lM,lM];unfold lim;omega
     refine⟨[.sh true (.lst (aB bs)),.sh false (.lst ((standsL (bs.take i)).map aO)),.sh false (.str bs[i].1),.sh false (.int bs[i].2),.own false ((((standsL (bs.take i)).take j).flatMap λb=>eD b bs[i].2).map aO),.sh false (aO (standsL (bs.take i))[j])],
      [.sh true (.lst (aB bs)),.sh false (.lst ((standsL (bs.take i)).map aO)),.sh false (.str bs[i].1),.sh false (.int bs[i].2),.own false ((((standsL (bs.take i)).take (j+1)).flatMap λb=>eD b bs[i].2).map aO),.sh false (aO (standsL (bs.take i))[j])],?_,?_,⟨_,rfl⟩⟩
     . simp[cI,Vl.cl,Vl.slot]
     . rw[bZ,aEy,hc,bJ]
       show(match pR ⟨.lst ((eD (standsL (bs.take i))[j] bs[i].2).map aO),true,false,[]⟩ with|some (v',ds')=>put _ 4 v' λds=>some (ds++ds')|none=>.bad).on _=_
       simp only[pR,jM,if_true]
       unfold put
       simp only[freeze,lR,gS,gZ]
       rw[if_pos hlim]
       simp[oA hj'])
   obtain⟨s5',rfl⟩:=hJ
   refine⟨[.sh true (.lst (aB bs)),.own false ((standsL (bs.take i)).map aO),.sh false (.str bs[i].1),.sh false (.int bs[i].2),s4,s5],[.sh true (.lst (aB bs)),.own false ((standsL (bs.take (i+1))).map aO),.sh false (.str bs[i].1),.sh false (.int bs[i].2),.x,s5'],?_,?_,⟨_,_,_,_,rfl⟩⟩
   . simp[cI,box,Vl.cl,Vl.sub,noL,Vl.slot]
   . have et:(standsL (bs.take i)).take ((standsL (bs.take i)).map λs=>Vl.cl (aO s)).length=standsL (bs.take i):=by simp
     rw[et] at e2
     simp[pP,dZ,bT,cI,freeze,Vl.slot,e2,fT hi',jN])
 obtain⟨s2,s3,s4,s5,rfl⟩:=hI
 have et:bs.take (bs.map λb=>Vl.cl (box b)).length=bs:=by simp
 rw[et] at e
 refine aG (F:=uZ) hF rfl (v:=⟨.lst ((standsL bs).map aO),true,false,[]⟩) ?_
 simp[uZ,pP,sK,dZ,bT,cI,freeze,Vl.slot,e]
end HpS
end
noncomputable section
namespace Hp
open PySem (Str)
@[simp] theorem aMD (d:D):(⟨d,false,false,[]⟩:Vl)=.cl d:=id rfl
@[simp] theorem dE (d:D):(Vl.cl d).d=d:=id rfl
@[simp] theorem aOh (d:D):(Vl.cl d).fr=false:=id rfl
@[simp] theorem xW (d:D):(Vl.cl d).pa=false:=id rfl
@[simp] theorem hZ (d:D):(Vl.cl d).al=[]:=id rfl
@[simp] theorem dO (d:D):(Vl.cl d).slot=.sh false d:=by cases d <;> rfl
@[simp] theorem aGu (ds:List D) (pa:Bool) (al:List Nat):(⟨.lst ds,true,pa,al⟩:Vl).slot=.own pa ds:=id rfl
@[simp] theorem bU (i:Nat) (d:D):Sl.val i (.sh false d)=.ok (.cl d):=id rfl
@[simp] theorem oW (i:Nat) (pa:Bool) (k:Int):Sl.val i (.sh pa (.int k))=.ok (.cl (.int k)):=by cases pa <;> rfl
@[simp] theorem oX (i:Nat) (pa:Bool) (k:Str):Sl.val i (.sh pa (.str k))=.ok (.cl (.str k)):=by cases pa <;> rfl
@[simp] theorem nL (i:Nat) (pa:Bool) (k:Bool):Sl.val i (.sh pa (.bl k))=.ok (.cl (.bl k)):=by cases pa <;> rfl
@[simp] theorem aME (i:Nat) (pa:Bool):Sl.val i (.sh pa .non)=.ok (.cl .non):=by cases pa <;> rfl
@[simp] theorem oY (i:Nat) (ds:List D):Sl.val i (.sh true (.lst ds))=.ok ⟨.lst ds,false,true,[]⟩:=id rfl
theorem dP(i:Nat)(pa:Bool){d:D}(h:noL d=true):Sl.val i (.sh pa d)=.ok (.cl d):=by unfold Sl.val;simp[h]
@[simp] theorem aBi (i:Nat) (pa:Bool) (ds:List D):Sl.val i (.own pa ds)=.ok ⟨.lst ds,false,pa,[i]⟩:=id rfl
@[simp] theorem kN (σ:Sg) (v:Vl) (i:Nat):cI σ v (.n i)=.ok (σ.set i v.slot):=id rfl
@[simp] theorem cP (σ:Sg):freeze σ []=σ:=id rfl
@[simp] theorem vD (b:Bool):gH (.cl (.bl b))=.ok b:=id rfl
@[simp] theorem lI (args:List Vl) (d:D):iI args (d,false,false)=.cl d:=id rfl
@[simp] theorem aND (args:List Vl) (d:D):iI args (d,true,false)=⟨d,true,false,[]⟩:=id rfl
@[simp] theorem fP (a b:D):cG .Eq a b=eqD a b:=id rfl
@[simp] theorem vE (a b:D):cG .NotEq a b=(eqD a b).map (!·):=id rfl
@[simp] theorem aJr (a b:Int):cG .Lt (.int a) (.int b)=some (decide (a<b)):=id rfl
@[simp] theorem aNE (a b:Int):cG .Gt (.int a) (.int b)=some (decide (b<a)):=id rfl
@[simp] theorem aEB (a b:Int):cG .LtE (.int a) (.int b)=some (decide (a<=b)):=id rfl
@[simp] theorem aJs (a b:Int):cG .GtE (.int a) (.int b)=some (decide (b<=a)):=id rfl
@[simp] theorem gM (a b:Int):eqD (.int a) (.int b)=some (a==b):=id rfl
@[simp] theorem gN (a b:Str):eqD (.str a) (.str b)=some (a==b):=id rfl
@[simp] theorem aNF (a b:Bool):eqD (.bl a) (.bl b)=some (a==b):=id rfl
@[simp] theorem aMF (P:Pg) (k:Int):isI [.tInt] P (.int k)=some true:=id rfl
@[simp] theorem aLW (P:Pg) (k:Int):isI [.tBool] P (.int k)=some false:=id rfl
@[simp] theorem aBj (P:Pg) (k:Str):isI [.tStr] P (.str k)=some true:=id rfl
@[simp] theorem aBk (P:Pg) (k:List D):isI [.tTuple] P (.tup k)=some true:=id rfl
@[simp] theorem aMG (P:Pg) (k:List D):isI [.tList] P (.lst k)=some true:=id rfl
@[simp] theorem aNG (P:Pg) (k:Bool):isI [.tBool] P (.bl k)=some true:=id rfl
@[simp] theorem add_int (i j:Int):opD .Add (.cl (.int i)) (.cl (.int j))=.ok (.cl (.int (i+j))):=id rfl
@[simp] theorem sub_int (i j:Int):opD .Sub (.cl (.int i)) (.cl (.int j))=.ok (.cl (.int (i-j))):=id rfl
theorem mul_int{i j:Int}(h:gY i j=true):opD .Mult (.cl (.int i)) (.cl (.int j))=.ok (.cl (.int (i*j))):=by
 show R.iff (gY i j) _=_
 rw[h];rfl
theorem oZ{i j:Int}(h:wM j=true):opD .FloorDiv (.cl (.int i)) (.cl (.int j))=.ok (.cl (.int (i / j))):=by
 show R.iff (wM j) _=_
 rw[h];rfl
theorem aBl{i j:Int}(h:0<j):opD .Mod (.cl (.int i)) (.cl (.int j))=.ok (.cl (.int (i % j))):=by
 show R.iff (decide (0<j)) _=_
 rw[Am h];rfl
@[simp] theorem mH (ds:List D) (fr pa:Bool) (al:List Nat):biD .len [⟨.lst ds,fr,pa,al⟩]=.ok (.cl (.int ds.length)):=id rfl
@[simp] theorem gO (ds:List D):biD .len [.cl (.tup ds)]=.ok (.cl (.int ds.length)):=id rfl
@[simp] theorem aLX (ds:List D):biD .len [.cl (.lst ds)]=.ok (.cl (.int ds.length)):=id rfl
end Hp
end
noncomputable section
namespace HpS
open Hp PySem
section
variable {P:Pg} {cl:Caller} {σ σ':Sg}
theorem cs{s:S}{ss:Ss}{o:O}(h:ex P cl σ s=.next σ')(r:exs P cl σ' ss=o):exs P cl σ (.k s ss)=o:=by rw[bZ,h,rY,r]
theorem aV{i:Nat}{e:E}{d:D}(h:ev P cl σ e=.ok (.cl d)):ex P cl σ (.set (.n i) e)=.next (σ.set i (.sh false d)):=by rw[fO,h,bJ,hZ,cP,kN,bJ,dO]
theorem aS{e:E}{ss:Ss}{v:Vl}(h:ev P cl σ e=.ok v):exs P cl σ (.k (.ret e) ss)=.ret v:=by rw[bZ,uW,h];rfl
theorem bV{c:E}{a:Ss}(h:tst P cl σ c=.ok false):ex P cl σ (.iff c a .z)=.next σ:=by rw[eU,h];rfl
theorem eG{c:E}{a b ss:Ss}{v:Vl}(h:tst P cl σ c=.ok true)(r:exs P cl σ a=.ret v):exs P cl σ (.k (.iff c a b) ss)=.ret v:=by
 rw[bZ,eU,h,bJ,if_pos rfl,r];rfl
theorem bE{a b:E}{x y z:Vl}(h:ev P cl σ a=.ok x)(k:ev P cl σ b=.ok y)(e:eE x y=.ok z):ev P cl σ (.idx a b)=.ok z:=by rw[iQ,h,aA,k,aA,e]
theorem dG{a:E}{w x:Str}{b:Bool}(h:ev P cl σ a=.ok (.cl (.str w)))(q:(w==x)=b):tst P cl σ (.cmp .Eq a (.c (.str x)))=.ok b:=by
 rw[dD,h,aA,aC,aA,dE,dE,fP,gN,q]
theorem bW{f:Nat}{a b c:E}{x y z:Vl}{d:D}(h1:ev P cl σ a=.ok x)(h2:ev P cl σ b=.ok y)(h3:ev P cl σ c=.ok z)(hc:cl f [x.d,y.d,z.d]=.ok (d,false,false)):ev P cl σ (.call f (.k a (.k b (.k c .z))))=.ok (.cl d):=by
 have e:evs P cl σ (.k a (.k b (.k c .z)))=.ok [x,y,z]:=by rw[aH,h1,aA,aH,h2,aA,aH,h3,aA,bI];rfl
 rw[dC,e,aA,show [x,y,z].map (·.d)=[x.d,y.d,z.d] from rfl,hc];rfl
theorem v0_{d:D}{r:Sg}(h:noL d=true):ev P cl (.sh true d::r) (.v 0)=.ok (.cl d):=dP 0 true h
theorem v1_{s:Sl}{d:D}{r:Sg}(h:noL d=true):ev P cl (s::.sh true d::r) (.v 1)=.ok (.cl d):=dP 1 true h
theorem v2_{s t:Sl}{d:D}{r:Sg}(h:noL d=true):ev P cl (s::t::.sh true d::r) (.v 2)=.ok (.cl d):=dP 2 true h
theorem aBm{t a b:E}{k:Bool}{v:Vl}(h:tst P cl σ t=.ok k)(r:(if k then ev P cl σ a else ev P cl σ b)=.ok v):ev P cl σ (.ife t a b)=.ok v:=by rw[aAj,h,aA,r]
theorem aJt{a:E}{k:Bool}(h:ev P cl σ a=.ok (.cl (.bl k))):ev P cl σ (.nt a)=.ok (.cl (.bl !k)):=by rw[aLT,h];rfl
theorem aEC{a b:E}{x y:Bool}(h1:ev P cl σ a=.ok (.cl (.bl x)))(h2:ev P cl σ b=.ok (.cl (.bl y))):ev P cl σ (.an a b)=.ok (.cl (.bl (x&&y))):=by
 rw[aLU,h1,aA];cases x
 . rfl
 . exact h2
theorem aLY{a b:E}{x y:Bool}(h1:ev P cl σ a=.ok (.cl (.bl x)))(h2:ev P cl σ b=.ok (.cl (.bl y))):ev P cl σ (.orr a b)=.ok (.cl (.bl (x||y))):=by
 rw[aJm,h1,aA];cases x
 . exact h2
 . rfl
theorem fA{o:Operator}{a b:E}{x y z:Vl}(h:ev P cl σ a=.ok x)(k:ev P cl σ b=.ok y)(e:opD o x y=.ok z):ev P cl σ (.op o a b)=.ok z:=by rw[xS,h,aA,k,aA,e]
theorem kO{o:CmpOp}{a b:E}{x y:Vl}{k:Bool}(h:ev P cl σ a=.ok x)(g:ev P cl σ b=.ok y)(e:cG o x.d y.d=some k):ev P cl σ (.cmp o a b)=.ok (.cl (.bl k)):=by rw[aJn,h,aA,g,aA,e]
theorem eW{b:Bi}{a:E}{x z:Vl}(h:ev P cl σ a=.ok x)(e:biD b [x]=.ok z):ev P cl σ (.bi b (.k a .z))=.ok z:=by
 have h2:evs P cl σ (.k a .z)=.ok [x]:=by rw[aH,h];rfl
 rw[qY,h2,aA,e]
end
end HpS
end
noncomputable section
namespace Hp
open PySem (Str)
theorem bP{α:Type}{g:α->D}(ng:∀t,noL (g t)=true):∀ts:List α,noLs (ts.map g)=true
 | []=>rfl
 | t::ts=>by rw[mC,noLs,ng t,bP ng ts];rfl
theorem mI{α:Type}{F:Vl->R (Option Vl)}{f:α->Vl}{g:α->D}{p:α->Bool}:∀{ts:List α},(∀t∈ts,F (f t)=.ok (if p t then some (.cl (g t)) else none))->eR F (ts.map f)=.ok ((ts.filter p).map λt=>.cl (g t))
 | [],_=>rfl
 | t::ts,h=>by
  have h1:=h t Al
  have h2:=mI (F:=F) (f:=f) (g:=g) (p:=p) (ts:=ts) λy hy=>h y (Ag _ hy)
  show(F (f t) >>= λy=>eR F (ts.map f) >>= λys=>(match y with|some y=>R.ok (y::ys)|none=>R.ok ys))=_
  rw[h1,h2]
  cases hp:p t with
  | true=>rw[List.filter_cons_of_pos hp];rfl
  | false=>rw[List.filter_cons_of_neg (by rw[hp];exact bN)];rfl
theorem vF{α:Type}{g:α->D}(ng:∀t,noL (g t)=true){k:Nat}{caps al:List Nat}(ts:List α):fQ k caps al (ts.map λt=>Vl.cl (g t))=⟨.lst (ts.map g),true,false,[]⟩:=by
 have e:(ts.map λt=>Vl.cl (g t)).map (·.d)=ts.map g:=by rw[A3];rfl
 rw[tJ (by rw[e];exact bP ng ts),e]
theorem gF{P:Pg}{cl:Caller}{σ:Sg}{k:Nat}{caps al:List Nat}{T:T}{it:It}{elt:E}{α:Type}{ts:List α}(f:α->Vl)(g:α->D)(ng:∀t,noL (g t)=true)(hw:walk P cl σ it=.ok (ts.map f,al))(hl:ts.length<=lim)
 (hb:∀t∈ts,∃σ1,cI (List.replicate k .x++caps.map λi=>((freeze σ al)[i]?).getD .x) (f t) T=.ok σ1/\ev P cl σ1 elt=.ok (.cl (g t))):ev P cl σ (.comp k caps T it .z elt)=.ok ⟨.lst (ts.map g),true,false,[]⟩:=by
 rw[oT,hw,aA,mI (f:=f) (g:=g) (p:=λ_=>true) λt ht=>by
  obtain⟨σ1,e1,e2⟩:=hb t ht
  show(cI _ (f t) T >>= λσ1=>_)=_
  rw[e1]
  show(ev P cl σ1 elt >>= λy=>R.ok (some y))=_
  rw[e2]
  rfl]
 have hf:ts.filter (λ_=>true)=ts:=List.filter_eq_self.mpr λ_ _=>rfl
 have hl2:decide ((ts.map λt=>Vl.cl (g t)).length<=lim)=true:=Am (by rw[lM];exact hl)
 rw[aA,hf,hl2,xR,vF ng]
theorem aJu{P:Pg}{cl:Caller}{σ:Sg}{k:Nat}{caps al:List Nat}{T:T}{it:It}{c elt:E}{α:Type}{ts:List α}(f:α->Vl)(g:α->D)(p:α->Bool)(ng:∀t,noL (g t)=true)(hw:walk P cl σ it=.ok (ts.map f,al))(hl:ts.length<=lim)
 (hb:∀t∈ts,∃σ1,cI (List.replicate k .x++caps.map λi=>((freeze σ al)[i]?).getD .x) (f t) T=.ok σ1/\tst P cl σ1 c=.ok (p t)/\ev P cl σ1 elt=.ok (.cl (g t))):ev P cl σ (.comp k caps T it (.k c .z) elt)=.ok ⟨.lst ((ts.filter p).map g),true,false,[]⟩:=by
 rw[oT,hw,aA,mI (f:=f) (g:=g) (p:=p) λt ht=>by
  obtain⟨σ1,e1,e2,e3⟩:=hb t ht
  show(cI _ (f t) T >>= λσ1=>_)=_
  rw[e1]
  show(tsts P cl σ1 (.k c .z) >>= λk=>if k then (ev P cl σ1 elt >>= λy=>R.ok (some y)) else R.ok none)=_
  rw[tH,e2,aA]
  cases hp:p t with
  | true=>rw[if_pos rfl,aEx,aA,if_pos rfl,e3];rfl
  | false=>rfl]
 have hl2:decide (((ts.filter p).map λt=>Vl.cl (g t)).length<=lim)=true:=Am (by rw[lM];exact A4 (Cv _ _) hl)
 rw[aA,hl2,xR,vF ng]
theorem cN{α:Type}{v:Vl}{g:α->D}(ng:∀t,noL (g t)=true)(ts:List α):items v (ts.map g)=ts.map λt=>Vl.cl (g t):=by
 unfold items
 rw[A3]
 refine Cq λt _=>?_
 show Vl.sub v (g t)=_
 unfold Vl.sub
 rw[if_pos (ng t)]
theorem vG{a b:D}(ha:noL a=true)(hb:noL b=true):noL (.tup [a,b])=true:=by simp[noL,noLs,ha,hb]
@[simp] theorem aMH {P:Pg} {cl:Caller} {σ:Sg} (a b:E):ev P cl σ (.lzip a b)=(ev P cl σ a >>= λx=>ev P cl σ b >>= λy=>match iZ x.d,iZ y.d with
 | some as,some bs=>.iff (decide (as.length<=lim)) (.ok (aGU x y (fC as bs)))
 | _,_=>.bad):=id rfl
end Hp
end
noncomputable section
namespace Hp
open PySem (Str Operator CmpOp)
section
variable {P:Pg} {cl:Caller} {σ:Sg}
@[simp] theorem aBn (a l:E):ev P cl σ (.sli a (.k l .z) .z)=(ev P cl σ a >>= λx=>ev P cl σ l >>= λl=>match l.d with|.int l=>.iff (aN l) (dQ x (some l) none)|_=>.bad):=by
 show(ev P cl σ a >>= λx=>evs P cl σ (.k l .z) >>= λl=>evs P cl σ .z >>= λh=>_)=_
 cases ev P cl σ a with
 | ok x=>
  show((ev P cl σ l >>= λx=>evs P cl σ .z >>= λxs=>R.ok (x::xs)) >>= λl=>_)=(ev P cl σ l >>= λl=>_)
  cases ev P cl σ l <;> rfl
 | exc e=>rfl
 | bad=>rfl
@[simp] theorem aMI (a l h:E):ev P cl σ (.sli a (.k l .z) (.k h .z))=(ev P cl σ a >>= λx=>ev P cl σ l >>= λl=>ev P cl σ h >>= λh=>match l.d,h.d with|.int l,.int h=>.iff (aN l&&aN h) (dQ x (some l) (some h))|_,_=>.bad):=by
 show(ev P cl σ a >>= λx=>evs P cl σ (.k l .z) >>= λl=>evs P cl σ (.k h .z) >>= λh=>_)=_
 cases ev P cl σ a with
 | ok x=>
  show((ev P cl σ l >>= λx=>evs P cl σ .z >>= λxs=>R.ok (x::xs)) >>= λl=>_)=(ev P cl σ l >>= λl=>_)
  cases ev P cl σ l with
  | ok l=>
   show((ev P cl σ h >>= λx=>evs P cl σ .z >>= λxs=>R.ok (x::xs)) >>= λh=>_)=(ev P cl σ h >>= λh=>_)
   cases ev P cl σ h <;> rfl
  | exc e=>rfl
  | bad=>rfl
 | exc e=>rfl
 | bad=>rfl
end
theorem eO:∀is:List Int,noLs (is.map D.int)=true
 | []=>rfl
 | i::is=>by simp[noLs,noL,eO is]
theorem gP{n k:Nat}(h:k<n):ixN n (k:Int)=some k:=by
 unfold ixN
 rw[if_pos (Int.natCast_nonneg k),if_pos (by omega)]
 simp
theorem aGv{v:Vl}{is:List Int}{k:Nat}(hv:v.d=.lst (is.map D.int))(h:k<is.length):eE v (.cl (.int (k:Int)))=.ok (.cl (.int (is.getD k 0))):=by
 unfold eE
 rw[hv]
 have hl:(is.map D.int).length=is.length:=by simp
 have e:(is.map D.int)[k]? = some (.int (is.getD k 0)):=by simp[h]
 simp only[dE,hl,gP h,e,Vl.sub,noL,if_true]
def vH:Fn:=⟨2,5,
 (.k (.set (.n 2) (.lst .z))
 (.k (.set (.n 3) (.op .Add (.op .Mod (.v 0) (.c (.int 2147483647))) (.c (.int 48271))))
 (.k (.for (.n 4) (.rng (.c (.int 0)) (.op .Add (.v 1) (.c (.int 1))))
  (.k (.set (.n 3) (.op .Mod (.op .Add (.op .Add (.op .Mult (.v 3) (.v 3)) (.op .Mult (.c (.int 48271)) (.v 3))) (.v 4)) (.c (.int 2147483647))))
  (.k (.app 2 (.v 3))
  .z)))
 (.k (.ret (.sli (.v 2) (.k (.c (.int 1)) .z) .z))
 .z))))⟩
def num(c:Int):Nat->Int
 | 0=>c % 2147483647+48271
 | k+1=>(num c k*num c k+48271*num c k+(k:Int)) % 2147483647
theorem aGw(c:Int):∀k,0<=num c k/\num c k<2147531918
 | 0=>by
  have h0:0<=c % 2147483647:=Int.emod_nonneg _ (by decide)
  have h1:c % 2147483647<2147483647:=D3 _ (by decide)
  unfold num
  omega
 | k+1=>by
  unfold num
  have h0:=Int.emod_nonneg (num c k*num c k+48271*num c k+(k:Int)) (show(2147483647:Int)≠0 by decide)
  have h1:=D3 (num c k*num c k+48271*num c k+(k:Int)) (show(0:Int)<2147483647 by decide)
  omega
def nM(c:Int)(m:Nat):List Int:=(List.range m).map λi=>num c (i+2)
theorem iA(c:Int)(m:Nat):(nM c m).length=m:=by simp[nM]
theorem fX{P:Pg}{f:Nat}(hF:P.fns[f]? = some vH)(n:Nat)(c:Int){m:Nat}(hm:m<=1000):call P (n+1) f [.int c,.int m]=.ok (.lst ((nM c m).map D.int),true,false):=by
 have mm:∀i:Int,opD .Mod (.cl (.int i)) (.cl (.int 2147483647))=.ok (.cl (.int (i % 2147483647))):=λi=>aBl (by decide)
 have hw:walk P (call P n) [.sh true (.int c),.sh true (.int m),.own false [],.sh false (.int (num c 0)),.x] (.rng (.c (.int 0)) (.op .Add (.v 1) (.c (.int 1))))=.ok ((List.range (m+1)).map λ(k:Nat)=>Vl.cl (.int (k:Int)),[]):=by
  refine cR (v:=.cl (.int ((m+1:Nat):Int))) ?_ rfl (by omega)
  simp[bY]
 obtain⟨σ',e,hI⟩:=dJ (t:=.n 4) (b:=(.k (.set (.n 3) (.op .Mod (.op .Add (.op .Add (.op .Mult (.v 3) (.v 3)) (.op .Mult (.c (.int 48271)) (.v 3))) (.v 4)) (.c (.int 2147483647))))
  (.k (.app 2 (.v 3))
  .z)))
   (λk σ=>∃s4,σ=[.sh true (.int c),.sh true (.int m),.own false ((List.range k).map λi=>.int (num c (i+1))),.sh false (.int (num c k)),s4]) hw ⟨_,rfl⟩ (λk hk σ hσ=>by
    obtain⟨s4,rfl⟩:=hσ
    have hk':k<m+1:=by simpa using hk
    obtain⟨r0,r1⟩:=aGw c k
    have m1:opD .Mult (.cl (.int (num c k))) (.cl (.int (num c k)))=.ok (.cl (.int (num c k*num c k))):=mul_int (by
     simp only[gY,Cr,bA,A1];right;omega)
    have m2:opD .Mult (.cl (.int 48271)) (.cl (.int (num c k)))=.ok (.cl (.int (48271*num c k))):=mul_int (by
     simp only[gY,Cr,bA,A1];right;omega)
    have hll:k+1<=lim:=by unfold lim;omega
    have hsn:(List.range (k+1)).map (λi=>D.int (num c (i+1)))=(List.range k).map (λi=>D.int (num c (i+1)))++[.int (num c (k+1))]:=by rw[List.range_succ];simp
    refine⟨[.sh true (.int c),.sh true (.int m),.own false ((List.range k).map λi=>.int (num c (i+1))),.sh false (.int (num c k)),.sh false (.int k)],
     [.sh true (.int c),.sh true (.int m),.own false ((List.range (k+1)).map λi=>.int (num c (i+1))),.sh false (.int (num c (k+1))),.sh false (.int k)],?_,?_,⟨_,rfl⟩⟩
    . simp
    . rw[hsn]
      simp[bY,m1,m2,mm,put,lR,hll,num])
 obtain⟨s4,rfl⟩:=hI
 have et:((List.range (m+1)).map λ(k:Nat)=>Vl.cl (.int (k:Int))).length=m+1:=by simp
 rw[et] at e
 have hno:noLs ((List.range (m+1)).map λi=>D.int (num c (i+1)))=true:=by
  have:(List.range (m+1)).map (λi=>D.int (num c (i+1)))=((List.range (m+1)).map λi=>num c (i+1)).map D.int:=by simp
  rw[this]
  exact eO _
 have hcut:cut ((List.range (m+1)).map λi=>D.int (num c (i+1))) (some 1) none=(nM c m).map D.int:=by
  unfold cut sIx
  simp only[lM,Cf]
  have e1:min (1:Int).toNat (m+1)=1:=by simp
  rw[if_neg (by decide),e1,Bv (by simp),Dm]
  simp[nM,Function.comp_def]
 have s1:aN 1=true:=by decide
 refine aG (F:=vH) hF rfl (v:=⟨.lst ((nM c m).map D.int),true,false,[]⟩) ?_
 have e:ex P (call P n) [.sh true (.int c),.sh true (.int m),.own false [],.sh false (.int (c % 2147483647+48271)),.x] _=_:=e
 simp[vH,bY,mm,pP,dZ,bT,e,s1,dQ,hno,hcut]
def aLZ(b:Str×Int):D:=.tup [.str b.1,.int b.2]
@[simp] theorem aMa (b:Str×Int):noL (aLZ b)=true:=by simp[aLZ,noL,noLs]
end Hp
end
noncomputable section
namespace HpS
open Hp PySem
inductive Sm where
 | num (n:Int)|box (k:Nat)|aft (k:Nat)|two (p:Bool) (a b:Sm)
def aAn(p:Bool):Str:=if p then "plus" else "minus"
def Sm.d:Sm->D
 | .num n=>.tup [.str "number",.int n]
 | .box k=>.tup [.str "box",.int k]
 | .aft k=>.tup [.str "after",.int k]
 | .two p a b=>.tup [.str (aAn p),a.d,b.d]
def Sm.sz:Sm->Nat
 | .two _ a b=>1+a.sz+b.sz
 | _=>1
def Sm.val(ah be:List Int):Sm->Int
 | .num n=>n
 | .box k=>ah.getD k 0
 | .aft k=>be.getD k 0
 | .two p a b=>if p then a.val ah be+b.val ah be else a.val ah be-b.val ah be
def Sm.wf(c:Nat)(pl:Bool):Sm->Prop
 | .num n=>0<=n/\n<=99
 | .box k=>k<c
 | .aft k=>k<c/\pl=false
 | .two _ a b=>a.wf c pl/\b.wf c pl
theorem Sm.noL:∀s:Sm,Hp.noL s.d=true
 | .num _=>rfl
 | .box _=>rfl
 | .aft _=>rfl
 | .two _ a b=>by simp[Sm.d,Hp.noL,noLs,a.noL,b.noL]
theorem cC{v:Vl}{d:D}(h:Hp.noL d=true):Vl.sub v d=.cl d:=by unfold Vl.sub;rw[if_pos h]
theorem fU(x:D)(r:List D)(h:Hp.noL x=true):eE (.cl (.tup (x::r))) (.cl (.int 0))=.ok (.cl x):=by
 have:ixN (x::r).length 0=some 0:=gP (k:=0) (by simp)
 unfold eE
 simp only[dE,this,gZ,cC h]
theorem fV(x y:D)(r:List D)(h:Hp.noL y=true):eE (.cl (.tup (x::y::r))) (.cl (.int 1))=.ok (.cl y):=by
 have:ixN (x::y::r).length 1=some 1:=gP (k:=1) (by simp)
 unfold eE
 simp only[dE,this,gZ,gS,cC h]
theorem aAo(x y z:D)(r:List D)(h:Hp.noL z=true):eE (.cl (.tup (x::y::z::r))) (.cl (.int 2))=.ok (.cl z):=by
 have:ixN (x::y::z::r).length 2=some 2:=gP (k:=2) (by simp)
 unfold eE
 simp only[dE,this,gZ,gS,cC h]
theorem kF{is:List Int}{k:Nat}(h:k<is.length):eE (.cl (aO is)) (.cl (.int (k:Int)))=.ok (.cl (.int (is.getD k 0))):=by
 unfold eE aO
 have hl:(is.map D.int).length=is.length:=by simp
 have e:(is.map D.int)[k]? = some (.int (is.getD k 0)):=by simp[h]
 simp only[dE,hl,gP h,e,Vl.sub,Hp.noL,if_true]
def nN(f:Nat):Fn:=⟨3,6,
 (.k (.set (.n 3) (.idx (.v 0) (.c (.int 0))))
 (.k (.iff (.cmp .Eq (.v 3) (.c (.str "number")))
  (.k (.ret (.idx (.v 0) (.c (.int 1))))
  .z)
  .z)
 (.k (.iff (.cmp .Eq (.v 3) (.c (.str "box")))
  (.k (.ret (.idx (.v 1) (.idx (.v 0) (.c (.int 1)))))
  .z)
  .z)
 (.k (.iff (.cmp .Eq (.v 3) (.c (.str "after")))
  (.k (.ret (.idx (.v 2) (.idx (.v 0) (.c (.int 1)))))
  .z)
  .z)
 (.k (.set (.n 4) (.call f (.k (.idx (.v 0) (.c (.int 1))) (.k (.v 1) (.k (.v 2) .z)))))
 (.k (.set (.n 5) (.call f (.k (.idx (.v 0) (.c (.int 2))) (.k (.v 1) (.k (.v 2) .z)))))
 (.k (.ret (.ife (.cmp .Eq (.v 3) (.c (.str "plus"))) (.op .Add (.v 4) (.v 5)) (.op .Sub (.v 4) (.v 5))))
 .z)))))))⟩
theorem aMb:(("number" : Str) == "number")=true:=by decide +kernel
theorem aJv:(("box" : Str) == "number")=false:=by decide +kernel
theorem aNH:(("box" : Str) == "box")=true:=by decide +kernel
theorem aNI:(("after" : Str) == "number")=false:=by decide +kernel
theorem aNJ:(("after" : Str) == "box")=false:=by decide +kernel
theorem aNK:(("after" : Str) == "after")=true:=by decide +kernel
theorem aNL:∀p,(aAn p == "number")=false:=by decide +kernel
theorem aMc:∀p,(aAn p == "box")=false:=by decide +kernel
theorem aMd:∀p,(aAn p == "after")=false:=by decide +kernel
theorem aNM:∀p,(aAn p == "plus")=p:=by decide +kernel
theorem jO{P:Pg}{f:Nat}(hF:P.fns[f]? = some (nN f)){ah be:List Int}{bd:D}{c:Nat}{pl:Bool}(ha:ah.length=c)(hb:be.length=c)(hn:Hp.noL bd=true)(hbd:pl=false->bd=aO be) :
 ∀(s:Sm) (n:Nat),s.wf c pl->call P (n+s.sz) f [s.d,aO ah,bd]=.ok (.int (s.val ah be),false,false)
 | .num k,n,w=>by
  refine aG (F:=nN f) hF rfl (v:=.cl (.int k)) ?_
  exact cs (aV (bE (v0_ rfl) rfl (fU _ _ rfl))) (eG (dG rfl aMb) (aS (bE (v0_ rfl) rfl (fV _ _ _ rfl))))
 | .box k,n,w=>by
  have w:k<c:=w
  refine aG (F:=nN f) hF rfl (v:=.cl (.int (ah.getD k 0))) ?_
  exact cs (aV (bE (v0_ rfl) rfl (fU _ _ rfl))) (cs (bV (dG rfl aJv)) (eG (dG rfl aNH) (aS (bE (v1_ (aR _)) (bE (v0_ rfl) rfl (fV _ _ _ rfl)) (kF (by omega))))))
 | .aft k,n,w=>by
  obtain⟨w1,w2⟩:k<c/\pl=false:=w
  have e:=hbd w2
  subst e
  refine aG (F:=nN f) hF rfl (v:=.cl (.int (be.getD k 0))) ?_
  exact cs (aV (bE (v0_ rfl) rfl (fU _ _ rfl))) (cs (bV (dG rfl aNI)) (cs (bV (dG rfl aNJ)) (eG (dG rfl aNK) (aS (bE (v2_ (aR _)) (bE (v0_ rfl) rfl (fV _ _ _ rfl)) (kF (by omega)))))))
 | .two p a b,n,w=>by
  obtain⟨w1,w2⟩:a.wf c pl/\b.wf c pl:=w
  have c1:=jO hF ha hb hn hbd a (n+b.sz) w1
  have c2:=jO hF ha hb hn hbd b (n+a.sz) w2
  rw[show n+b.sz+a.sz=n+a.sz+b.sz by omega] at c1
  have e:n+Sm.sz (.two p a b)=n+a.sz+b.sz+1:=by show n+(1+a.sz+b.sz)=_;omega
  rw[e]
  refine aG (F:=nN f) hF rfl (v:=.cl (.int (Sm.val ah be (.two p a b)))) ?_
  refine cs (aV (bE (v0_ (Sm.noL _)) rfl (fU _ _ rfl))) (cs (bV (dG rfl (aNL p))) (cs (bV (dG rfl (aMc p))) (cs (bV (dG rfl (aMd p))) (cs (aV (bW (bE (v0_ (Sm.noL _)) rfl (fV _ _ _ a.noL)) (v1_ (aR _)) (v2_ hn) c1)) (cs (aV (bW (bE (v0_ (Sm.noL _)) rfl (aAo _ _ _ _ b.noL)) (v1_ (aR _)) (v2_ hn) c2)) (aS (aBm (dG rfl (aNM p)) ?_)))))))
  cases p <;> rfl
theorem iB{P:Pg}{cl:Caller}{f:Nat}{F:Fn}{ds:List D}(hF:P.fns[f]? = some F)(hl:ds.length=F.np){σ:Sg}
 (h:exs P cl ((ds.map λd=>Sl.sh true d)++List.replicate (F.ns-F.np) Sl.x) F.body=.next σ):uH P cl f ds=.ok (.non,false,false):=by
 unfold uH
 rw[hF]
 simp only[hl,if_true,h]
@[simp] theorem xX {P:Pg} {cl:Caller} {σ:Sg} (i:Nat) (a:E):ev P cl σ (.tget i a)=(ev P cl σ a >>= λx=>match x.d,P.tabs[i]? with|.str k,some t=>.ok (.cl ((t.lookup k).getD .non))|_,_=>.bad):=id rfl
def fWhole:Fn:=⟨1,1,(.k (.ret (.an (.isi (.v 0) [.tInt]) (.nt (.isi (.v 0) [.tBool])))) .z)⟩
def fWithin(wh:Nat):Fn:=⟨3,3,(.k (.ret (.an (.call wh (.k (.v 0) .z)) (.cmp2 .LtE .LtE (.v 1) (.v 0) (.v 2)))) .z)⟩
def fCheck(wi:Nat):Fn:=⟨3,4,
 (.k (.set (.n 3) (.ife (.cmp .Eq (.v 1) (.c (.str "number"))) (.c (.int 99)) (.op .Sub (.bi .len (.k (.v 0) .z)) (.c (.int 1)))))
 (.k (.iff (.nt (.call wi (.k (.v 2) (.k (.c (.int 0)) (.k (.v 3) .z)))))
  (.k (.rse 1 false (.k (.c (.str "a number is a whole one from 0 to 99, a box the number of one")) .z))
  .z)
  .z)
 .z))⟩
theorem aED{P:Pg}{wh:Nat}(hF:P.fns[wh]? = some fWhole)(n:Nat)(i:Int):call P (n+1) wh [.int i]=.ok (.bl true,false,false):=aG (F:=fWhole) hF rfl (v:=.cl (.bl true)) rfl
theorem iC{P:Pg}{wh wi:Nat}(hW:P.fns[wh]? = some fWhole)(hF:P.fns[wi]? = some (fWithin wh))(n:Nat)(i a b:Int)(h1:a<=i)(h2:i<=b):call P (n+2) wi [.int i,.int a,.int b]=.ok (.bl true,false,false):=by
 refine aG (F:=fWithin wh) hF rfl (v:=.cl (.bl true)) ?_
 simp[fWithin,bY,aED hW,h1,h2]
theorem aEE{P:Pg}{wh wi ch:Nat}(hW:P.fns[wh]? = some fWhole)(hI:P.fns[wi]? = some (fWithin wh))(hF:P.fns[ch]? = some (fCheck wi))(n:Nat){bs:List D}{due:Str}{i:Int}(h0:0<=i)(h1:i<=(if due == "number" then 99 else (bs.length:Int)-1)) :
 call P (n+3) ch [.lst bs,.str due,.int i]=.ok (.non,false,false):=by
 have c1:=iC hW hI n i 0 _ h0 h1
 cases q:due == "number" with
 | true=>
  rw[q,if_pos rfl] at c1
  refine iB (F:=fCheck wi) hF rfl (σ:=[.sh true (.lst bs),.sh true (.str due),.sh true (.int i),.sh false (.int 99)]) ?_
  simp[fCheck,bY,q,c1]
 | false=>
  rw[q,if_neg bN] at c1
  refine iB (F:=fCheck wi) hF rfl (σ:=[.sh true (.lst bs),.sh true (.str due),.sh true (.int i),.sh false (.int ((bs.length:Int)-1))]) ?_
  simp[fCheck,bY,q,c1]
def sumTab:List (Str×D):=[("number",.tup [.str "number"]),("box",.tup [.str "box"]),("after",.tup [.str "box"]),("plus",.tup [.str "sum",.str "sum"]),("minus",.tup [.str "sum",.str "sum"])]
def fForm:Fn:=⟨3,5,
 (.k (.iff (.orr (.nt (.isi (.v 1) [.tTuple])) (.orr (.cmp .Eq (.bi .len (.k (.v 1) .z)) (.c (.int 0))) (.nt (.isi (.idx (.v 1) (.c (.int 0))) [.tStr]))))
  (.k (.rse 1 false (.k (.c (.str "a part is a tuple that begins with a word")) .z))
  .z)
  .z)
 (.k (.set (.n 3) (.idx (.v 1) (.c (.int 0))))
 (.k (.set (.n 4) (.ife (.cmp .Eq (.v 0) (.c (.str "sum"))) (.tget 0 (.v 3)) (.tget 1 (.v 3))))
 (.k (.iff (.orr (.cmp .Is (.v 4) (.c .non)) (.cmp .NotEq (.bi .len (.k (.v 1) .z)) (.op .Add (.bi .len (.k (.v 4) .z)) (.c (.int 1)))))
  (.k (.rse 1 false (.k (.c (.str "a part has a word that is due there, and as many things as go with it")) .z))
  .z)
  .z)
 (.k (.iff (.an (.v 2) (.cmp .Eq (.v 3) (.c (.str "after"))))
  (.k (.rse 1 false (.k (.c (.str "no after stands where a plain one is due")) .z))
  .z)
  .z)
 (.k (.retv 4)
 .z))))))⟩
def Sm.word:Sm->Str
 | .num _ => "number" | .box _ => "box" | .aft _ => "after" | .two p _ _=>aAn p
def Sm.rest:Sm->List D
 | .num n=>[.int n]|.box k=>[.int k]|.aft k=>[.int k]|.two _ a b=>[a.d,b.d]
def Sm.form:Sm->List Str
 | .num _=>["number"]|.box _=>["box"]|.aft _=>["box"]|.two _ _ _=>["sum", "sum"]
theorem Sm.d_eq:∀s:Sm,s.d=.tup (.str s.word::s.rest)
 | .num _=>rfl|.box _=>rfl|.aft _=>rfl|.two _ _ _=>rfl
theorem Sm.rest_noL:∀s:Sm,noLs s.rest=true
 | .num _=>rfl|.box _=>rfl|.aft _=>rfl
 | .two _ a b=>by simp[Sm.rest,noLs,a.noL,b.noL]
theorem Sm.len_eq:∀s:Sm,s.rest.length=s.form.length
 | .num _=>rfl|.box _=>rfl|.aft _=>rfl|.two _ _ _=>rfl
theorem Sm.look:∀s:Sm,sumTab.lookup s.word=some (.tup (s.form.map D.str))
 | .num _=>by rfl
 | .box _=>by rfl
 | .aft _=>by rfl
 | .two true _ _=>by rfl
 | .two false _ _=>by rfl
theorem aGx{P:Pg}{fo:Nat}(hF:P.fns[fo]? = some fForm)(hT:P.tabs[0]? = some sumTab)(n:Nat)(s:Sm){c:Nat}{pl:Bool}(w:s.wf c pl):call P (n+1) fo [.str "sum",s.d,.bl pl]=.ok (.tup (s.form.map D.str),false,false):=by
 have v1:=dP 1 true s.noL
 rw[s.d_eq] at v1 ⊢
 have i0:=fU (.str s.word) s.rest rfl
 have qs:(("sum" : Str) == "sum")=true:=by decide +kernel
 have hln:((.str s.word::s.rest:List D).length:Int)=(s.form.length:Int)+1:=by rw[lC,s.len_eq];omega
 have h0:((((.str s.word::s.rest:List D).length:Int))==0)=false:=by rw[hln];exact Bb.mpr (by omega)
 have t1:tst P (call P n) [.sh true (.str "sum"),.sh true (.tup (.str s.word::s.rest)),.sh true (.bl pl),.x,.x] (.orr (.nt (.isi (.v 1) [.tTuple])) (.orr (.cmp .Eq (.bi .len (.k (.v 1) .z)) (.c (.int 0))) (.nt (.isi (.idx (.v 1) (.c (.int 0))) [.tStr]))))=.ok false:=by
  simp only[fS,lH,aBh,dD,gE,aC,qY,iQ,aH,bI,bY,gS,gZ,v1,aA,dE,aBk,Ck,bF,if_false,gO,fP,gM,h0,i0,aBj]
 have t2:tst P (call P n) [.sh true (.str "sum"),.sh true (.tup (.str s.word::s.rest)),.sh true (.bl pl),.sh false (.str s.word),.sh false (.tup (s.form.map D.str))] (.orr (.cmp .Is (.v 4) (.c .non)) (.cmp .NotEq (.bi .len (.k (.v 1) .z)) (.op .Add (.bi .len (.k (.v 4) .z)) (.c (.int 1)))))=.ok false:=by
  have hi:cG .Is (.tup (s.form.map D.str)) .non=some false:=rfl
  have hq:(((s.form.length:Int)+1==(s.form.length:Int)+1))=true:=Bm _
  simp only[fS,dD,gE,aC,qY,xS,aH,bI,bY,gS,gZ,v1,bU,aA,dE,hi,bF,if_false,gO,hln,lM,add_int,vE,gM,hq,Option.map_some,Ck]
 have t3:tst P (call P n) [.sh true (.str "sum"),.sh true (.tup (.str s.word::s.rest)),.sh true (.bl pl),.sh false (.str s.word),.sh false (.tup (s.form.map D.str))] (.an (.v 2) (.cmp .Eq (.v 3) (.c (.str "after"))))=.ok false:=by
  simp only[aAk,aHf,dD,gE,aC,bY,gS,gZ,nL,bU,aA,vD,dE,fP,gN]
  cases pl with
  | false=>rfl
  | true=>
   have:(s.word == "after")=false:=by
    cases s with
    | num _=>exact(show((("number" : Str)) == "after")=false by decide +kernel)
    | box _=>exact(show((("box" : Str)) == "after")=false by decide +kernel)
    | aft k=>obtain⟨_,z⟩:k<c/\true=false:=w;cases z
    | two p _ _=>exact aMd p
   rw[if_pos rfl,this]
 refine aG (F:=fForm) hF rfl (v:=.cl (.tup (s.form.map D.str))) ?_
 have hnl:Hp.noL (.tup (s.form.map D.str))=true:=by cases s <;> rfl
 have hl:=s.look
 show exs P (call P n) [.sh true (.str "sum"),.sh true (.tup (.str s.word::s.rest)),.sh true (.bl pl),.x,.x] fForm.body=_
 unfold fForm
 simp only[bZ,eV,eU,t1,bJ,bF,if_false,rY,fO,iQ,gE,aC,bY,gS,gZ,v1,aA,i0,hZ,cP,kN,dO,lS,lZ,aAj,dD,oX,dE,fP,gN,qs,if_true,xX,bU,hT,hl,Option.getD_some,t2,t3,oU,qW]
def fLook(fo ch lo:Nat):Fn:=⟨5,8,
 (.k (.iff (.cmp .Eq (.v 4) (.c (.int 40)))
  (.k (.rse 2 false (.k (.c (.str "a condition or sum has at most forty parts")) .z))
  .z)
  .z)
 (.k (.set (.n 4) (.op .Add (.v 4) (.c (.int 1))))
 (.k (.set (.n 5) (.call fo (.k (.v 1) (.k (.v 2) (.k (.v 3) .z)))))
 (.k (.for (.t [6,7]) (.zip (.v 5) (.sli (.v 2) (.k (.c (.int 1)) .z) .z))
  (.k (.iff (.orr (.cmp .Eq (.v 6) (.c (.str "sum"))) (.cmp .Eq (.v 6) (.c (.str "cond"))))
   (.k (.set (.n 4) (.call lo (.k (.v 0) (.k (.v 6) (.k (.v 7) (.k (.v 3) (.k (.v 4) .z)))))))
   .z)
   (.k (.ex (.call ch (.k (.v 0) (.k (.v 6) (.k (.v 7) .z)))))
   .z))
  .z))
 (.k (.retv 4)
 .z)))))⟩
def dU(ch lo:Nat):Ss:=(.k (.iff (.orr (.cmp .Eq (.v 6) (.c (.str "sum"))) (.cmp .Eq (.v 6) (.c (.str "cond"))))
 (.k (.set (.n 4) (.call lo (.k (.v 0) (.k (.v 6) (.k (.v 7) (.k (.v 3) (.k (.v 4) .z)))))))
 .z)
 (.k (.ex (.call ch (.k (.v 0) (.k (.v 6) (.k (.v 7) .z)))))
 .z))
 .z)
def iD(w:Str)(d:D):Vl:=.cl (.tup [.str w,d])
theorem aHh{P:Pg}{cl:Caller}{σ:Sg}(e:E):ex P cl σ (.ex e)=O.from σ (ev P cl σ e) λ_=>.next σ:=rfl
theorem oC{s0 s1 s2 s3 s4 s5 s6 s7:Sl}{w:Str}{d:D}(h:Hp.noL d=true):cI [s0,s1,s2,s3,s4,s5,s6,s7] (iD w d) (.t [6,7])=.ok [s0,s1,s2,s3,s4,s5,.sh false (.str w),.sh false d]:=by
 unfold cI iD
 simp only[dE,lC,lN,if_true,A8,Cp,B6,List.foldl_nil,cC (show Hp.noL (.str w)=true from rfl),cC h,dO,lS,lZ]
theorem xY{P:Pg}{cl:Caller}{s0 s1 s3 s4 s6 s7:Sl}(s:Sm):walk P cl [s0,s1,.sh true s.d,s3,s4,.sh false (.tup (s.form.map D.str)),s6,s7] (.zip (.v 5) (.sli (.v 2) (.k (.c (.int 1)) .z) .z)) =
 .ok ((s.form.zip s.rest).map λp=>iD p.1 p.2,[]):=by
 have v2:=dP 2 true s.noL
 have k1:aN 1=true:=by decide
 have hno:noLs (.str s.word::s.rest)=true:=by simp[noLs,Hp.noL,s.rest_noL]
 have hcut:cut (.str s.word::s.rest) (some 1) none=s.rest:=by cases s <;> rfl
 have hs:dQ (.cl (.tup (.str s.word::s.rest))) (some 1) none=.ok (.cl (.tup s.rest)):=by
  unfold dQ
  simp only[dE,hcut,xW,Bool.false_and,hno,if_true]
  rfl
 have hz:items ⟨.non,false,false,[]⟩ (fC (s.form.map D.str) s.rest)=(s.form.zip s.rest).map λp=>iD p.1 p.2:=by
  cases s with
  | num _=>rfl
  | box _=>rfl
  | aft _=>rfl
  | two p a b=>
   show [Vl.sub _ (.tup [.str "sum",a.d]),Vl.sub _ (.tup [.str "sum",b.d])]=[iD "sum" a.d,iD "sum" b.d]
   rw[cC (by simp[Hp.noL,noLs,a.noL]),cC (by simp[Hp.noL,noLs,b.noL])]
   rfl
 rw[s.d_eq] at v2 ⊢
 simp only[jJ,gE,aBn,aC,bY,gS,gZ,v2,bU,aA,dE,k1,xR,hs,iZ,xW,Bool.or_self,hZ,Ch]
 rw[hz]
theorem aNN:(("sum" : Str) == "sum")=true:=by decide +kernel
theorem aNO:(("number" : Str) == "sum")=false:=by decide +kernel
theorem aNP:(("number" : Str) == "cond")=false:=by decide +kernel
theorem aMe:(("box" : Str) == "sum")=false:=by decide +kernel
theorem aMf:(("box" : Str) == "cond")=false:=by decide +kernel
section
variable {P:Pg} {wh wi ch fo lo:Nat} (hW:P.fns[wh]? = some fWhole) (hI:P.fns[wi]? = some (fWithin wh)) (hC:P.fns[ch]? = some (fCheck wi)) (hO:P.fns[fo]? = some fForm) (hT:P.tabs[0]? = some sumTab) (hL:P.fns[lo]? = some (fLook fo ch lo))
include hW hI hC hO hT hL
theorem aCu{n:Nat}{bs:List D}{s1 s2 s3 s5 s6 s7:Sl}{m:Int}{w:Str}{i:Int}(h0:0<=i)(h1:i<=(if w == "number" then 99 else (bs.length:Int)-1))(q1:(w == "sum")=false)(q2:(w == "cond")=false) :
 exs P (call P (n+3)) [.sh true (.lst bs),s1,s2,s3,.sh false (.int m),s5,.sh false (.str w),.sh false (.int i)] (dU ch lo)=.next [.sh true (.lst bs),s1,s2,s3,.sh false (.int m),s5,.sh false (.str w),.sh false (.int i)]:=by
 have c1:=aEE hW hI hC n (bs:=bs) (due:=w) h0 h1
 simp only[dU,bZ,eV,eU,fS,dD,gE,aC,bY,gS,gZ,bU,aA,dE,fP,gN,q1,q2,bF,if_false,bJ,aHh,dC,aH,bI,oY,mC,mN,c1,rY]
end
theorem mJ{P:Pg}{ch lo M:Nat}{bs:List D}{s1 s2 s5:Sl}{pl:Bool}{m m':Int}{d:D}(c1:call P M lo [.lst bs,.str "sum",d,.bl pl,.int m]=.ok (.int m',false,false)) :
 exs P (call P M) [.sh true (.lst bs),s1,s2,.sh true (.bl pl),.sh false (.int m),s5,.sh false (.str "sum"),.sh false d] (dU ch lo)=.next [.sh true (.lst bs),s1,s2,.sh true (.bl pl),.sh false (.int m'),s5,.sh false (.str "sum"),.sh false d]:=by
 simp only[dU,bZ,eV,eU,fS,dD,gE,aC,bY,gS,gZ,bU,aA,dE,fP,gN,aNN,if_true,bJ,fO,dC,aH,bI,oY,nL,mC,mN,c1,lI,hZ,cP,kN,dO,lS,lZ,rY]
section
variable {P:Pg} {wh wi ch fo lo:Nat} (hW:P.fns[wh]? = some fWhole) (hI:P.fns[wi]? = some (fWithin wh)) (hC:P.fns[ch]? = some (fCheck wi)) (hO:P.fns[fo]? = some fForm) (hT:P.tabs[0]? = some sumTab) (hL:P.fns[lo]? = some (fLook fo ch lo))
include hW hI hC hO hT hL
theorem aBo{m:Nat}{bs:List D}{s:Sm}{c:Nat}{pl:Bool}{seen r:Int}{s6 s7:Sl}(w:s.wf c pl)(hs:seen<40)
 (hfor:ex P (call P (m+1)) [.sh true (.lst bs),.sh true (.str "sum"),.sh true s.d,.sh true (.bl pl),.sh false (.int (seen+1)),.sh false (.tup (s.form.map D.str)),.x,.x] (.for (.t [6,7]) (.zip (.v 5) (.sli (.v 2) (.k (.c (.int 1)) .z) .z)) (dU ch lo)) =
  .next [.sh true (.lst bs),.sh true (.str "sum"),.sh true s.d,.sh true (.bl pl),.sh false (.int r),.sh false (.tup (s.form.map D.str)),s6,s7]) :
 call P (m+2) lo [.lst bs,.str "sum",s.d,.bl pl,.int seen]=.ok (.int r,false,false):=by
 have c1:=aGx hO hT m s w
 have v2:=dP 2 true s.noL
 have q40:(seen==40)=false:=Bb.mpr (by omega)
 refine aG (F:=fLook fo ch lo) hL rfl (v:=.cl (.int r)) ?_
 show exs P (call P (m+1)) [.sh true (.lst bs),.sh true (.str "sum"),.sh true s.d,.sh true (.bl pl),.sh true (.int seen),.x,.x,.x] (.k (.iff (.cmp .Eq (.v 4) (.c (.int 40)))
  (.k (.rse 2 false (.k (.c (.str "a condition or sum has at most forty parts")) .z))
  .z)
  .z)
 (.k (.set (.n 4) (.op .Add (.v 4) (.c (.int 1))))
 (.k (.set (.n 5) (.call fo (.k (.v 1) (.k (.v 2) (.k (.v 3) .z)))))
 (.k (.for (.t [6,7]) (.zip (.v 5) (.sli (.v 2) (.k (.c (.int 1)) .z) .z)) (dU ch lo))
 (.k (.retv 4)
 .z)))))=_
 simp only[bZ,eV,eU,dD,gE,aC,bY,gS,gZ,oW,aA,dE,fP,gM,q40,bF,if_false,bJ,rY,fO,xS,add_int,hZ,cP,kN,dO,lS,lZ,dC,aH,bI,oX,v2,nL,mC,mN,c1,lI,hfor,oU,qW]
theorem vI{n:Nat}{bs:List D}{s:Sm}{c:Nat}{pl:Bool}{seen:Int}{w:Str}{i:Int}(hwf:s.wf c pl)(hs:seen<40)(hf:s.form=[w])(hr:s.rest=[.int i])(h0:0<=i)(h1:i<=(if w == "number" then 99 else (bs.length:Int)-1))(q1:(w == "sum")=false)(q2:(w == "cond")=false) :
 call P (n+4) lo [.lst bs,.str "sum",s.d,.bl pl,.int seen]=.ok (.int (seen+1),false,false):=by
 refine aBo hW hI hC hO hT hL (m:=n+2) (s6:=.sh false (.str w)) (s7:=.sh false (.int i)) hwf hs ?_
 have tl:∀{s1 s2 s3 s5:Sl} {m:Int},exs P (call P (n+2+1)) [.sh true (.lst bs),s1,s2,s3,.sh false (.int m),s5,.sh false (.str w),.sh false (.int i)] (dU ch lo)=.next [.sh true (.lst bs),s1,s2,s3,.sh false (.int m),s5,.sh false (.str w),.sh false (.int i)]:=aCu hW hI hC hO hT hL (n:=n) (s6:=.x) (s7:=.x) h0 h1 q1 q2
 rw[jK,xY,hf,hr,bJ]
 simp only[A8,Cp,mC,mN,cP,eF,oC (show Hp.noL (.int i)=true from rfl),bJ,tl]
theorem mK{bs:List D}{c:Nat}(hc:bs.length=c){pl:Bool}:∀(s:Sm) (n:Nat) (seen:Int),s.wf c pl->seen+s.sz<=40->call P (n+3+s.sz) lo [.lst bs,.str "sum",s.d,.bl pl,.int seen]=.ok (.int (seen+s.sz),false,false)
 | .num k,n,seen,w,h=>by
  have h:seen+1<=40:=h
  obtain⟨w1,w2⟩:0<=k/\k<=99:=w
  exact vI hW hI hC hO hT hL (n:=n) (s:=.num k) (c:=c) ⟨w1,w2⟩ (by omega) rfl rfl w1 (by rw[aMb,if_pos rfl];exact w2) aNO aNP
 | .box k,n,seen,w,h=>by
  have h:seen+1<=40:=h
  have w1:k<c:=w
  exact vI hW hI hC hO hT hL (n:=n) (s:=.box k) (c:=c) w1 (by omega) rfl rfl (by omega) (by rw[aJv,if_neg bN];omega) aMe aMf
 | .aft k,n,seen,w,h=>by
  have h:seen+1<=40:=h
  obtain⟨w1,w2⟩:k<c/\pl=false:=w
  exact vI hW hI hC hO hT hL (n:=n) (s:=.aft k) (c:=c) ⟨w1,w2⟩ (by omega) rfl rfl (by omega) (by rw[aJv,if_neg bN];omega) aMe aMf
 | .two p a b,n,seen,w,h=>by
  have h:seen+((1+a.sz+b.sz:Nat):Int)<=40:=h
  obtain⟨w1,w2⟩:a.wf c pl/\b.wf c pl:=w
  have pa:1<=a.sz:=by cases a <;> simp[Sm.sz];omega
  have c1:=mK hc a (n+b.sz) (seen+1) w1 (by omega)
  have c2:=mK hc b (n+a.sz) (seen+1+a.sz) w2 (by omega)
  have e1:n+b.sz+3+a.sz=n+2+a.sz+b.sz+1:=by omega
  have e2:n+a.sz+3+b.sz=n+2+a.sz+b.sz+1:=by omega
  rw[e1] at c1
  rw[e2] at c2
  have e3:n+3+Sm.sz (.two p a b)=n+2+a.sz+b.sz+2:=by show n+3+(1+a.sz+b.sz)=_;omega
  have e4:seen+((Sm.sz (.two p a b):Nat):Int)=seen+1+a.sz+b.sz:=by show seen+((1+a.sz+b.sz:Nat):Int)=_;omega
  rw[e3,e4]
  refine aBo hW hI hC hO hT hL (m:=n+2+a.sz+b.sz) (s6:=.sh false (.str "sum")) (s7:=.sh false b.d) (c:=c) ⟨w1,w2⟩ (by omega) ?_
  rw[jK,xY,bJ]
  have ef:(Sm.two p a b).form=[("sum" : Str),("sum" : Str)]:=rfl
  have er:(Sm.two p a b).rest=[a.d,b.d]:=rfl
  simp only[ef,er,A8,Cp,mC,mN,cP,eF,oC a.noL,oC b.noL,bJ,mJ c1,mJ c2]
end
inductive Cn where
 | yes|cmp (i:Bool) (a b:Sm)|nt (c:Cn)|two (p:Bool) (a b:Cn)
def oM(i:Bool):Str:=if i then "is" else "less"
def kP(p:Bool):Str:=if p then "both" else "either"
def Cn.d:Cn->D
 | .yes=>.tup [.str "yes"]
 | .cmp i a b=>.tup [.str (oM i),a.d,b.d]
 | .nt c=>.tup [.str "not",c.d]
 | .two p a b=>.tup [.str (kP p),a.d,b.d]
def Cn.sz:Cn->Nat
 | .yes=>1
 | .cmp _ a b=>1+a.sz+b.sz
 | .nt c=>1+c.sz
 | .two _ a b=>1+a.sz+b.sz
def Cn.hold(ah be:List Int):Cn->Bool
 | .yes=>true
 | .cmp i a b=>if i then a.val ah be==b.val ah be else decide (a.val ah be<b.val ah be)
 | .nt c=>!c.hold ah be
 | .two p a b=>if p then a.hold ah be&&b.hold ah be else a.hold ah be||b.hold ah be
def Cn.wf(c:Nat)(pl:Bool):Cn->Prop
 | .yes=>True
 | .cmp _ a b=>a.wf c pl/\b.wf c pl
 | .nt x=>x.wf c pl
 | .two _ a b=>a.wf c pl/\b.wf c pl
theorem Cn.noL:∀s:Cn,Hp.noL s.d=true
 | .yes=>rfl
 | .cmp _ a b=>by simp[Cn.d,Hp.noL,noLs,a.noL,b.noL]
 | .nt c=>by simp[Cn.d,Hp.noL,noLs,c.noL]
 | .two _ a b=>by simp[Cn.d,Hp.noL,noLs,a.noL,b.noL]
def rA(v f:Nat):Fn:=⟨3,6,
 (.k (.set (.n 3) (.idx (.v 0) (.c (.int 0))))
 (.k (.iff (.cmp .Eq (.v 3) (.c (.str "yes")))
  (.k (.ret (.c (.bl true)))
  .z)
  .z)
 (.k (.iff (.cmp .Eq (.v 3) (.c (.str "not")))
  (.k (.ret (.nt (.call f (.k (.idx (.v 0) (.c (.int 1))) (.k (.v 1) (.k (.v 2) .z))))))
  .z)
  .z)
 (.k (.iff (.cmp .Eq (.v 3) (.c (.str "both")))
  (.k (.ret (.an (.call f (.k (.idx (.v 0) (.c (.int 1))) (.k (.v 1) (.k (.v 2) .z)))) (.call f (.k (.idx (.v 0) (.c (.int 2))) (.k (.v 1) (.k (.v 2) .z))))))
  .z)
  .z)
 (.k (.iff (.cmp .Eq (.v 3) (.c (.str "either")))
  (.k (.ret (.orr (.call f (.k (.idx (.v 0) (.c (.int 1))) (.k (.v 1) (.k (.v 2) .z)))) (.call f (.k (.idx (.v 0) (.c (.int 2))) (.k (.v 1) (.k (.v 2) .z))))))
  .z)
  .z)
 (.k (.set (.n 4) (.call v (.k (.idx (.v 0) (.c (.int 1))) (.k (.v 1) (.k (.v 2) .z)))))
 (.k (.set (.n 5) (.call v (.k (.idx (.v 0) (.c (.int 2))) (.k (.v 1) (.k (.v 2) .z)))))
 (.k (.ret (.ife (.cmp .Eq (.v 3) (.c (.str "is"))) (.cmp .Eq (.v 4) (.v 5)) (.cmp .Lt (.v 4) (.v 5))))
 .z))))))))⟩
theorem aNQ:(("yes" : Str) == "yes")=true:=by decide +kernel
theorem aNR:(("not" : Str) == "yes")=false:=by decide +kernel
theorem aNS:(("not" : Str) == "not")=true:=by decide +kernel
theorem aNT:∀p,(oM p == "yes")=false:=by decide +kernel
theorem aNU:∀p,(oM p == "not")=false:=by decide +kernel
theorem aNV:∀p,(oM p == "both")=false:=by decide +kernel
theorem aNW:∀p,(oM p == "either")=false:=by decide +kernel
theorem aNX:∀p,(oM p == "is")=p:=by decide +kernel
theorem aNY:∀p,(kP p == "yes")=false:=by decide +kernel
theorem aNZ:∀p,(kP p == "not")=false:=by decide +kernel
theorem aMg:∀p,(kP p == "both")=p:=by decide +kernel
theorem aOa:∀p,(kP p == "either")=!p:=by decide +kernel
theorem Sm.sz_pos:∀s:Sm,1<=s.sz
 | .num _=>Aj _|.box _=>Aj _|.aft _=>Aj _
 | .two _ a b=>by show 1<=1+a.sz+b.sz;omega
theorem Cn.sz_pos:∀s:Cn,1<=s.sz
 | .yes=>Aj _
 | .cmp _ a b=>by show 1<=1+a.sz+b.sz;omega
 | .nt c=>by show 1<=1+c.sz;omega
 | .two _ a b=>by show 1<=1+a.sz+b.sz;omega
theorem mL{P:Pg}{v f:Nat}(hV:P.fns[v]? = some (nN v))(hF:P.fns[f]? = some (rA v f)){ah be:List Int}{bd:D}{c:Nat}{pl:Bool}(ha:ah.length=c)(hb:be.length=c)(hn:Hp.noL bd=true)(hbd:pl=false->bd=aO be) :
 ∀(s:Cn) (n:Nat),s.wf c pl->call P (n+s.sz) f [s.d,aO ah,bd]=.ok (.bl (s.hold ah be),false,false)
 | .yes,n,w=>by
  refine aG (F:=rA v f) hF rfl (v:=.cl (.bl true)) ?_
  exact cs (aV (bE (v0_ rfl) rfl (fU _ _ rfl))) (eG (dG rfl aNQ) (aS rfl))
 | .cmp i a b,n,w=>by
  obtain⟨w1,w2⟩:a.wf c pl/\b.wf c pl:=w
  have c1:=jO hV ha hb hn hbd a (n+b.sz) w1
  have c2:=jO hV ha hb hn hbd b (n+a.sz) w2
  rw[show n+b.sz+a.sz=n+a.sz+b.sz by omega] at c1
  have e:n+Cn.sz (.cmp i a b)=n+a.sz+b.sz+1:=by show n+(1+a.sz+b.sz)=_;omega
  rw[e]
  refine aG (F:=rA v f) hF rfl (v:=.cl (.bl (Cn.hold ah be (.cmp i a b)))) ?_
  refine cs (aV (bE (v0_ (Cn.noL _)) rfl (fU _ _ rfl))) (cs (bV (dG rfl (aNT i))) (cs (bV (dG rfl (aNU i))) (cs (bV (dG rfl (aNV i))) (cs (bV (dG rfl (aNW i))) (cs (aV (bW (bE (v0_ (Cn.noL _)) rfl (fV _ _ _ a.noL)) (v1_ (aR _)) (v2_ hn) c1)) (cs (aV (bW (bE (v0_ (Cn.noL _)) rfl (aAo _ _ _ _ b.noL)) (v1_ (aR _)) (v2_ hn) c2)) (aS (aBm (dG rfl (aNX i)) ?_))))))))
  cases i <;> rfl
 | .nt x,n,w=>by
  have c1:=mL hV hF ha hb hn hbd x n w
  have e:n+Cn.sz (.nt x)=n+x.sz+1:=by show n+(1+x.sz)=_;omega
  rw[e]
  refine aG (F:=rA v f) hF rfl (v:=.cl (.bl (Cn.hold ah be (.nt x)))) ?_
  exact cs (aV (bE (v0_ (Cn.noL _)) rfl (fU _ _ rfl))) (cs (bV (dG rfl aNR)) (eG (dG rfl aNS) (aS (aJt (bW (bE (v0_ (Cn.noL _)) rfl (fV _ _ _ x.noL)) (v1_ (aR _)) (v2_ hn) c1)))))
 | .two p a b,n,w=>by
  obtain⟨w1,w2⟩:a.wf c pl/\b.wf c pl:=w
  have c1:=mL hV hF ha hb hn hbd a (n+b.sz) w1
  have c2:=mL hV hF ha hb hn hbd b (n+a.sz) w2
  rw[show n+b.sz+a.sz=n+a.sz+b.sz by omega] at c1
  have e:n+Cn.sz (.two p a b)=n+a.sz+b.sz+1:=by show n+(1+a.sz+b.sz)=_;omega
  rw[e]
  refine aG (F:=rA v f) hF rfl (v:=.cl (.bl (Cn.hold ah be (.two p a b)))) ?_
  refine cs (aV (bE (v0_ (Cn.noL _)) rfl (fU _ _ rfl))) (cs (bV (dG rfl (aNY p))) (cs (bV (dG rfl (aNZ p))) ?_))
  cases p with
  | true=>exact eG (dG rfl (aMg true)) (aS (aEC (bW (bE (v0_ (Cn.noL _)) rfl (fV _ _ _ a.noL)) (v1_ (aR _)) (v2_ hn) c1) (bW (bE (v0_ (Cn.noL _)) rfl (aAo _ _ _ _ b.noL)) (v1_ (aR _)) (v2_ hn) c2)))
  | false=>exact cs (bV (dG rfl (aMg false))) (eG (dG rfl (aOa false)) (aS (aLY (bW (bE (v0_ (Cn.noL _)) rfl (fV _ _ _ a.noL)) (v1_ (aR _)) (v2_ hn) c1) (bW (bE (v0_ (Cn.noL _)) rfl (aAo _ _ _ _ b.noL)) (v1_ (aR _)) (v2_ hn) c2))))
def condTab:List (Str×D):=[("yes",.tup []),("is",.tup [.str "sum",.str "sum"]),("less",.tup [.str "sum",.str "sum"]),("not",.tup [.str "cond"]),("both",.tup [.str "cond",.str "cond"]),("either",.tup [.str "cond",.str "cond"])]
def Cn.word:Cn->Str
 | .yes => "yes" | .cmp i _ _=>oM i|.nt _ => "not" | .two p _ _=>kP p
def Cn.rest:Cn->List D
 | .yes=>[]|.cmp _ a b=>[a.d,b.d]|.nt x=>[x.d]|.two _ a b=>[a.d,b.d]
def Cn.form:Cn->List Str
 | .yes=>[]|.cmp _ _ _=>["sum", "sum"]|.nt _=>["cond"]|.two _ _ _=>["cond", "cond"]
theorem Cn.d_eq:∀s:Cn,s.d=.tup (.str s.word::s.rest)
 | .yes=>rfl|.cmp _ _ _=>rfl|.nt _=>rfl|.two _ _ _=>rfl
theorem Cn.rest_noL:∀s:Cn,noLs s.rest=true
 | .yes=>rfl
 | .cmp _ a b=>by simp[Cn.rest,noLs,a.noL,b.noL]
 | .nt x=>by simp[Cn.rest,noLs,x.noL]
 | .two _ a b=>by simp[Cn.rest,noLs,a.noL,b.noL]
theorem Cn.len_eq:∀s:Cn,s.rest.length=s.form.length
 | .yes=>rfl|.cmp _ _ _=>rfl|.nt _=>rfl|.two _ _ _=>rfl
theorem Cn.look:∀s:Cn,condTab.lookup s.word=some (.tup (s.form.map D.str))
 | .yes=>by rfl
 | .cmp true _ _=>by rfl
 | .cmp false _ _=>by rfl
 | .nt _=>by rfl
 | .two true _ _=>by rfl
 | .two false _ _=>by rfl
theorem Cn.notAfter:∀s:Cn,(s.word == "after")=false
 | .yes=>by show(("yes" : Str) == "after")=false;decide +kernel
 | .cmp true _ _=>by show(oM true == "after")=false;decide +kernel
 | .cmp false _ _=>by show(oM false == "after")=false;decide +kernel
 | .nt _=>by show(("not" : Str) == "after")=false;decide +kernel
 | .two true _ _=>by show(kP true == "after")=false;decide +kernel
 | .two false _ _=>by show(kP false == "after")=false;decide +kernel
theorem aEF{P:Pg}{fo:Nat}(hF:P.fns[fo]? = some fForm)(hT:P.tabs[1]? = some condTab)(n:Nat)(s:Cn){pl:Bool}:call P (n+1) fo [.str "cond",s.d,.bl pl]=.ok (.tup (s.form.map D.str),false,false):=by
 have v1:=dP 1 true s.noL
 rw[s.d_eq] at v1 ⊢
 have i0:=fU (.str s.word) s.rest rfl
 have qs:(("cond" : Str) == "sum")=false:=by decide +kernel
 have hln:((.str s.word::s.rest:List D).length:Int)=(s.form.length:Int)+1:=by rw[lC,s.len_eq];omega
 have h0:((((.str s.word::s.rest:List D).length:Int))==0)=false:=by rw[hln];exact Bb.mpr (by omega)
 have t1:tst P (call P n) [.sh true (.str "cond"),.sh true (.tup (.str s.word::s.rest)),.sh true (.bl pl),.x,.x] (.orr (.nt (.isi (.v 1) [.tTuple])) (.orr (.cmp .Eq (.bi .len (.k (.v 1) .z)) (.c (.int 0))) (.nt (.isi (.idx (.v 1) (.c (.int 0))) [.tStr]))))=.ok false:=by
  simp only[fS,lH,aBh,dD,gE,aC,qY,iQ,aH,bI,bY,gS,gZ,v1,aA,dE,aBk,Ck,bF,if_false,gO,fP,gM,h0,i0,aBj]
 have t2:tst P (call P n) [.sh true (.str "cond"),.sh true (.tup (.str s.word::s.rest)),.sh true (.bl pl),.sh false (.str s.word),.sh false (.tup (s.form.map D.str))] (.orr (.cmp .Is (.v 4) (.c .non)) (.cmp .NotEq (.bi .len (.k (.v 1) .z)) (.op .Add (.bi .len (.k (.v 4) .z)) (.c (.int 1)))))=.ok false:=by
  have hi:cG .Is (.tup (s.form.map D.str)) .non=some false:=rfl
  have hq:(((s.form.length:Int)+1==(s.form.length:Int)+1))=true:=Bm _
  simp only[fS,dD,gE,aC,qY,xS,aH,bI,bY,gS,gZ,v1,bU,aA,dE,hi,bF,if_false,gO,hln,lM,add_int,vE,gM,hq,Option.map_some,Ck]
 have t3:tst P (call P n) [.sh true (.str "cond"),.sh true (.tup (.str s.word::s.rest)),.sh true (.bl pl),.sh false (.str s.word),.sh false (.tup (s.form.map D.str))] (.an (.v 2) (.cmp .Eq (.v 3) (.c (.str "after"))))=.ok false:=by
  simp only[aAk,aHf,dD,gE,aC,bY,gS,gZ,nL,bU,aA,vD,dE,fP,gN,s.notAfter]
  cases pl <;> rfl
 refine aG (F:=fForm) hF rfl (v:=.cl (.tup (s.form.map D.str))) ?_
 have hl:=s.look
 show exs P (call P n) [.sh true (.str "cond"),.sh true (.tup (.str s.word::s.rest)),.sh true (.bl pl),.x,.x] fForm.body=_
 unfold fForm
 simp only[bZ,eV,eU,t1,bJ,bF,if_false,rY,fO,iQ,gE,aC,bY,gS,gZ,v1,aA,i0,hZ,cP,kN,dO,lS,lZ,aAj,dD,oX,dE,fP,gN,qs,xX,bU,hT,hl,Option.getD_some,t2,t3,oU,qW]
theorem kG{P:Pg}{cl:Caller}{s0 s1 s3 s4 s6 s7:Sl}(s:Cn):walk P cl [s0,s1,.sh true s.d,s3,s4,.sh false (.tup (s.form.map D.str)),s6,s7] (.zip (.v 5) (.sli (.v 2) (.k (.c (.int 1)) .z) .z)) =
 .ok ((s.form.zip s.rest).map λp=>iD p.1 p.2,[]):=by
 have v2:=dP 2 true s.noL
 have k1:aN 1=true:=by decide
 have hno:noLs (.str s.word::s.rest)=true:=by simp[noLs,Hp.noL,s.rest_noL]
 have hcut:cut (.str s.word::s.rest) (some 1) none=s.rest:=by cases s <;> rfl
 have hs:dQ (.cl (.tup (.str s.word::s.rest))) (some 1) none=.ok (.cl (.tup s.rest)):=by
  unfold dQ
  simp only[dE,hcut,xW,Bool.false_and,hno,if_true]
  rfl
 have two:∀(w:Str) {a b:D},Hp.noL a=true->Hp.noL b=true->items ⟨.non,false,false,[]⟩ (fC ([w,w].map D.str) [a,b])=[iD w a,iD w b]:=λw a b ha hb=>by
  show [Vl.sub _ (.tup [.str w,a]),Vl.sub _ (.tup [.str w,b])]=[iD w a,iD w b]
  rw[cC (by simp[Hp.noL,noLs,ha]),cC (by simp[Hp.noL,noLs,hb])]
  rfl
 have hz:items ⟨.non,false,false,[]⟩ (fC (s.form.map D.str) s.rest)=(s.form.zip s.rest).map λp=>iD p.1 p.2:=by
  cases s with
  | yes=>rfl
  | cmp _ a b=>exact two _ a.noL b.noL
  | nt x=>
   show [Vl.sub _ (.tup [.str "cond",x.d])]=[iD "cond" x.d]
   rw[cC (by simp[Hp.noL,noLs,x.noL])]
   rfl
  | two p a b=>exact two _ a.noL b.noL
 rw[s.d_eq] at v2 ⊢
 simp only[jJ,gE,aBn,aC,bY,gS,gZ,v2,bU,aA,dE,k1,xR,hs,iZ,xW,Bool.or_self,hZ,Ch]
 rw[hz]
theorem aOb:(("cond" : Str) == "sum")=false:=by decide +kernel
theorem aOc:(("cond" : Str) == "cond")=true:=by decide +kernel
theorem nO{P:Pg}{ch lo M:Nat}{bs:List D}{s1 s2 s5:Sl}{pl:Bool}{m m':Int}{d:D}(c1:call P M lo [.lst bs,.str "cond",d,.bl pl,.int m]=.ok (.int m',false,false)) :
 exs P (call P M) [.sh true (.lst bs),s1,s2,.sh true (.bl pl),.sh false (.int m),s5,.sh false (.str "cond"),.sh false d] (dU ch lo)=.next [.sh true (.lst bs),s1,s2,.sh true (.bl pl),.sh false (.int m'),s5,.sh false (.str "cond"),.sh false d]:=by
 simp only[dU,bZ,eV,eU,fS,dD,gE,aC,bY,gS,gZ,bU,aA,dE,fP,gN,aOb,aOc,bF,if_false,if_true,bJ,fO,dC,aH,bI,oY,nL,mC,mN,c1,lI,hZ,cP,kN,dO,lS,lZ,rY]
section
variable {P:Pg} {wh wi ch fo lo:Nat} (hW:P.fns[wh]? = some fWhole) (hI:P.fns[wi]? = some (fWithin wh)) (hC:P.fns[ch]? = some (fCheck wi)) (hO:P.fns[fo]? = some fForm) (hT:P.tabs[0]? = some sumTab) (hU:P.tabs[1]? = some condTab) (hL:P.fns[lo]? = some (fLook fo ch lo))
include hW hI hC hO hT hU hL
theorem mM{m:Nat}{bs:List D}{s:Cn}{pl:Bool}{seen r:Int}{s6 s7:Sl}(hs:seen<40)
 (hfor:ex P (call P (m+1)) [.sh true (.lst bs),.sh true (.str "cond"),.sh true s.d,.sh true (.bl pl),.sh false (.int (seen+1)),.sh false (.tup (s.form.map D.str)),.x,.x] (.for (.t [6,7]) (.zip (.v 5) (.sli (.v 2) (.k (.c (.int 1)) .z) .z)) (dU ch lo)) =
  .next [.sh true (.lst bs),.sh true (.str "cond"),.sh true s.d,.sh true (.bl pl),.sh false (.int r),.sh false (.tup (s.form.map D.str)),s6,s7]) :
 call P (m+2) lo [.lst bs,.str "cond",s.d,.bl pl,.int seen]=.ok (.int r,false,false):=by
 have c1:=aEF hO hU m s (pl:=pl)
 have v2:=dP 2 true s.noL
 have q40:(seen==40)=false:=Bb.mpr (by omega)
 refine aG (F:=fLook fo ch lo) hL rfl (v:=.cl (.int r)) ?_
 show exs P (call P (m+1)) [.sh true (.lst bs),.sh true (.str "cond"),.sh true s.d,.sh true (.bl pl),.sh true (.int seen),.x,.x,.x] (.k (.iff (.cmp .Eq (.v 4) (.c (.int 40)))
  (.k (.rse 2 false (.k (.c (.str "a condition or sum has at most forty parts")) .z))
  .z)
  .z)
 (.k (.set (.n 4) (.op .Add (.v 4) (.c (.int 1))))
 (.k (.set (.n 5) (.call fo (.k (.v 1) (.k (.v 2) (.k (.v 3) .z)))))
 (.k (.for (.t [6,7]) (.zip (.v 5) (.sli (.v 2) (.k (.c (.int 1)) .z) .z)) (dU ch lo))
 (.k (.retv 4)
 .z)))))=_
 simp only[bZ,eV,eU,dD,gE,aC,bY,gS,gZ,oW,aA,dE,fP,gM,q40,bF,if_false,bJ,rY,fO,xS,add_int,hZ,cP,kN,dO,lS,lZ,dC,aH,bI,oX,v2,nL,mC,mN,c1,lI,hfor,oU,qW]
theorem jP{bs:List D}{c:Nat}(hc:bs.length=c){pl:Bool}:∀(s:Cn) (n:Nat) (seen:Int),s.wf c pl->seen+s.sz<=40->call P (n+3+s.sz) lo [.lst bs,.str "cond",s.d,.bl pl,.int seen]=.ok (.int (seen+s.sz),false,false)
 | .yes,n,seen,w,h=>by
  have h:seen+1<=40:=h
  refine mM hW hI hC hO hT hU hL (m:=n+2) (s:=.yes) (s6:=.x) (s7:=.x) (by omega) ?_
  rw[jK,kG,bJ]
  rfl
 | .cmp i a b,n,seen,w,h=>by
  have h:seen+((1+a.sz+b.sz:Nat):Int)<=40:=h
  obtain⟨w1,w2⟩:a.wf c pl/\b.wf c pl:=w
  have pa:=a.sz_pos
  have c1:=mK hW hI hC hO hT hL hc a (n+b.sz) (seen+1) w1 (by omega)
  have c2:=mK hW hI hC hO hT hL hc b (n+a.sz) (seen+1+a.sz) w2 (by omega)
  have e1:n+b.sz+3+a.sz=n+2+a.sz+b.sz+1:=by omega
  have e2:n+a.sz+3+b.sz=n+2+a.sz+b.sz+1:=by omega
  rw[e1] at c1
  rw[e2] at c2
  have e3:n+3+Cn.sz (.cmp i a b)=n+2+a.sz+b.sz+2:=by show n+3+(1+a.sz+b.sz)=_;omega
  have e4:seen+((Cn.sz (.cmp i a b):Nat):Int)=seen+1+a.sz+b.sz:=by show seen+((1+a.sz+b.sz:Nat):Int)=_;omega
  rw[e3,e4]
  refine mM hW hI hC hO hT hU hL (m:=n+2+a.sz+b.sz) (s6:=.sh false (.str "sum")) (s7:=.sh false b.d) (by omega) ?_
  rw[jK,kG,bJ]
  have ef:(Cn.cmp i a b).form=[("sum" : Str),("sum" : Str)]:=rfl
  have er:(Cn.cmp i a b).rest=[a.d,b.d]:=rfl
  simp only[ef,er,A8,Cp,mC,mN,cP,eF,oC a.noL,oC b.noL,bJ,mJ c1,mJ c2]
 | .nt x,n,seen,w,h=>by
  have h:seen+((1+x.sz:Nat):Int)<=40:=h
  have pa:=x.sz_pos
  have c1:=jP hc x n (seen+1) w (by omega)
  have e1:n+3+x.sz=n+2+x.sz+1:=by omega
  rw[e1] at c1
  have e3:n+3+Cn.sz (.nt x)=n+2+x.sz+2:=by show n+3+(1+x.sz)=_;omega
  have e4:seen+((Cn.sz (.nt x):Nat):Int)=seen+1+x.sz:=by show seen+((1+x.sz:Nat):Int)=_;omega
  rw[e3,e4]
  refine mM hW hI hC hO hT hU hL (m:=n+2+x.sz) (s6:=.sh false (.str "cond")) (s7:=.sh false x.d) (by omega) ?_
  rw[jK,kG,bJ]
  have ef:(Cn.nt x).form=[("cond" : Str)]:=rfl
  have er:(Cn.nt x).rest=[x.d]:=rfl
  simp only[ef,er,A8,Cp,mC,mN,cP,eF,oC x.noL,bJ,nO c1]
 | .two p a b,n,seen,w,h=>by
  have h:seen+((1+a.sz+b.sz:Nat):Int)<=40:=h
  obtain⟨w1,w2⟩:a.wf c pl/\b.wf c pl:=w
  have pa:=a.sz_pos
  have c1:=jP hc a (n+b.sz) (seen+1) w1 (by omega)
  have c2:=jP hc b (n+a.sz) (seen+1+a.sz) w2 (by omega)
  have e1:n+b.sz+3+a.sz=n+2+a.sz+b.sz+1:=by omega
  have e2:n+a.sz+3+b.sz=n+2+a.sz+b.sz+1:=by omega
  rw[e1] at c1
  rw[e2] at c2
  have e3:n+3+Cn.sz (.two p a b)=n+2+a.sz+b.sz+2:=by show n+3+(1+a.sz+b.sz)=_;omega
  have e4:seen+((Cn.sz (.two p a b):Nat):Int)=seen+1+a.sz+b.sz:=by show seen+((1+a.sz+b.sz:Nat):Int)=_;omega
  rw[e3,e4]
  refine mM hW hI hC hO hT hU hL (m:=n+2+a.sz+b.sz) (s6:=.sh false (.str "cond")) (s7:=.sh false b.d) (by omega) ?_
  rw[jK,kG,bJ]
  have ef:(Cn.two p a b).form=[("cond" : Str),("cond" : Str)]:=rfl
  have er:(Cn.two p a b).rest=[a.d,b.d]:=rfl
  simp only[ef,er,A8,Cp,mC,mN,cP,eF,oC a.noL,oC b.noL,bJ,nO c1,nO c2]
end
end HpS
end
noncomputable section
namespace K66
open Hp
def f0:Hp.Fn:=⟨3,6,
 (.k (.set (.n 3) (.idx (.v 0) (.c (.int 0))))
 (.k (.iff (.cmp .Eq (.v 3) (.c (.str "number")))
  (.k (.ret (.idx (.v 0) (.c (.int 1))))
  .z)
  .z)
 (.k (.iff (.cmp .Eq (.v 3) (.c (.str "box")))
  (.k (.ret (.idx (.v 1) (.idx (.v 0) (.c (.int 1)))))
  .z)
  .z)
 (.k (.iff (.cmp .Eq (.v 3) (.c (.str "after")))
  (.k (.ret (.idx (.v 2) (.idx (.v 0) (.c (.int 1)))))
  .z)
  .z)
 (.k (.set (.n 4) (.call 0 (.k (.idx (.v 0) (.c (.int 1))) (.k (.v 1) (.k (.v 2) .z)))))
 (.k (.set (.n 5) (.call 0 (.k (.idx (.v 0) (.c (.int 2))) (.k (.v 1) (.k (.v 2) .z)))))
 (.k (.ret (.ife (.cmp .Eq (.v 3) (.c (.str "plus"))) (.op .Add (.v 4) (.v 5)) (.op .Sub (.v 4) (.v 5))))
 .z)))))))⟩
def f1:Hp.Fn:=⟨3,6,
 (.k (.set (.n 3) (.idx (.v 0) (.c (.int 0))))
 (.k (.iff (.cmp .Eq (.v 3) (.c (.str "yes")))
  (.k (.ret (.c (.bl true)))
  .z)
  .z)
 (.k (.iff (.cmp .Eq (.v 3) (.c (.str "not")))
  (.k (.ret (.nt (.call 1 (.k (.idx (.v 0) (.c (.int 1))) (.k (.v 1) (.k (.v 2) .z))))))
  .z)
  .z)
 (.k (.iff (.cmp .Eq (.v 3) (.c (.str "both")))
  (.k (.ret (.an (.call 1 (.k (.idx (.v 0) (.c (.int 1))) (.k (.v 1) (.k (.v 2) .z)))) (.call 1 (.k (.idx (.v 0) (.c (.int 2))) (.k (.v 1) (.k (.v 2) .z))))))
  .z)
  .z)
 (.k (.iff (.cmp .Eq (.v 3) (.c (.str "either")))
  (.k (.ret (.orr (.call 1 (.k (.idx (.v 0) (.c (.int 1))) (.k (.v 1) (.k (.v 2) .z)))) (.call 1 (.k (.idx (.v 0) (.c (.int 2))) (.k (.v 1) (.k (.v 2) .z))))))
  .z)
  .z)
 (.k (.set (.n 4) (.call 0 (.k (.idx (.v 0) (.c (.int 1))) (.k (.v 1) (.k (.v 2) .z)))))
 (.k (.set (.n 5) (.call 0 (.k (.idx (.v 0) (.c (.int 2))) (.k (.v 1) (.k (.v 2) .z)))))
 (.k (.ret (.ife (.cmp .Eq (.v 3) (.c (.str "is"))) (.cmp .Eq (.v 4) (.v 5)) (.cmp .Lt (.v 4) (.v 5))))
 .z))))))))⟩
def f2:Hp.Fn:=⟨3,7,
 (.k (.iff (.nt (.call 1 (.k (.idx (.v 1) (.c (.int 0))) (.k (.v 2) (.k (.c .non) .z)))))
  (.k (.ret (.c .non))
  .z)
  .z)
 (.k (.set (.n 3) (.bi .list (.k (.v 2) .z)))
 (.k (.for (.t [4,5]) (.seq (.idx (.v 1) (.c (.int 1))))
  (.k (.set (.n 6) (.call 0 (.k (.v 5) (.k (.v 2) (.k (.c .non) .z)))))
  (.k (.iff (.nt (.cmp2 .LtE .LtE (.c (.int 0)) (.v 6) (.idx (.idx (.v 0) (.v 4)) (.c (.int 1)))))
   (.k (.ret (.c .non))
   .z)
   .z)
  (.k (.setIx 3 (.v 4) (.v 6))
  .z))))
 (.k (.ret (.bi .tuple (.k (.v 3) .z)))
 .z))))⟩
def f3:Hp.Fn:=⟨1,2,
 (.k (.iff (.orr (.nt (.isi (.v 0) [.tList])) (.nt (.cmp2 .LtE .LtE (.c (.int 1)) (.bi .len (.k (.v 0) .z)) (.c (.int 5)))))
  (.k (.rse 4 false (.k (.c (.str "boxes are a list of one to five tuples (name, top)")) .z))
  .z)
  .z)
 (.k (.set (.n 1) (.comp 1 [] (.n 0) (.seq (.v 0)) .z (.call 4 (.k (.v 0) .z))))
 (.k (.iff (.cmp .Lt (.numset (.comp 2 [] (.t [0,1]) (.seq (.v 1)) .z (.v 0))) (.bi .len (.k (.v 1) .z)))
  (.k (.rse 4 false (.k (.c (.str "no two boxes have the same name")) .z))
  .z)
  .z)
 (.k (.iff (.cmp .Gt (.call 6 (.k (.v 1) .z)) (.c (.int 24)))
  (.k (.rse 2 false (.k (.c (.str "boxes have at most twenty-four stands")) .z))
  .z)
  .z)
 (.k (.retv 1)
 .z)))))⟩
def f4:Hp.Fn:=⟨1,1,
 (.k (.iff (.orr (.nt (.isi (.v 0) [.tTuple])) (.cmp .NotEq (.bi .len (.k (.v 0) .z)) (.c (.int 2))))
  (.k (.rse 4 false (.k (.c (.str "a box is a tuple (name, top)")) .z))
  .z)
  .z)
 (.k (.iff (.nt (.call 5 (.k (.idx (.v 0) (.c (.int 0))) .z)))
  (.k (.rse 4 false (.k (.c (.str "a box's name is a text of one to eight small letters")) .z))
  .z)
  .z)
 (.k (.iff (.nt (.call 15 (.k (.idx (.v 0) (.c (.int 1))) (.k (.c (.int 1)) (.k (.c (.int 7)) .z)))))
  (.k (.rse 4 false (.k (.c (.str "a box's top is a whole number from 1 to 7")) .z))
  .z)
  .z)
 (.k (.ret (.tup (.k (.idx (.v 0) (.c (.int 0))) (.k (.idx (.v 0) (.c (.int 1))) .z))))
 .z))))⟩
def f5:Hp.Fn:=⟨1,1,
 (.k (.iff (.orr (.nt (.isi (.v 0) [.tStr])) (.nt (.cmp2 .LtE .LtE (.c (.int 1)) (.bi .len (.k (.v 0) .z)) (.c (.int 8)))))
  (.k (.ret (.c (.bl false)))
  .z)
  .z)
 (.k (.ret (.bi .all (.k (.comp 1 [] (.n 0) (.seq (.v 0)) .z (.cmp .In (.v 0) (.c (.str "abcdefghijklmnopqrstuvwxyz")))) .z)))
 .z))⟩
def f6:Hp.Fn:=⟨1,4,
 (.k (.set (.n 1) (.c (.int 1)))
 (.k (.for (.t [2,3]) (.seq (.v 0))
  (.k (.set (.n 1) (.op .Mult (.v 1) (.op .Add (.v 3) (.c (.int 1)))))
  .z))
 (.k (.retv 1)
 .z)))⟩
def f7:Hp.Fn:=⟨1,6,
 (.k (.set (.n 1) (.lst (.k (.tup .z) .z)))
 (.k (.for (.t [2,3]) (.seq (.v 0))
  (.k (.set (.n 4) (.lst .z))
  (.k (.for (.n 5) (.seq (.v 1))
   (.k (.ext 4 (.comp 1 [5] (.n 0) (.rng (.c (.int 0)) (.op .Add (.v 3) (.c (.int 1)))) .z (.op .Add (.v 1) (.tup (.k (.v 0) .z)))))
   .z))
  (.k (.mov 1 4)
  .z))))
 (.k (.retv 1)
 .z)))⟩
def f8:Hp.Fn:=⟨2,2,
 (.k (.iff (.orr (.nt (.isi (.v 1) [.tTuple])) (.cmp .NotEq (.bi .len (.k (.v 1) .z)) (.bi .len (.k (.v 0) .z))))
  (.k (.ret (.c (.bl false)))
  .z)
  .z)
 (.k (.ret (.bi .all (.k (.comp 2 [] (.t [0,1]) (.zip (.v 0) (.v 1)) .z (.call 15 (.k (.v 1) (.k (.c (.int 0)) (.k (.idx (.v 0) (.c (.int 1))) .z))))) .z)))
 .z))⟩
def f9:Hp.Fn:=⟨2,2,
 (.k (.ret (.comp 1 [1] (.n 0) (.seq (.call 7 (.k (.v 0) .z))) (.k (.call 1 (.k (.v 1) (.k (.v 0) (.k (.c .non) .z)))) .z) (.v 0)))
 .z)⟩
def f10:Hp.Fn:=⟨1,1,
 (.k (.ret (.sset (.comp 1 [] (.n 0) (.seq (.call 11 (.k (.v 0) .z))) (.k (.cmp .Eq (.idx (.v 0) (.c (.int 0))) (.c (.str "box"))) .z) (.idx (.v 0) (.c (.int 1))))))
 .z)⟩
def f11:Hp.Fn:=⟨1,3,
 (.k (.set (.n 1) (.lst (.k (.v 0) .z)))
 (.k (.for (.n 2) (.seq (.sli (.v 0) (.k (.c (.int 1)) .z) .z))
  (.k (.iff (.isi (.v 2) [.tTuple])
   (.k (.ext 1 (.call 11 (.k (.v 2) .z)))
   .z)
   .z)
  .z))
 (.k (.retv 1)
 .z)))⟩
def f12:Hp.Fn:=⟨1,4,
 (.k (.set (.n 1) (.call 10 (.k (.idx (.v 0) (.c (.int 0))) .z)))
 (.k (.for (.t [2,3]) (.seq (.idx (.v 0) (.c (.int 1))))
  (.k (.ext 1 (.call 10 (.k (.v 3) .z)))
  .z))
 (.k (.ret (.sset (.v 1)))
 .z)))⟩
def f13:Hp.Fn:=⟨1,1,
 (.k (.ret (.comp 2 [] (.t [0,1]) (.seq (.idx (.v 0) (.c (.int 1)))) .z (.v 0)))
 .z)⟩
def f14:Hp.Fn:=⟨1,1,
 (.k (.ret (.an (.isi (.v 0) [.tInt]) (.nt (.isi (.v 0) [.tBool]))))
 .z)⟩
def f15:Hp.Fn:=⟨3,3,
 (.k (.ret (.an (.call 14 (.k (.v 0) .z)) (.cmp2 .LtE .LtE (.v 1) (.v 0) (.v 2))))
 .z)⟩
def f16:Hp.Fn:=⟨3,3,
 (.k (.ex (.call 18 (.k (.v 0) (.k (.c (.str "sum")) (.k (.v 1) (.k (.v 2) (.k (.c (.int 0)) .z)))))))
 (.k (.retv 1)
 .z))⟩
def f17:Hp.Fn:=⟨3,3,
 (.k (.ex (.call 18 (.k (.v 0) (.k (.c (.str "cond")) (.k (.v 1) (.k (.v 2) (.k (.c (.int 0)) .z)))))))
 (.k (.retv 1)
 .z))⟩
def f18:Hp.Fn:=⟨5,8,
 (.k (.iff (.cmp .Eq (.v 4) (.c (.int 40)))
  (.k (.rse 2 false (.k (.c (.str "a condition or sum has at most forty parts")) .z))
  .z)
  .z)
 (.k (.set (.n 4) (.op .Add (.v 4) (.c (.int 1))))
 (.k (.set (.n 5) (.call 19 (.k (.v 1) (.k (.v 2) (.k (.v 3) .z)))))
 (.k (.for (.t [6,7]) (.zip (.v 5) (.sli (.v 2) (.k (.c (.int 1)) .z) .z))
  (.k (.iff (.orr (.cmp .Eq (.v 6) (.c (.str "sum"))) (.cmp .Eq (.v 6) (.c (.str "cond"))))
   (.k (.set (.n 4) (.call 18 (.k (.v 0) (.k (.v 6) (.k (.v 7) (.k (.v 3) (.k (.v 4) .z)))))))
   .z)
   (.k (.ex (.call 20 (.k (.v 0) (.k (.v 6) (.k (.v 7) .z)))))
   .z))
  .z))
 (.k (.retv 4)
 .z)))))⟩
def f19:Hp.Fn:=⟨3,5,
 (.k (.iff (.orr (.nt (.isi (.v 1) [.tTuple])) (.orr (.cmp .Eq (.bi .len (.k (.v 1) .z)) (.c (.int 0))) (.nt (.isi (.idx (.v 1) (.c (.int 0))) [.tStr]))))
  (.k (.rse 1 false (.k (.c (.str "a part is a tuple that begins with a word")) .z))
  .z)
  .z)
 (.k (.set (.n 3) (.idx (.v 1) (.c (.int 0))))
 (.k (.set (.n 4) (.ife (.cmp .Eq (.v 0) (.c (.str "sum"))) (.tget 0 (.v 3)) (.tget 1 (.v 3))))
 (.k (.iff (.orr (.cmp .Is (.v 4) (.c .non)) (.cmp .NotEq (.bi .len (.k (.v 1) .z)) (.op .Add (.bi .len (.k (.v 4) .z)) (.c (.int 1)))))
  (.k (.rse 1 false (.k (.c (.str "a part has a word that is due there, and as many things as go with it")) .z))
  .z)
  .z)
 (.k (.iff (.an (.v 2) (.cmp .Eq (.v 3) (.c (.str "after"))))
  (.k (.rse 1 false (.k (.c (.str "no after stands where a plain one is due")) .z))
  .z)
  .z)
 (.k (.retv 4)
 .z))))))⟩
def f20:Hp.Fn:=⟨3,4,
 (.k (.set (.n 3) (.ife (.cmp .Eq (.v 1) (.c (.str "number"))) (.c (.int 99)) (.op .Sub (.bi .len (.k (.v 0) .z)) (.c (.int 1)))))
 (.k (.iff (.nt (.call 15 (.k (.v 2) (.k (.c (.int 0)) (.k (.v 3) .z)))))
  (.k (.rse 1 false (.k (.c (.str "a number is a whole one from 0 to 99, a box the number of one")) .z))
  .z)
  .z)
 .z))⟩
def f21:Hp.Fn:=⟨2,2,
 (.k (.iff (.orr (.nt (.isi (.v 1) [.tList])) (.cmp .Gt (.bi .len (.k (.v 1) .z)) (.c (.int 8))))
  (.k (.rse 3 false (.k (.c (.str "a hand is a list of none to eight rows")) .z))
  .z)
  .z)
 (.k (.ret (.comp 1 [0,1] (.n 0) (.seq (.v 1)) .z (.call 22 (.k (.v 1) (.k (.v 0) (.k (.bi .len (.k (.v 2) .z)) .z))))))
 .z))⟩
def f22:Hp.Fn:=⟨3,3,
 (.k (.iff (.orr (.nt (.isi (.v 1) [.tList])) (.nt (.cmp2 .LtE .LtE (.c (.int 1)) (.bi .len (.k (.v 1) .z)) (.c (.int 4)))))
  (.k (.rse 3 false (.k (.c (.str "a row is a list of one to four ways")) .z))
  .z)
  .z)
 (.k (.ret (.comp 1 [0,2] (.n 0) (.seq (.v 1)) .z (.call 23 (.k (.v 1) (.k (.v 0) (.k (.v 2) .z))))))
 .z))⟩
def f23:Hp.Fn:=⟨3,3,
 (.k (.iff (.orr (.nt (.isi (.v 1) [.tTuple])) (.cmp .NotEq (.bi .len (.k (.v 1) .z)) (.c (.int 3))))
  (.k (.rse 3 false (.k (.c (.str "a way is a tuple (guard, puts, next)")) .z))
  .z)
  .z)
 (.k (.ex (.call 24 (.k (.v 0) (.k (.idx (.v 1) (.c (.int 0))) .z))))
 (.k (.ex (.call 25 (.k (.v 0) (.k (.idx (.v 1) (.c (.int 1))) .z))))
 (.k (.iff (.nt (.call 15 (.k (.idx (.v 1) (.c (.int 2))) (.k (.c (.int 0)) (.k (.v 2) .z)))))
  (.k (.rse 3 false (.k (.c (.str "a way's next is a place of the hand")) .z))
  .z)
  .z)
 (.k (.retv 1)
 .z)))))⟩
def f24:Hp.Fn:=⟨2,2,
 (.k (.tryN (.k (.ex (.call 17 (.k (.v 0) (.k (.v 1) (.k (.c (.bl true)) .z)))))
  .z))
 .z)⟩
def f25:Hp.Fn:=⟨2,4,
 (.k (.iff (.nt (.isi (.v 1) [.tTuple]))
  (.k (.rse 3 false (.k (.c (.str "puts are a tuple")) .z))
  .z)
  .z)
 (.k (.set (.n 2) (.c (.int 0)))
 (.k (.for (.n 3) (.seq (.v 1))
  (.k (.ex (.call 26 (.k (.v 0) (.k (.v 3) (.k (.v 2) .z)))))
  (.k (.set (.n 2) (.op .Add (.idx (.v 3) (.c (.int 0))) (.c (.int 1))))
  .z)))
 .z)))⟩
def f26:Hp.Fn:=⟨3,3,
 (.k (.iff (.orr (.nt (.isi (.v 1) [.tTuple])) (.cmp .NotEq (.bi .len (.k (.v 1) .z)) (.c (.int 2))))
  (.k (.rse 3 false (.k (.c (.str "a put is a tuple (box, sum)")) .z))
  .z)
  .z)
 (.k (.iff (.nt (.call 15 (.k (.idx (.v 1) (.c (.int 0))) (.k (.v 2) (.k (.op .Sub (.bi .len (.k (.v 0) .z)) (.c (.int 1))) .z)))))
  (.k (.rse 3 false (.k (.c (.str "puts are of the boxes' numbers, rising, each once")) .z))
  .z)
  .z)
 (.k (.tryN (.k (.ex (.call 16 (.k (.v 0) (.k (.idx (.v 1) (.c (.int 1))) (.k (.c (.bl true)) .z)))))
  .z))
 .z)))⟩
def f27:Hp.Fn:=⟨5,10,
 (.k (.set (.n 5) (.call 3 (.k (.v 0) .z)))
 (.k (.set (.n 6) (.call 29 (.k (.v 5) (.k (.v 1) (.k (.c (.bl true)) .z)))))
 (.k (.set (.n 7) (.call 31 (.k (.v 5) (.k (.v 2) .z))))
 (.k (.set (.n 8) (.call 30 (.k (.v 5) (.k (.v 3) (.k (.bi .len (.k (.v 7) .z)) (.k (.c (.bl false)) .z))))))
 (.k (.set (.n 9) (.call 32 (.k (.v 5) (.k (.v 4) (.k (.v 7) .z)))))
 (.k (.iff (.cmp .Gt (.call 34 (.k (.v 5) (.k (.v 7) .z))) (.c (.int 1000)))
  (.k (.rse 2 false (.k (.c (.str "stands and places of a house make at most a thousand states")) .z))
  .z)
  .z)
 (.k (.ret (.tup (.k (.v 5) (.k (.v 6) (.k (.v 7) (.k (.v 8) (.k (.v 9) .z)))))))
 .z)))))))⟩
def f28:Hp.Fn:=⟨2,2,
 (.k (.ret (.ife (.cmp2 .LtE .Lt (.c (.int 0)) (.v 1) (.bi .len (.k (.v 0) .z))) (.idx (.v 0) (.v 1)) (.lst .z)))
 .z)⟩
def f29:Hp.Fn:=⟨3,3,
 (.k (.tryN (.k (.ret (.call 17 (.k (.v 0) (.k (.v 1) (.k (.v 2) .z)))))
  .z))
 .z)⟩
def f30:Hp.Fn:=⟨4,4,
 (.k (.iff (.orr (.nt (.isi (.v 1) [.tList])) (.cmp .NotEq (.bi .len (.k (.v 1) .z)) (.v 2)))
  (.k (.rse 5 false (.k (.c (.str "there is a promise for each hand, and a note for each of its places")) .z))
  .z)
  .z)
 (.k (.ret (.comp 1 [0,3] (.n 0) (.seq (.v 1)) .z (.call 29 (.k (.v 1) (.k (.v 0) (.k (.v 2) .z))))))
 .z))⟩
def f31:Hp.Fn:=⟨2,2,
 (.k (.iff (.orr (.nt (.isi (.v 1) [.tList])) (.nt (.cmp2 .LtE .LtE (.c (.int 1)) (.bi .len (.k (.v 1) .z)) (.c (.int 3)))))
  (.k (.rse 5 false (.k (.c (.str "a house has a list of one to three hands")) .z))
  .z)
  .z)
 (.k (.tryN (.k (.ret (.comp 1 [0] (.n 0) (.seq (.v 1)) .z (.call 21 (.k (.v 1) (.k (.v 0) .z)))))
  .z))
 .z))⟩
def f32:Hp.Fn:=⟨3,3,
 (.k (.iff (.orr (.nt (.isi (.v 1) [.tList])) (.cmp .NotEq (.bi .len (.k (.v 1) .z)) (.bi .len (.k (.v 2) .z))))
  (.k (.rse 5 false (.k (.c (.str "there is a list of notes for each hand")) .z))
  .z)
  .z)
 (.k (.ret (.comp 2 [0] (.t [0,1]) (.zip (.v 1) (.v 2)) .z (.call 30 (.k (.v 2) (.k (.v 0) (.k (.call 33 (.k (.v 1) .z)) (.k (.c (.bl true)) .z)))))))
 .z))⟩
def f33:Hp.Fn:=⟨1,1,
 (.k (.ret (.op .Add (.bi .len (.k (.v 0) .z)) (.c (.int 1))))
 .z)⟩
def f34:Hp.Fn:=⟨2,4,
 (.k (.set (.n 2) (.call 6 (.k (.v 0) .z)))
 (.k (.for (.n 3) (.seq (.v 1))
  (.k (.set (.n 2) (.op .Mult (.v 2) (.call 33 (.k (.v 3) .z))))
  .z))
 (.k (.retv 2)
 .z)))⟩
def f35:Hp.Fn:=⟨3,9,
 (.k (.set (.n 3) (.idx (.v 2) (.c (.int 0))))
 (.k (.iff (.nt (.cmp2 .LtE .Lt (.c (.int 0)) (.v 3) (.bi .len (.k (.idx (.v 0) (.c (.int 2))) .z))))
  (.k (.ret (.c .non))
  .z)
  .z)
 (.k (.set (.n 4) (.idx (.v 1) (.c (.int 0))))
 (.k (.set (.n 5) (.idx (.v 1) (.c (.int 1))))
 (.k (.set (.n 6) (.call 28 (.k (.idx (.idx (.v 0) (.c (.int 2))) (.v 3)) (.k (.idx (.v 5) (.v 3)) .z))))
 (.k (.iff (.nt (.cmp2 .LtE .Lt (.c (.int 0)) (.idx (.v 2) (.c (.int 1))) (.bi .len (.k (.v 6) .z))))
  (.k (.ret (.c .non))
  .z)
  .z)
 (.k (.set (.n 7) (.idx (.v 6) (.idx (.v 2) (.c (.int 1)))))
 (.k (.set (.n 8) (.call 2 (.k (.idx (.v 0) (.c (.int 0))) (.k (.v 7) (.k (.v 4) .z)))))
 (.k (.iff (.cmp .Is (.v 8) (.c .non))
  (.k (.ret (.c .non))
  .z)
  .z)
 (.k (.ret (.tup (.k (.v 8) (.k (.op .Add (.op .Add (.sli (.v 5) .z (.k (.v 3) .z)) (.tup (.k (.idx (.v 7) (.c (.int 2))) .z))) (.sli (.v 5) (.k (.op .Add (.v 3) (.c (.int 1))) .z) .z)) .z))))
 .z))))))))))⟩
def f36:Hp.Fn:=⟨3,7,
 (.k (.iff (.orr (.nt (.call 8 (.k (.idx (.v 0) (.c (.int 0))) (.k (.v 1) .z)))) (.nt (.call 1 (.k (.idx (.v 0) (.c (.int 1))) (.k (.v 1) (.k (.c .non) .z))))))
  (.k (.rse 6 false (.k (.c (.str "a start is a stand of the boxes at which begin holds")) .z))
  .z)
  .z)
 (.k (.set (.n 3) (.call 37 (.k (.v 0) (.k (.v 1) .z))))
 (.k (.set (.n 4) (.lst (.k (.v 3) .z)))
 (.k (.for (.t [5,6]) (.enum (.v 2))
  (.k (.set (.n 3) (.call 35 (.k (.v 0) (.k (.v 3) (.k (.v 6) .z)))))
  (.k (.iff (.cmp .Is (.v 3) (.c .non))
   (.k (.rse 7 true (.k (.v 5) .z))
   .z)
   .z)
  (.k (.app 4 (.v 3))
  .z))))
 (.k (.retv 4)
 .z)))))⟩
def f37:Hp.Fn:=⟨2,2,
 (.k (.ret (.tup (.k (.v 1) (.k (.bi .tuple (.k (.comp 1 [] (.n 0) (.seq (.idx (.v 0) (.c (.int 2)))) .z (.c (.int 0))) .z)) .z))))
 .z)⟩
def f38:Hp.Fn:=⟨3,4,
 (.k (.set (.n 3) (.call 36 (.k (.v 0) (.k (.v 1) (.k (.v 2) .z)))))
 (.k (.ret (.comp 2 [] (.t [0,1]) (.zip (.v 2) (.v 3)) .z (.tup (.k (.idx (.v 0) (.c (.int 0))) (.k (.idx (.idx (.v 1) (.c (.int 1))) (.idx (.v 0) (.c (.int 0)))) (.k (.idx (.v 0) (.c (.int 1))) .z))))))
 .z))⟩
def f39:Hp.Fn:=⟨3,3,
 (.k (.ret (.call 41 (.k (.call 40 (.k (.v 0) (.k (.v 1) .z))) (.k (.call 40 (.k (.v 0) (.k (.v 2) .z))) .z))))
 .z)⟩
def f40:Hp.Fn:=⟨2,3,
 (.k (.set (.n 2) (.idx (.call 28 (.k (.idx (.idx (.v 0) (.c (.int 2))) (.idx (.v 1) (.c (.int 0)))) (.k (.idx (.v 1) (.c (.int 1))) .z))) (.idx (.v 1) (.c (.int 2)))))
 (.k (.ret (.tup (.k (.idx (.v 1) (.c (.int 0))) (.k (.call 13 (.k (.v 2) .z)) (.k (.op .Add (.call 12 (.k (.v 2) .z)) (.call 13 (.k (.v 2) .z))) .z)))))
 .z))⟩
def f41:Hp.Fn:=⟨2,2,
 (.k (.ret (.an (.cmp .NotEq (.idx (.v 0) (.c (.int 0))) (.idx (.v 1) (.c (.int 0)))) (.an (.nt (.call 42 (.k (.idx (.v 0) (.c (.int 1))) (.k (.idx (.v 1) (.c (.int 2))) .z)))) (.nt (.call 42 (.k (.idx (.v 1) (.c (.int 1))) (.k (.idx (.v 0) (.c (.int 2))) .z)))))))
 .z)⟩
def f42:Hp.Fn:=⟨2,2,
 (.k (.ret (.bi .any (.k (.comp 1 [1] (.n 0) (.seq (.v 0)) .z (.cmp .In (.v 0) (.v 1))) .z)))
 .z)⟩
def f43:Hp.Fn:=⟨2,5,
 (.k (.set (.n 2) (.lst .z))
 (.k (.set (.n 3) (.op .Add (.op .Mod (.v 0) (.c (.int 2147483647))) (.c (.int 48271))))
 (.k (.for (.n 4) (.rng (.c (.int 0)) (.op .Add (.v 1) (.c (.int 1))))
  (.k (.set (.n 3) (.op .Mod (.op .Add (.op .Add (.op .Mult (.v 3) (.v 3)) (.op .Mult (.c (.int 48271)) (.v 3))) (.v 4)) (.c (.int 2147483647))))
  (.k (.app 2 (.v 3))
  .z)))
 (.k (.ret (.sli (.v 2) (.k (.c (.int 1)) .z) .z))
 .z))))⟩
def f44:Hp.Fn:=⟨4,4,
 (.k (.iff (.cmp .Eq (.v 2) (.c (.int 0)))
  (.k (.ret (.idx (.lst (.k (.lst (.k (.c (.int 0)) .z)) (.k (.lst (.k (.c (.int 1)) (.k (.c (.int 2)) .z))) (.k (.lst (.k (.c (.int 0)) .z)) .z)))) (.v 1)))
  .z)
  .z)
 (.k (.iff (.cmp .Eq (.op .Mod (.v 0) (.c (.int 4))) (.c (.int 0)))
  (.k (.ret (.comp 1 [] (.n 0) (.rng (.c (.int 0)) (.v 3)) .z (.v 0)))
  .z)
  .z)
 (.k (.iff (.cmp .Eq (.op .Mod (.v 0) (.c (.int 4))) (.c (.int 1)))
  (.k (.ret (.lst (.k (.v 1) .z)))
  .z)
  .z)
 (.k (.iff (.cmp .Eq (.op .Mod (.v 0) (.c (.int 4))) (.c (.int 2)))
  (.k (.ret (.idx (.lst (.k (.lst (.k (.c (.int 0)) .z)) (.k (.lst (.k (.c (.int 1)) (.k (.c (.int 2)) .z))) (.k (.lst (.k (.c (.int 0)) .z)) .z)))) (.v 1)))
  .z)
  .z)
 (.k (.ret (.lst (.k (.v 1) (.k (.c (.int 2)) .z))))
 .z)))))⟩
def f45:Hp.Fn:=⟨3,9,
 (.k (.set (.n 3) (.idx (.v 2) (.op .Mod (.idx (.v 0) (.c (.int 0))) (.bi .len (.k (.v 2) .z)))))
 (.k (.set (.n 4) (.tup (.k (.c (.str "number")) (.k (.op .Mod (.idx (.v 0) (.c (.int 1))) (.c (.int 3))) .z))))
 (.k (.set (.n 5) (.tup (.k (.idx (.lst (.k (.c (.str "is")) (.k (.c (.str "less")) .z))) (.op .Mod (.idx (.v 0) (.c (.int 2))) (.c (.int 2)))) (.k (.tup (.k (.c (.str "box")) (.k (.v 3) .z))) (.k (.v 4) .z)))))
 (.k (.set (.n 6) (.tup (.k (.c (.str "box")) (.k (.idx (.v 2) (.op .Mod (.op .FloorDiv (.idx (.v 0) (.c (.int 1))) (.c (.int 3))) (.bi .len (.k (.v 2) .z)))) .z))))
 (.k (.set (.n 7) (.lst (.k (.tup (.k (.c (.str "yes")) .z)) (.k (.tup (.k (.c (.str "yes")) .z)) (.k (.tup (.k (.c (.str "yes")) .z)) (.k (.v 5) (.k (.tup (.k (.c (.str "not")) (.k (.v 5) .z))) .z)))))))
 (.k (.set (.n 8) (.tup (.k (.c (.str "is")) (.k (.tup (.k (.c (.str "minus")) (.k (.v 6) (.k (.tup (.k (.c (.str "box")) (.k (.v 3) .z))) .z)))) (.k (.tup (.k (.c (.str "number")) (.k (.c (.int 0)) .z))) .z)))))
 (.k (.app 7 (.tup (.k (.c (.str "either")) (.k (.v 5) (.k (.v 8) .z)))))
 (.k (.set (.n 8) (.tup (.k (.c (.str "less")) (.k (.v 6) (.k (.tup (.k (.c (.str "plus")) (.k (.tup (.k (.c (.str "box")) (.k (.v 3) .z))) (.k (.tup (.k (.c (.str "number")) (.k (.c (.int 1)) .z))) .z)))) .z)))))
 (.k (.ret (.idx (.op .Add (.v 7) (.lst (.k (.tup (.k (.c (.str "both")) (.k (.v 8) (.k (.tup (.k (.c (.str "not")) (.k (.v 5) .z))) .z)))) .z))) (.op .Mod (.idx (.v 0) (.c (.int 3))) (.c (.int 7)))))
 .z)))))))))⟩
def f46:Hp.Fn:=⟨3,9,
 (.k (.set (.n 3) (.lst .z))
 (.k (.for (.n 4) (.rng (.c (.int 0)) (.op .Mod (.idx (.v 0) (.c (.int 0))) (.c (.int 3))))
  (.k (.set (.n 5) (.idx (.v 2) (.op .Mod (.idx (.v 0) (.op .Add (.c (.int 1)) (.v 4))) (.bi .len (.k (.v 2) .z)))))
  (.k (.set (.n 6) (.tup (.k (.c (.str "number")) (.k (.idx (.idx (.v 1) (.v 5)) (.c (.int 1))) .z))))
  (.k (.set (.n 7) (.tup (.k (.c (.str "box")) (.k (.idx (.v 2) (.op .Mod (.idx (.v 0) (.op .Add (.c (.int 3)) (.v 4))) (.bi .len (.k (.v 2) .z)))) .z))))
  (.k (.set (.n 8) (.lst (.k (.tup (.k (.c (.str "minus")) (.k (.v 6) (.k (.tup (.k (.c (.str "box")) (.k (.v 5) .z))) .z)))) (.k (.tup (.k (.c (.str "number")) (.k (.op .Mod (.idx (.v 0) (.op .Add (.c (.int 3)) (.v 4))) (.c (.int 2))) .z))) .z))))
  (.k (.set (.n 8) (.op .Add (.v 8) (.lst (.k (.v 7) (.k (.tup (.k (.c (.str "plus")) (.k (.v 7) (.k (.tup (.k (.c (.str "number")) (.k (.c (.int 0)) .z))) .z)))) .z)))))
  (.k (.iff (.orr (.cmp .Eq (.bi .len (.k (.v 3) .z)) (.c (.int 0))) (.cmp .Lt (.idx (.idx (.v 3) (.neg (.c (.int 1)))) (.c (.int 0))) (.v 5)))
   (.k (.app 3 (.tup (.k (.v 5) (.k (.idx (.v 8) (.op .Mod (.idx (.v 0) (.op .Add (.c (.int 5)) (.v 4))) (.c (.int 4)))) .z))))
   .z)
   .z)
  .z)))))))
 (.k (.ret (.bi .tuple (.k (.v 3) .z)))
 .z)))⟩
def f47:Hp.Fn:=⟨5,14,
 (.k (.set (.n 5) (.call 43 (.k (.v 0) (.k (.op .Add (.c (.int 3)) (.op .Mult (.c (.int 14)) (.v 3))) .z))))
 (.k (.set (.n 6) (.call 44 (.k (.idx (.v 5) (.c (.int 0))) (.k (.v 2) (.k (.v 4) (.k (.bi .len (.k (.v 1) .z)) .z))))))
 (.k (.set (.n 7) (.lst .z))
 (.k (.for (.n 8) (.rng (.c (.int 0)) (.v 3))
  (.k (.set (.n 9) (.lst .z))
  (.k (.for (.n 10) (.rng (.c (.int 0)) (.op .Add (.c (.int 1)) (.op .Mod (.op .FloorDiv (.idx (.v 5) (.c (.int 1))) (.op .Add (.v 8) (.c (.int 1)))) (.c (.int 4)))))
   (.k (.set (.n 11) (.call 43 (.k (.idx (.v 5) (.op .Add (.op .Add (.c (.int 3)) (.op .Mult (.c (.int 14)) (.v 8))) (.v 10))) (.k (.c (.int 12)) .z))))
   (.k (.set (.n 12) (.op .Mod (.idx (.v 11) (.c (.int 11))) (.op .Add (.v 3) (.bi .int (.k (.cmp .Eq (.op .Mod (.idx (.v 5) (.c (.int 2))) (.c (.int 5))) (.c (.int 0))) .z)))))
   (.k (.set (.n 13) (.call 45 (.k (.v 11) (.k (.v 1) (.k (.v 6) .z)))))
   (.k (.app 9 (.tup (.k (.v 13) (.k (.call 46 (.k (.sli (.v 11) (.k (.c (.int 4)) .z) (.k (.c (.int 11)) .z)) (.k (.v 1) (.k (.v 6) .z)))) (.k (.v 12) .z)))))
   .z)))))
  (.k (.app 7 (.v 9))
  .z))))
 (.k (.retv 7)
 .z)))))⟩
def f48:Hp.Fn:=⟨1,9,
 (.k (.set (.n 1) (.call 43 (.k (.idx (.op .Add (.v 0) (.lst (.k (.c (.int 0)) .z))) (.c (.int 0))) (.k (.c (.int 9)) .z))))
 (.k (.set (.n 2) (.lst (.k (.tup (.k (.c (.str "a")) (.k (.op .Add (.c (.int 1)) (.op .Mod (.idx (.v 1) (.c (.int 0))) (.c (.int 2)))) .z))) (.k (.tup (.k (.c (.str "b")) (.k (.op .Add (.c (.int 1)) (.op .Mod (.idx (.v 1) (.c (.int 1))) (.c (.int 2)))) .z))) (.k (.tup (.k (.c (.str "c")) (.k (.c (.int 1)) .z))) .z)))))
 (.k (.iff (.an (.cmp .Eq (.op .Add (.idx (.idx (.v 2) (.c (.int 0))) (.c (.int 1))) (.idx (.idx (.v 2) (.c (.int 1))) (.c (.int 1)))) (.c (.int 2))) (.cmp .Eq (.op .Mod (.idx (.v 1) (.c (.int 6))) (.c (.int 3))) (.c (.int 0))))
  (.k (.app 2 (.tup (.k (.c (.str "d")) (.k (.op .Add (.c (.int 1)) (.op .Mod (.op .FloorDiv (.idx (.v 1) (.c (.int 6))) (.c (.int 3))) (.c (.int 2)))) .z))))
  .z)
  .z)
 (.k (.set (.n 3) (.lst .z))
 (.k (.for (.n 4) (.rng (.c (.int 0)) (.op .Add (.c (.int 2)) (.op .Mod (.idx (.v 1) (.c (.int 2))) (.c (.int 2)))))
  (.k (.set (.n 5) (.op .Add (.c (.int 1)) (.op .Mod (.idx (.v 1) (.op .Add (.c (.int 3)) (.v 4))) (.idx (.lst (.k (.c (.int 3)) (.k (.c (.int 2)) .z))) (.op .Mod (.idx (.v 1) (.c (.int 2))) (.c (.int 2)))))))
  (.k (.set (.n 5) (.op .Mult (.v 5) (.bi .int (.k (.cmp .Gt (.op .Mod (.op .FloorDiv (.idx (.v 1) (.op .Add (.c (.int 3)) (.v 4))) (.c (.int 6))) (.c (.int 9))) (.c (.int 0))) .z))))
  (.k (.set (.n 6) (.op .Add (.idx (.op .Add (.v 0) (.lst (.k (.c (.int 0)) (.k (.c (.int 0)) (.k (.c (.int 0)) (.k (.c (.int 0)) .z)))))) (.op .Add (.c (.int 1)) (.v 4))) (.op .Mult (.c (.int 7)) (.v 4))))
  (.k (.app 3 (.call 47 (.k (.v 6) (.k (.v 2) (.k (.v 4) (.k (.v 5) (.k (.op .Mod (.idx (.v 1) (.c (.int 8))) (.c (.int 3))) .z)))))))
  .z)))))
 (.k (.set (.n 7) (.idx (.lst (.k (.tup (.k (.c (.str "yes")) .z)) (.k (.tup (.k (.c (.str "less")) (.k (.tup (.k (.c (.str "box")) (.k (.c (.int 0)) .z))) (.k (.tup (.k (.c (.str "number")) (.k (.c (.int 1)) .z))) .z)))) .z))) (.op .Mod (.idx (.v 1) (.c (.int 7))) (.c (.int 2)))))
 (.k (.set (.n 8) (.comp 1 [] (.n 0) (.seq (.v 3)) .z (.op .Mult (.lst (.k (.tup (.k (.c (.str "yes")) .z)) .z)) (.op .Add (.bi .len (.k (.v 0) .z)) (.c (.int 1))))))
 (.k (.ret (.call 27 (.k (.v 2) (.k (.v 7) (.k (.v 3) (.k (.comp 1 [] (.n 0) (.seq (.v 3)) .z (.tup (.k (.c (.str "yes")) .z))) (.k (.v 8) .z)))))))
 .z))))))))⟩
def f49:Hp.Fn:=⟨2,3,
 (.k (.set (.n 2) (.call 9 (.k (.idx (.v 1) (.c (.int 0))) (.k (.idx (.v 1) (.c (.int 1))) .z))))
 (.k (.ret (.idx (.v 2) (.op .Mod (.idx (.call 43 (.k (.idx (.op .Add (.v 0) (.lst (.k (.c (.int 0)) .z))) (.c (.int 0))) (.k (.c (.int 10)) .z))) (.c (.int 9))) (.bi .len (.k (.v 2) .z)))))
 .z))⟩
def f50:Hp.Fn:=⟨2,5,
 (.k (.set (.n 2) (.lst .z))
 (.k (.for (.n 3) (.rng (.c (.int 0)) (.bi .len (.k (.idx (.v 0) (.c (.int 2))) .z)))
  (.k (.for (.n 4) (.rng (.c (.int 0)) (.c (.int 4)))
   (.k (.iff (.cmp .IsNot (.call 35 (.k (.v 0) (.k (.v 1) (.k (.tup (.k (.v 3) (.k (.v 4) .z))) .z)))) (.c .non))
    (.k (.app 2 (.tup (.k (.v 3) (.k (.v 4) .z))))
    .z)
    .z)
   .z))
  .z))
 (.k (.retv 2)
 .z)))⟩
def f51:Hp.Fn:=⟨5,11,
 (.k (.set (.n 5) (.tup (.k (.v 2) (.k (.bi .tuple (.k (.comp 1 [] (.n 0) (.seq (.idx (.v 1) (.c (.int 2)))) .z (.c (.int 0))) .z)) .z))))
 (.k (.set (.n 6) (.lst .z))
 (.k (.for (.n 7) (.rng (.c (.int 0)) (.v 4))
  (.k (.set (.n 8) (.call 50 (.k (.v 1) (.k (.v 5) .z))))
  (.k (.iff (.cmp .NotEq (.v 8) (.lst .z))
   (.k (.set (.n 9) (.op .Add (.op .Mult (.c (.int 11)) (.v 7)) (.bi .len (.k (.v 0) .z))))
   (.k (.iff (.cmp .Lt (.op .Add (.v 3) (.v 7)) (.bi .len (.k (.v 0) .z)))
    (.k (.set (.n 9) (.idx (.v 0) (.op .Add (.v 3) (.v 7))))
    .z)
    .z)
   (.k (.set (.n 10) (.idx (.v 8) (.op .Mod (.idx (.call 43 (.k (.v 9) (.k (.c (.int 1)) .z))) (.c (.int 0))) (.bi .len (.k (.v 8) .z)))))
   (.k (.app 6 (.v 10))
   (.k (.set (.n 5) (.call 35 (.k (.v 1) (.k (.v 5) (.k (.v 10) .z)))))
   .z)))))
   .z)
  .z)))
 (.k (.retv 6)
 .z))))⟩
def f52:Hp.Fn:=⟨1,3,
 (.k (.iff (.cmp .Eq (.idx (.v 0) (.c (.int 0))) (.c (.str "box")))
  (.k (.ret (.lst (.k (.idx (.v 0) (.c (.int 1))) .z)))
  .z)
  .z)
 (.k (.set (.n 1) (.lst .z))
 (.k (.for (.n 2) (.seq (.sli (.v 0) (.k (.c (.int 1)) .z) .z))
  (.k (.iff (.isi (.v 2) [.tTuple])
   (.k (.set (.n 1) (.op .Add (.v 1) (.call 52 (.k (.v 2) .z))))
   .z)
   .z)
  .z))
 (.k (.retv 1)
 .z))))⟩
def f53:Hp.Fn:=⟨2,6,
 (.k (.set (.n 2) (.idx (.idx (.idx (.idx (.v 0) (.c (.int 2))) (.idx (.v 1) (.c (.int 0)))) (.idx (.v 1) (.c (.int 1)))) (.idx (.v 1) (.c (.int 2)))))
 (.k (.set (.n 3) (.call 52 (.k (.idx (.v 2) (.c (.int 0))) .z)))
 (.k (.for (.t [4,5]) (.seq (.idx (.v 2) (.c (.int 1))))
  (.k (.set (.n 3) (.op .Add (.v 3) (.call 52 (.k (.v 5) .z))))
  .z))
 (.k (.ret (.tup (.k (.v 3) (.k (.comp 2 [] (.t [0,1]) (.seq (.idx (.v 2) (.c (.int 1)))) .z (.v 0)) .z))))
 .z))))⟩
def f54:Hp.Fn:=⟨3,6,
 (.k (.set (.n 3) (.call 53 (.k (.v 0) (.k (.v 1) .z))))
 (.k (.set (.n 4) (.call 53 (.k (.v 0) (.k (.v 2) .z))))
 (.k (.set (.n 5) (.comp 1 [4] (.n 0) (.seq (.idx (.v 3) (.c (.int 1)))) (.k (.cmp .In (.v 0) (.op .Add (.idx (.v 1) (.c (.int 0))) (.idx (.v 1) (.c (.int 1))))) .z) (.v 0)))
 (.k (.set (.n 5) (.op .Add (.v 5) (.comp 1 [3] (.n 0) (.seq (.idx (.v 4) (.c (.int 1)))) (.k (.cmp .In (.v 0) (.idx (.v 1) (.c (.int 0)))) .z) (.v 0))))
 (.k (.ret (.an (.cmp .NotEq (.idx (.v 1) (.c (.int 0))) (.idx (.v 2) (.c (.int 0)))) (.cmp .Eq (.v 5) (.lst .z))))
 .z)))))⟩
def f55:Hp.Fn:=⟨4,5,
 (.k (.set (.n 4) (.call 38 (.k (.v 0) (.k (.v 1) (.k (.v 2) .z)))))
 (.k (.iff (.orr (.nt (.cmp2 .LtE .Lt (.c (.int 0)) (.v 3) (.op .Sub (.bi .len (.k (.v 4) .z)) (.c (.int 1))))) (.nt (.call 39 (.k (.v 0) (.k (.idx (.v 4) (.v 3)) (.k (.idx (.v 4) (.op .Add (.v 3) (.c (.int 1)))) .z))))))
  (.k (.ret (.c .non))
  .z)
  .z)
 (.k (.ret (.op .Add (.op .Add (.sli (.v 2) .z (.k (.v 3) .z)) (.lst (.k (.idx (.v 2) (.op .Add (.v 3) (.c (.int 1)))) (.k (.idx (.v 2) (.v 3)) .z)))) (.sli (.v 2) (.k (.op .Add (.v 3) (.c (.int 2))) .z) .z)))
 .z)))⟩
def f56:Hp.Fn:=⟨4,8,
 (.k (.iff (.orr (.cmp .Lt (.v 3) (.c (.int 0))) (.cmp .GtE (.op .Add (.v 3) (.c (.int 1))) (.bi .len (.k (.v 2) .z))))
  (.k (.ret (.c .non))
  .z)
  .z)
 (.k (.setU [4,5] (.sli (.v 2) (.k (.v 3) .z) (.k (.op .Add (.v 3) (.c (.int 2))) .z)))
 (.k (.set (.n 6) (.tup (.k (.idx (.v 4) (.c (.int 0))) (.k (.idx (.idx (.idx (.v 1) (.v 3)) (.c (.int 1))) (.idx (.v 4) (.c (.int 0)))) (.k (.idx (.v 4) (.c (.int 1))) .z)))))
 (.k (.set (.n 7) (.tup (.k (.idx (.v 5) (.c (.int 0))) (.k (.idx (.idx (.idx (.v 1) (.op .Add (.v 3) (.c (.int 1)))) (.c (.int 1))) (.idx (.v 5) (.c (.int 0)))) (.k (.idx (.v 5) (.c (.int 1))) .z)))))
 (.k (.iff (.nt (.call 54 (.k (.v 0) (.k (.v 6) (.k (.v 7) .z)))))
  (.k (.ret (.c .non))
  .z)
  .z)
 (.k (.ret (.op .Add (.op .Add (.sli (.v 2) .z (.k (.v 3) .z)) (.lst (.k (.v 5) (.k (.v 4) .z)))) (.sli (.v 2) (.k (.op .Add (.v 3) (.c (.int 2))) .z) .z)))
 .z))))))⟩
def f57:Hp.Fn:=⟨4,10,
 (.k (.set (.n 4) (.call 36 (.k (.v 0) (.k (.v 1) (.k (.v 2) .z)))))
 (.k (.set (.n 5) (.call 56 (.k (.v 0) (.k (.v 4) (.k (.v 2) (.k (.v 3) .z))))))
 (.k (.set (.n 6) (.bi .list (.k (.v 2) .z)))
 (.k (.set (.n 7) (.call 55 (.k (.v 0) (.k (.v 1) (.k (.v 6) (.k (.v 3) .z))))))
 (.k (.iff (.cmp .NotEq (.v 6) (.v 2))
  (.k (.ret (.c (.bl false)))
  .z)
  .z)
 (.k (.iff (.orr (.cmp .Is (.v 5) (.c .non)) (.cmp .Is (.v 7) (.c .non)))
  (.k (.ret (.an (.cmp .Is (.v 5) (.c .non)) (.cmp .Is (.v 7) (.c .non))))
  .z)
  .z)
 (.k (.iff (.orr (.nt (.isi (.v 7) [.tList])) (.cmp .NotEq (.v 7) (.v 5)))
  (.k (.ret (.c (.bl false)))
  .z)
  .z)
 (.k (.set (.n 8) (.call 36 (.k (.v 0) (.k (.v 1) (.k (.v 7) .z)))))
 (.k (.iff (.orr (.cmp .NotEq (.sli (.v 8) .z (.k (.op .Add (.v 3) (.c (.int 1))) .z)) (.sli (.v 4) .z (.k (.op .Add (.v 3) (.c (.int 1))) .z))) (.cmp .NotEq (.sli (.v 8) (.k (.op .Add (.v 3) (.c (.int 2))) .z) .z) (.sli (.v 4) (.k (.op .Add (.v 3) (.c (.int 2))) .z) .z)))
  (.k (.ret (.c (.bl false)))
  .z)
  .z)
 (.k (.set (.n 9) (.call 55 (.k (.v 0) (.k (.v 1) (.k (.v 7) (.k (.v 3) .z))))))
 (.k (.app 7 (.c .non))
 (.k (.iff (.cmp .NotEq (.v 9) (.v 2))
  (.k (.ret (.c (.bl false)))
  .z)
  .z)
 (.k (.ret (.cmp .Eq (.call 55 (.k (.v 0) (.k (.v 1) (.k (.v 6) (.k (.v 3) .z))))) (.v 5)))
 .z)))))))))))))⟩
def f58:Hp.Fn:=⟨1,5,
 (.k (.set (.n 1) (.call 48 (.k (.v 0) .z)))
 (.k (.set (.n 2) (.call 49 (.k (.v 0) (.k (.v 1) .z))))
 (.k (.set (.n 3) (.call 51 (.k (.v 0) (.k (.v 1) (.k (.v 2) (.k (.c (.int 4)) (.k (.op .Add (.c (.int 4)) (.op .Mod (.idx (.call 43 (.k (.idx (.op .Add (.v 0) (.lst (.k (.c (.int 0)) .z))) (.c (.int 0))) (.k (.c (.int 11)) .z))) (.c (.int 10))) (.c (.int 17)))) .z)))))))
 (.k (.for (.n 4) (.rng (.neg (.c (.int 1))) (.op .Add (.bi .len (.k (.v 3) .z)) (.c (.int 1))))
  (.k (.iff (.nt (.call 57 (.k (.v 1) (.k (.v 2) (.k (.v 3) (.k (.v 4) .z))))))
   (.k (.ret (.c (.bl false)))
   .z)
   .z)
  .z))
 (.k (.ret (.c (.bl true)))
 .z)))))⟩
def pg:Hp.Pg:=⟨[f0,f1,f2,f3,f4,f5,f6,f7,f8,f9,f10,f11,f12,f13,f14,f15,f16,f17,f18,f19,f20,f21,f22,f23,f24,f25,f26,f27,f28,f29,f30,f31,f32,f33,f34,f35,f36,f37,f38,f39,f40,f41,f42,f43,f44,f45,f46,f47,f48,f49,f50,f51,f52,f53,f54,f55,f56,f57,f58],[[.own 0,.tValueError],[.own 1,.own 0,.tValueError],[.own 2,.own 0,.tValueError],[.own 3,.own 0,.tValueError],[.own 4,.own 0,.tValueError],[.own 5,.own 0,.tValueError],[.own 6,.own 0,.tValueError],[.own 7,.own 0,.tValueError]],[[("number",.tup [.str "number"]),("box",.tup [.str "box"]),("after",.tup [.str "box"]),("plus",.tup [.str "sum",.str "sum"]),("minus",.tup [.str "sum",.str "sum"])],[("yes",.tup []),("is",.tup [.str "sum",.str "sum"]),("less",.tup [.str "sum",.str "sum"]),("not",.tup [.str "cond"]),("both",.tup [.str "cond",.str "cond"]),("either",.tup [.str "cond",.str "cond"])]]⟩
end K66
end
noncomputable section
namespace K66
open Hp HpS PySem
def drp:Nat->Ss->Ss
 | 0,s=>s
 | n+1,.k _ s=>drp n s
 | _+1,.z=>.z
def hdS:Ss->S
 | .k s _=>s
 | .z=>.pass
structure Way where
 g:Cn
 ps:List (Nat×Sm)
 nx:Int
def dL(p:Nat×Sm):D:=.tup [.int p.1,p.2.d]
def Way.d(w:Way):D:=.tup [w.g.d,.tup (w.ps.map dL),.int w.nx]
def Up(ps:List (Nat×Sm)):Prop:=ps.Pairwise λp q=>p.1<q.1
structure kQ (m:Nat) (p:Nat×Sm):Prop where
 box:p.1<m
 wf:p.2.wf m true
 sz:p.2.sz<=3
structure cX (m:Nat) (w:Way):Prop where
 g:w.g.wf m true
 gs:w.g.sz<=31
 ps:∀p∈w.ps,kQ m p
 up:Up w.ps
theorem pA(p:Nat×Sm):noL (dL p)=true:=vG rfl p.2.noL
theorem fY(ps:List (Nat×Sm)):noLs (ps.map dL)=true:=bP pA ps
theorem eX(w:Way):noL w.d=true:=by simp[Way.d,noL,noLs,w.g.noL,fY]
theorem aBp(i:Nat){ds:List D}(h:noLs ds=true):biD .tuple [⟨.lst ds,false,false,[i]⟩]=.ok (.cl (.tup ds)):=by
 show R.ok (Vl.mk (.tup ds) false (false&&!noLs ds) (if noLs ds=true then [] else [i]))=_
 rw[h];rfl
theorem stp{P:Pg}{cl:Caller}{σ σ':Sg}{s:S}{ss:Ss}(h:ex P cl σ s=.next σ'):exs P cl σ (.k s ss)=exs P cl σ' ss:=by rw[bZ,h,rY]
def fW(bs:List (Str×Int))(k:Nat):Int:=(bs.map (·.2)).getD k 0
def putF(bs:List (Str×Int))(st:List Int):List Int->List (Nat×Sm)->Option (List Int)
 | acc,[]=>some acc
 | acc,p::ps=>if 0<=p.2.val st st/\p.2.val st st<=fW bs p.1 then putF bs st (acc.set p.1 (p.2.val st st)) ps else none
def behF(bs:List (Str×Int))(w:Way)(st:List Int):Option (List Int):=if w.g.hold st st then putF bs st st w.ps else none
def stD:Option (List Int)->D
 | none=>.non
 | some r=>aO r
theorem aJw{P:Pg}{cl:Caller}{σ:Sg}{a b:E}{x y:Int}(h1:ev P cl σ a=.ok (.cl (.int x)))(h2:ev P cl σ b=.ok (.cl (.int y))):tst P cl σ (.cmp2 .LtE .LtE (.c (.int 0)) a b)=.ok (decide (0<=x)&&decide (x<=y)):=by
 rw[mD,aC,aA,h1,aA,dE,dE,aEB]
 cases decide (0<=x) with
 | true=>simp only[h2,aA,dE,aEB,Bool.true_and]
 | false=>rfl
theorem aBq{bs:List (Str×Int)}{k:Nat}(h:k<bs.length):∃b:D,noL b=true/\eE ⟨.lst (aB bs),false,true,[]⟩ (.cl (.int (k:Int)))=.ok (.cl b)/\eE (.cl b) (.cl (.int 1))=.ok (.cl (.int (fW bs k))):=by
 refine⟨box bs[k],mF _,?_,?_⟩
 . have hl:(aB bs).length=bs.length:=by simp[aB]
   have e:(aB bs)[k]? = some (box bs[k]):=by simp[aB,h]
   unfold eE
   simp only[dE,hl,gP h,e,Vl.sub,mF,if_true]
 . have:=fV (.str bs[k].1) (.int bs[k].2) [] rfl
   unfold box fW
   rw[this]
   simp[h]
theorem aEG(n:Nat){bs:List (Str×Int)}{st:List Int}(hs:st.length=bs.length){s:Sm}(w:s.wf bs.length true)(z:s.sz<=3):call pg (n+3) 0 [s.d,aO st,.non]=.ok (.int (s.val st st),false,false):=by
 have:=jO (P:=pg) (f:=0) rfl (ah:=st) (be:=st) (bd:=.non) (c:=bs.length) (pl:=true) hs hs rfl (λh=>nomatch h) s (n+3-s.sz) w
 rwa [show n+3-s.sz+s.sz=n+3 by omega] at this
theorem rB(n:Nat){bs:List (Str×Int)}{st:List Int}(hs:st.length=bs.length){q:Cn}(w:q.wf bs.length true)(z:q.sz<=31):call pg (n+31) 1 [q.d,aO st,.non]=.ok (.bl (q.hold st st),false,false):=by
 have:=mL (P:=pg) (v:=0) (f:=1) rfl rfl (ah:=st) (be:=st) (bd:=.non) (c:=bs.length) (pl:=true) hs hs rfl (λh=>nomatch h) q (n+31-q.sz) w
 rwa [show n+31-q.sz+q.sz=n+31 by omega] at this
abbrev aEH:Ss:=match hdS (drp 2 f2.body) with|.for _ _ b=>b|_=>.z
theorem aGy{p:Nat×Sm}{s0 s1 s2 s3 s4 s5 s6:Sl}:cI [s0,s1,s2,s3,s4,s5,s6] (.cl (dL p)) (.t [4,5])=.ok [s0,s1,s2,s3,.sh false (.int p.1),.sh false p.2.d,s6]:=by
 unfold cI dL
 simp only[dE,lC,lN,if_true,A8,Cp,B6,List.foldl_nil,cC p.2.noL,cC (show noL (.int (p.1:Int))=true from rfl),dO,lS,lZ]
theorem aEI(acc:List Int)(k:Nat)(v:Int):(acc.map D.int).set k (.int v)=(acc.set k v).map D.int:=by rw[List.map_set]
theorem aEJ(n:Nat){bs:List (Str×Int)}{st acc:List Int}(hs:st.length=bs.length)(ha:acc.length=bs.length)(hb:bs.length<=5){p:Nat×Sm}(o:kQ bs.length p)(s1 s4 s5 s6:Sl) :
 exs pg (call pg (n+3)) [.sh true (.lst (aB bs)),s1,.sh true (aO st),.own false (acc.map D.int),.sh false (.int p.1),.sh false p.2.d,s6] aEH =
  if 0<=p.2.val st st/\p.2.val st st<=fW bs p.1 then .next [.sh true (.lst (aB bs)),s1,.sh true (aO st),.own false ((acc.set p.1 (p.2.val st st)).map D.int),.sh false (.int p.1),.sh false p.2.d,.sh false (.int (p.2.val st st))] else .ret (.cl .non):=by
 have cv:=aEG n hs o.wf o.sz
 generalize p.2.val st st=v at cv
 obtain⟨b,b1,b2,b3⟩:=aBq (bs:=bs) (k:=p.1) o.box
 have v2:=dP 2 true (aR st)
 have e1:ex pg (call pg (n+3)) [.sh true (.lst (aB bs)),s1,.sh true (aO st),.own false (acc.map D.int),.sh false (.int p.1),.sh false p.2.d,s6] (hdS aEH)=.next [.sh true (.lst (aB bs)),s1,.sh true (aO st),.own false (acc.map D.int),.sh false (.int p.1),.sh false p.2.d,.sh false (.int v)]:=by
  simp only[aEH,hdS,drp,f2,fO,dC,aH,bI,gE,aC,bY,gS,gZ,bU,v2,aA,mC,mN,dE,cv,lI,bJ,hZ,cP,kN,dO,lS,lZ]
 have tt:=aJw (P:=pg) (cl:=call pg (n+3)) (σ:=[.sh true (.lst (aB bs)),s1,.sh true (aO st),.own false (acc.map D.int),.sh false (.int p.1),.sh false p.2.d,.sh false (.int v)]) (a:=.v 6) (b:=.idx (.idx (.v 0) (.v 4)) (.c (.int 1))) (x:=v) (y:=fW bs p.1) rfl (by
  simp only[iQ,gE,aC,bY,gS,gZ,oY,oW,aA,b2,b3])
 refine(stp e1).trans ?_
 show exs pg (call pg (n+3)) _ (.k (.iff (.nt _) _ _) (.k (.setIx 3 (.v 4) (.v 6)) .z))=_
 by_cases hv:0<=v/\v<=fW bs p.1
 . have hd:(decide (0<=v)&&decide (v<=fW bs p.1))=true:=by rw[Am hv.1,Am hv.2];rfl
   rw[if_pos hv]
   have hx:ixN acc.length (p.1:Int)=some p.1:=gP (by rw[ha];exact o.box)
   have hll:acc.length<=lim:=by unfold lim;omega
   simp only[bZ,eV,eU,lH,tt,aA,hd,Ck,bJ,bF,if_false,rY,aEz,gE,bY,gS,gZ,oW,dE,put,hZ,cP,lR,hx,aEI,lM,Ax,hll,if_true,xW,Bool.or_false,lS,lZ]
 . have hd:(decide (0<=v)&&decide (v<=fW bs p.1))=false:=by
    cases h:(decide (0<=v)&&decide (v<=fW bs p.1)) with
    | false=>rfl
    | true=>simp only[bA,A1] at h;exact absurd h hv
   rw[if_neg hv]
   simp only[bZ,eV,eU,lH,tt,aA,hd,Bool.not_false,bJ,if_true,uW,aC,qW]
theorem xZ(n:Nat){bs:List (Str×Int)}{st:List Int}(hs:st.length=bs.length)(hb:bs.length<=5)(s1:Sl):∀(ps:List (Nat×Sm)) (acc:List Int) (s4 s5 s6:Sl),(∀p∈ps,kQ bs.length p)->acc.length=bs.length ->
 ∃t4 t5 t6,eF (λσ x=>O.from σ (cI σ x (.t [4,5])) λσ'=>exs pg (call pg (n+3)) σ' aEH) (ps.map λp=>Vl.cl (dL p)) [.sh true (.lst (aB bs)),s1,.sh true (aO st),.own false (acc.map D.int),s4,s5,s6] =
  (match putF bs st acc ps with|none=>.ret (.cl .non)|some r=>.next [.sh true (.lst (aB bs)),s1,.sh true (aO st),.own false (r.map D.int),t4,t5,t6])
 | [],acc,s4,s5,s6,_,_=>⟨s4,s5,s6,rfl⟩
 | p::ps,acc,s4,s5,s6,h,ha=>by
  have o:=h p Al
  have tu:=aEJ n hs ha hb o s1 s4 s5 s6
  rw[mC,eF,aGy,bJ,tu,putF]
  by_cases hv:0<=p.2.val st st/\p.2.val st st<=fW bs p.1
  . rw[if_pos hv,if_pos hv]
    exact xZ n hs hb s1 ps (acc.set p.1 (p.2.val st st)) _ _ _ (λq hq=>h q (Ag _ hq)) (by rw[Ax];exact ha)
  . rw[if_neg hv,if_neg hv]
    exact⟨s4,s5,s6,rfl⟩
theorem lJ{v:Vl}(ps:List (Nat×Sm)):items v (ps.map dL)=ps.map λp=>Vl.cl (dL p):=cN pA ps
theorem aAp(n:Nat){bs:List (Str×Int)}{st:List Int}(hs:st.length=bs.length)(hb:bs.length<=5){w:Way}(o:cX bs.length w):call pg (n+32) 2 [.lst (aB bs),w.d,aO st]=.ok (stD (behF bs w st),false,false):=by
 have ch:=rB n hs o.g o.gs
 have v1:=dP 1 true (eX w)
 have v2:=dP 2 true (aR st)
 have i0:eE (.cl w.d) (.cl (.int 0))=.ok (.cl w.g.d):=fU w.g.d _ w.g.noL
 have i1:eE (.cl w.d) (.cl (.int 1))=.ok (.cl (.tup (w.ps.map dL))):=fV w.g.d (.tup (w.ps.map dL)) _ (by rw[noL];exact fY _)
 refine aG (F:=f2) rfl rfl (v:=.cl (stD (behF bs w st))) ?_
 show exs pg (call pg (n+31)) [.sh true (.lst (aB bs)),.sh true w.d,.sh true (aO st),.x,.x,.x,.x] _=_
 unfold behF
 cases hh:w.g.hold st st with
 | false=>
  rw[hh] at ch
  simp only[f2,bZ,eV,eU,lH,hX,aH,bI,iQ,gE,aC,bY,gS,gZ,v1,v2,aA,i0,mC,mN,dE,ch,lI,vD,Bool.not_false,bJ,if_true,uW,qW,bF,if_false,stD]
 | true=>
  rw[hh] at ch
  obtain⟨t4,t5,t6,hl⟩:=xZ (n+28) hs hb (.sh true w.d) w.ps st .x .x .x o.ps hs
  have e1:ex pg (call pg (n+31)) [.sh true (.lst (aB bs)),.sh true w.d,.sh true (aO st),.x,.x,.x,.x] (hdS f2.body)=.next [.sh true (.lst (aB bs)),.sh true w.d,.sh true (aO st),.x,.x,.x,.x]:=by
   simp only[hdS,f2,eV,eU,lH,hX,aH,bI,iQ,gE,aC,bY,gS,gZ,v1,v2,aA,i0,mC,mN,dE,ch,lI,vD,Ck,bJ,bF,if_false]
  have e2:ex pg (call pg (n+31)) [.sh true (.lst (aB bs)),.sh true w.d,.sh true (aO st),.x,.x,.x,.x] (hdS (drp 1 f2.body))=.next [.sh true (.lst (aB bs)),.sh true w.d,.sh true (aO st),.own false (st.map D.int),.x,.x,.x]:=by
   have hli:biD .list [.cl (aO st)]=.ok ⟨.lst (st.map D.int),true,false,[]⟩:=by
    show R.ok (Vl.mk (.lst (st.map D.int)) true (false&&!noLs (st.map D.int)) (if noLs (st.map D.int)=true then [] else []))=_
    rw[jL];rfl
   simp only[hdS,drp,f2,fO,qY,aH,bI,gE,bY,gS,gZ,v2,aA,hli,bJ,cP,kN,aGu,lS,lZ]
  have hw:walk pg (call pg (n+31)) [.sh true (.lst (aB bs)),.sh true w.d,.sh true (aO st),.own false (st.map D.int),.x,.x,.x] (.seq (.idx (.v 1) (.c (.int 1))))=.ok (w.ps.map (λp=>Vl.cl (dL p)),[]):=by
   simp only[cE,iQ,gE,aC,bY,gS,gZ,v1,aA,i1,dE,lJ,hZ]
  refine(stp e1).trans ((stp e2).trans ?_)
  show exs pg (call pg (n+31)) _ (.k (.for (.t [4,5]) (.seq (.idx (.v 1) (.c (.int 1)))) aEH) _)=_
  rw[bZ,jK,hw,bJ]
  show(eF _ _ _).on _=_
  rw[cP,hl,if_pos rfl]
  cases putF bs st st w.ps with
  | none=>rfl
  | some r=>
   show exs pg (call pg (n+31)) [.sh true (.lst (aB bs)),.sh true w.d,.sh true (aO st),.own false (r.map D.int),t4,t5,t6] (.k (.ret (.bi .tuple (.k (.v 3) .z))) .z)=_
   rw[bZ,uW,qY,aH,gE]
   simp only[bY,gS,gZ,aBi]
   simp only[bI,aA,aBp 3 (jL r),bJ,qW]
   rfl
section
variable {P:Pg} {cl:Caller} {σ:Sg}
theorem tK(σ:Sg){i j:Nat}{a b:D}(ha:noL a=true)(hb:noL b=true):cI σ (.cl (.tup [a,b])) (.t [i,j])=.ok ((σ.set i (.sh false a)).set j (.sh false b)):=by
 unfold cI
 simp only[dE,lC,lN,if_true,A8,Cp,B6,List.foldl_nil,cC ha,cC hb,dO]
theorem eY(σ:Sg){i:Nat}{d:D}:cI σ (.cl d) (.n i)=.ok (σ.set i (.sh false d)):=by rw[kN,dO]
theorem iS{f:Nat}{a b c:E}{x y z:Vl}{k:Bool}(h1:ev P cl σ a=.ok x)(h2:ev P cl σ b=.ok y)(h3:ev P cl σ c=.ok z)(hc:cl f [x.d,y.d,z.d]=.ok (.bl k,false,false)):tst P cl σ (.call f (.k a (.k b (.k c .z))))=.ok k:=by
 have e:evs P cl σ (.k a (.k b (.k c .z)))=.ok [x,y,z]:=by rw[aH,h1,aA,aH,h2,aA,aH,h3,aA,bI];rfl
 rw[hX,e,aA,show [x,y,z].map (·.d)=[x.d,y.d,z.d] from rfl,hc];rfl
theorem aGz{f:Nat}{a b c e:E}{x y z w:Vl}{k:Bool}(h1:ev P cl σ a=.ok x)(h2:ev P cl σ b=.ok y)(h3:ev P cl σ c=.ok z)(h4:ev P cl σ e=.ok w)(hc:cl f [x.d,y.d,z.d,w.d]=.ok (.bl k,false,false)):tst P cl σ (.call f (.k a (.k b (.k c (.k e .z)))))=.ok k:=by
 have e:evs P cl σ (.k a (.k b (.k c (.k e .z))))=.ok [x,y,z,w]:=by rw[aH,h1,aA,aH,h2,aA,aH,h3,aA,aH,h4,aA,bI];rfl
 rw[hX,e,aA,show [x,y,z,w].map (·.d)=[x.d,y.d,z.d,w.d] from rfl,hc];rfl
theorem dF{a:E}{k:Bool}(h:tst P cl σ a=.ok k):tst P cl σ (.nt a)=.ok (!k):=by rw[lH,h];rfl
theorem eI{f:Nat}{a b:E}{x y:Vl}{d:D}(h1:ev P cl σ a=.ok x)(h2:ev P cl σ b=.ok y)(hc:cl f [x.d,y.d]=.ok (d,false,false)):ev P cl σ (.call f (.k a (.k b .z)))=.ok (.cl d):=by
 have e:evs P cl σ (.k a (.k b .z))=.ok [x,y]:=by rw[aH,h1,aA,aH,h2,aA,bI];rfl
 rw[dC,e,aA,show [x,y].map (·.d)=[x.d,y.d] from rfl,hc];rfl
theorem nP{a b:E}{x y:D}(h1:ev P cl σ a=.ok (.cl x))(h2:ev P cl σ b=.ok (.cl y)):ev P cl σ (.tup (.k a (.k b .z)))=.ok (.cl (.tup [x,y])):=by
 rw[qX,aH,h1,aA,aH,h2];rfl
theorem vJ{a b c:E}{x y z:D}(h1:ev P cl σ a=.ok (.cl x))(h2:ev P cl σ b=.ok (.cl y))(h3:ev P cl σ c=.ok (.cl z)):ev P cl σ (.tup (.k a (.k b (.k c .z))))=.ok (.cl (.tup [x,y,z])):=by
 rw[qX,aH,h1,aA,aH,h2,aA,aH,h3];rfl
end
theorem yA{v:Vl}{α:Type}{f:α->D}{xs:List α}{k:Nat}{x:α}(hv:v.d=.lst (xs.map f))(hx:xs[k]? = some x):eE v (.cl (.int (k:Int)))=.ok (Vl.sub v (f x)):=by
 have hk:k<(xs.map f).length:=by rw[lM];exact(Aw.mp hx).1
 have e:(xs.map f)[k]? = some (f x):=by rw[Az,hx];rfl
 unfold eE
 simp only[hv,dE,gP hk,e]
section
variable {P:Pg} {cl:Caller} {σ σ':Sg}
theorem aMh{i:Nat}{e:E}{v:Vl}{pa:Bool}{ds:List D}(h:ev P cl σ e=.ok v)(hi:(freeze σ v.al)[i]? = some (.own pa ds))(hl:ds.length<lim):ex P cl σ (.app i e)=.next ((freeze σ v.al).set i (.own (pa||v.pa) (ds++[v.d]))):=by
 have ll:(ds++[v.d]).length<=lim:=by rw[lA];exact hl
 rw[aJp,h,bJ]
 unfold put lR
 rw[hi]
 show(if (ds++[v.d]).length<=lim then O.next _ else .bad)=_
 rw[if_pos ll]
theorem gU{i:Nat}{e:E}{v:Vl}{ds ds':List D}(h:ev P cl σ e=.ok v)(hi:(freeze σ v.al)[i]? = some (.own false ds))(hl:ds.length<lim)(hp:v.pa=false)(he:ds'=ds++[v.d]):ex P cl σ (.app i e)=.next ((freeze σ v.al).set i (.own false ds')):=by
 rw[aMh h hi hl,hp,he];rfl
theorem bL{i:Nat}{e:E}{ds:List D}(h:ev P cl σ e=.ok ⟨.lst ds,true,false,[]⟩):ex P cl σ (.set (.n i) e)=.next (σ.set i (.own false ds)):=by
 rw[fO,h];rfl
theorem yB{c:E}{a b:Ss}(h:tst P cl σ c=.ok true)(r:exs P cl σ a=.next σ'):ex P cl σ (.iff c a b)=.next σ':=by
 rw[eU,h,bJ,if_pos rfl,r]
theorem aOd{a b:E}{x y:Bool}(h1:tst P cl σ a=.ok x)(h2:tst P cl σ b=.ok y):tst P cl σ (.an a b)=.ok (x&&y):=by
 rw[aAk,h1,aA];cases x
 . rfl
 . exact h2
theorem cA{o:CmpOp}{a b:E}{x y:Vl}{k:Bool}(h:ev P cl σ a=.ok x)(g:ev P cl σ b=.ok y)(e:cG o x.d y.d=some k):tst P cl σ (.cmp o a b)=.ok k:=by rw[dD,h,aA,g,aA,e]
end
theorem rC{P:Pg}{cl:Caller}{σ:Sg}{s:S}{ss:Ss}{v:Vl}(h:ex P cl σ s=.ret v):exs P cl σ (.k s ss)=.ret v:=by rw[bZ,h];rfl
theorem cU{P:Pg}{cl:Caller}{σ:Sg}{f:Nat}{a:E}{x:Vl}{d:D}{fr:Bool}(h1:ev P cl σ a=.ok x)(hc:cl f [x.d]=.ok (d,fr,false)):ev P cl σ (.call f (.k a .z))=.ok ⟨d,fr,false,[]⟩:=by
 have e:evs P cl σ (.k a .z)=.ok [x]:=by rw[aH,h1];rfl
 rw[dC,e,aA,show [x].map (·.d)=[x.d] from rfl,hc];rfl
section
variable {P:Pg} {cl:Caller} {σ σ':Sg}
theorem aBr{a b:E}(h:tst P cl σ a=.ok true):tst P cl σ (.orr a b)=.ok true:=by rw[fS,h];rfl
theorem eA{a b:E}{k:Bool}(h:tst P cl σ a=.ok false)(g:tst P cl σ b=.ok k):tst P cl σ (.orr a b)=.ok k:=by rw[fS,h,aA,if_neg bN,g]
theorem iE{f:Nat}{a b c:E}{x y z:Vl}{d:D}(h1:ev P cl σ a=.ok x)(h2:ev P cl σ b=.ok y)(h3:ev P cl σ c=.ok z)(hc:cl f [x.d,y.d,z.d]=.ok (d,true,false)):ev P cl σ (.call f (.k a (.k b (.k c .z))))=.ok ⟨d,true,false,[]⟩:=by
 have e:evs P cl σ (.k a (.k b (.k c .z)))=.ok [x,y,z]:=by rw[aH,h1,aA,aH,h2,aA,aH,h3,aA,bI];rfl
 rw[dC,e,aA,show [x,y,z].map (·.d)=[x.d,y.d,z.d] from rfl,hc];rfl
theorem dW{f:Nat}{a b:E}{x y:Vl}{d:D}(h1:ev P cl σ a=.ok x)(h2:ev P cl σ b=.ok y)(hc:cl f [x.d,y.d]=.ok (d,true,false)):ev P cl σ (.call f (.k a (.k b .z)))=.ok ⟨d,true,false,[]⟩:=by
 have e:evs P cl σ (.k a (.k b .z))=.ok [x,y]:=by rw[aH,h1,aA,aH,h2,aA,bI];rfl
 rw[dC,e,aA,show [x,y].map (·.d)=[x.d,y.d] from rfl,hc];rfl
theorem pB{f:Nat}{a b c e g:E}{x y z w u:Vl}{d:D}(h1:ev P cl σ a=.ok x)(h2:ev P cl σ b=.ok y)(h3:ev P cl σ c=.ok z)(h4:ev P cl σ e=.ok w)(h5:ev P cl σ g=.ok u)(hc:cl f [x.d,y.d,z.d,w.d,u.d]=.ok (d,false,false)):ev P cl σ (.call f (.k a (.k b (.k c (.k e (.k g .z))))))=.ok (.cl d):=by
 have e:evs P cl σ (.k a (.k b (.k c (.k e (.k g .z)))))=.ok [x,y,z,w,u]:=by rw[aH,h1,aA,aH,h2,aA,aH,h3,aA,aH,h4,aA,aH,h5,aA,bI];rfl
 rw[dC,e,aA,show [x,y,z,w,u].map (·.d)=[x.d,y.d,z.d,w.d,u.d] from rfl,hc];rfl
theorem aJx{i:Nat}{e:E}{d:D}(h:ev P cl σ e=.ok ⟨d,false,true,[]⟩):ex P cl σ (.set (.n i) e)=.next (σ.set i (.sh true d)):=by rw[fO,h];rfl
theorem yC{f:Nat}{a b:E}{x y:Vl}{d:D}(h1:ev P cl σ a=.ok x)(h2:ev P cl σ b=.ok y)(hc:cl f [x.d,y.d]=.ok (d,false,true))(hp:dZ [x,y]=true)(ha:bT [x,y]=[]):ev P cl σ (.call f (.k a (.k b .z)))=.ok ⟨d,false,true,[]⟩:=by
 have e:evs P cl σ (.k a (.k b .z))=.ok [x,y]:=by rw[aH,h1,aA,aH,h2,aA,bI];rfl
 rw[dC,e,aA,show [x,y].map (·.d)=[x.d,y.d] from rfl,hc,aA]
 show R.ok (⟨d,false,dZ [x,y],bT [x,y]⟩:Vl)=_
 rw[hp,ha]
end
theorem aOe{p q:Prop}[Decidable p][Decidable q](h:¬ (p/\q)):(decide p&&decide q)=false:=by
 cases z:(decide p&&decide q) with
 | false=>rfl
 | true=>simp only[bA,A1] at z;exact absurd z h
abbrev eZ(ws:List Way):D:=.lst (ws.map Way.d)
abbrev bD(h:List (List Way)):List D:=h.map eZ
structure aEK (m e:Nat) (ws:List Way):Prop where
 one:1<=ws.length
 few:ws.length<=4
 ok:∀w∈ws,cX m w/\0<=w.nx/\w.nx<(e:Int)+1
structure vK (m:Nat) (h:List (List Way)):Prop where
 few:h.length<=8
 ok:∀ws∈h,aEK m h.length ws
theorem jQ{α:Type}{P:α->Prop}{l:List α}{x:α}(h:∀y∈l,P y)(hx:P x):∀y∈l++[x],P y:=λy hy=>by
 rcases Bs.mp hy with z|z
 . exact h y z
 . rw[Av.mp z];exact hx
section
variable {P:Pg} {cl:Caller} {σ:Sg}
theorem yD{e:E}{v:Vl}(h:ev P cl σ e=.ok v):ex P cl σ (.ex e)=.next σ:=by rw[aHh,h];rfl
theorem aHi{b:Ss}{σ':Sg}(h:exs P cl σ b=.next σ'):ex P cl σ (.tryN b)=.next σ':=h
theorem cL{s:S}{σ':Sg}(h:ex P cl σ s=.next σ'):exs P cl σ (.k s .z)=.next σ':=cs h rfl
theorem vL{i:Nat}{d:D}{ss:Ss}(h:σ[i]? = some (.sh true d))(n:noL d=true):exs P cl σ (.k (.retv i) ss)=.ret (.cl d):=by
 refine rC ?_
 show(match σ[i]? with|some (.own pa ds)=>O.ret ⟨.lst ds,true,pa,[]⟩|_=>O.from σ (bY σ i) .ret)=_
 unfold bY
 rw[h]
 show O.from σ (Sl.val i (.sh true d)) .ret=_
 rw[dP i true n]
 rfl
theorem fJ{a:E}{cs:List Cl}{v:Vl}{k:Bool}(h:ev P cl σ a=.ok v)(e:isI cs P v.d=some k):tst P cl σ (.isi a cs)=.ok k:=by
 show(ev P cl σ a >>= λx=>(match isI cs P x.d with|some k=>R.ok k|none=>.bad))=_
 rw[h,aA,e]
theorem aP(i:Nat){d:D}(h:σ[i]? = some (.sh true d))(n:noL d=true):ev P cl σ (.v i)=.ok (.cl d):=by
 show bY σ i=_
 unfold bY
 rw[h]
 exact dP i true n
theorem aM(i:Nat){ds:List D}(h:σ[i]? = some (.sh true (.lst ds))):ev P cl σ (.v i)=.ok ⟨.lst ds,false,true,[]⟩:=by
 show bY σ i=_
 unfold bY
 rw[h]
 rfl
end
variable {bs:List (Str×Int)}
theorem yE(n:Nat){q:Cn}(w:q.wf bs.length true)(z:q.sz<=31):call pg (n+35) 17 [.lst (aB bs),q.d,.bl true]=.ok (q.d,false,false):=by
 have c1:=jP (P:=pg) (wh:=14) (wi:=15) (ch:=20) (fo:=19) (lo:=18) rfl rfl rfl rfl rfl rfl rfl (bs:=aB bs) (lM _) q (n+31-q.sz) 0 w (by omega)
 rw[show n+31-q.sz+3+q.sz=n+34 by omega] at c1
 exact aG (F:=f17) rfl rfl (v:=.cl q.d) (cs (yD (pB (aM 0 rfl) (aC _) (aP 1 rfl q.noL) (aP 2 rfl rfl) (aC _) c1)) (vL rfl q.noL))
theorem aAq(n:Nat){s:Sm}(w:s.wf bs.length true)(z:s.sz<=3):call pg (n+7) 16 [.lst (aB bs),s.d,.bl true]=.ok (s.d,false,false):=by
 have c1:=mK (P:=pg) (wh:=14) (wi:=15) (ch:=20) (fo:=19) (lo:=18) rfl rfl rfl rfl rfl rfl (bs:=aB bs) (lM _) s (n+3-s.sz) 0 w (by omega)
 rw[show n+3-s.sz+3+s.sz=n+6 by omega] at c1
 exact aG (F:=f16) rfl rfl (v:=.cl s.d) (cs (yD (pB (aM 0 rfl) (aC _) (aP 1 rfl s.noL) (aP 2 rfl rfl) (aC _) c1)) (vL rfl s.noL))
theorem aCv(n:Nat){q:Cn}(w:q.wf bs.length true)(z:q.sz<=31):call pg (n+36) 24 [.lst (aB bs),q.d]=.ok (.non,false,false):=
 iB (F:=f24) rfl rfl (cL (aHi (cL (yD (bW (aM 0 rfl) (aP 1 rfl q.noL) (aC _) (yE n w z))))))
theorem aGA(n:Nat){p:Nat×Sm}(o:kQ bs.length p){l:Nat}(hl:l<=p.1):call pg (n+8) 26 [.lst (aB bs),dL p,.int l]=.ok (.non,false,false):=by
 have hb:=o.box
 have c1:=iC (P:=pg) (wh:=14) (wi:=15) rfl rfl (n+5) p.1 l ((bs.length:Int)-1) (by omega) (by omega)
 refine iB (F:=f26) rfl rfl (σ:=[.sh true (.lst (aB bs)),.sh true (dL p),.sh true (.int l)]) ?_
 show exs pg (call pg (n+7)) [.sh true (.lst (aB bs)),.sh true (dL p),.sh true (.int l)] f26.body=_
 have v0:=aM (P:=pg) (cl:=call pg (n+7)) (σ:=[.sh true (.lst (aB bs)),.sh true (dL p),.sh true (.int l)]) 0 rfl
 have v1:=aP (P:=pg) (cl:=call pg (n+7)) (σ:=[.sh true (.lst (aB bs)),.sh true (dL p),.sh true (.int l)]) 1 rfl (pA p)
 have v3:=fA (o:=.Sub) (eW (b:=.len) v0 (mH _ _ _ _)) (aC (.int 1)) (sub_int _ 1)
 rw[show(aB bs).length=bs.length from lM _] at v3
 have k2:=bV (a:=.k (.rse 3 false (.k (.c (.str "puts are of the boxes' numbers, rising, each once")) .z)) .z) (dF (iS (bE v1 (aC _) (fU _ _ rfl)) (aP 2 rfl rfl) v3 c1))
 exact cs (bV (eA (dF (fJ v1 rfl)) (cA (eW v1 (gO _)) (aC _) rfl))) (cs k2 (cL (aHi (cL (yD (bW v0 (bE v1 (aC _) (fV _ _ _ p.2.noL)) (aC _) (aAq n o.wf o.sz)))))))
abbrev pf(bs:List (Str×Int))(ps:List (Nat×Sm))(s t:Sl):Sg:=[.sh true (.lst (aB bs)),.sh true (.tup (ps.map dL)),s,t]
theorem aEL(n:Nat){ps:List (Nat×Sm)}(o:∀p∈ps,kQ bs.length p)(up:Up ps):call pg (n+9) 25 [.lst (aB bs),.tup (ps.map dL)]=.ok (.non,false,false):=by
 have v1:∀s t,ev pg (call pg (n+8)) (pf bs ps s t) (.v 1)=.ok (.cl (.tup (ps.map dL))):=λs t=>aP 1 rfl (fY ps)
 have hw:walk pg (call pg (n+8)) (pf bs ps (.sh false (.int 0)) .x) (.seq (.v 1))=.ok (ps.map λp=>Vl.cl (dL p),[]):=by
  rw[cE,v1,aA]
  show R.ok (items _ (ps.map dL),[])=_
  rw[lJ]
 obtain⟨σ',e3,_⟩:=dJ (P:=pg) (cl:=call pg (n+8)) (t:=.n 3) (b:=match hdS (drp 2 f25.body) with|.for _ _ b=>b|_=>.z) (λi σ=>∃(l:Nat) (t:Sl),(∀p∈ps.drop i,l<=p.1)/\σ=pf bs ps (.sh false (.int l)) t) hw ⟨0,.x,λ_ _=>B5 _,rfl⟩ λi hi σ ⟨l,t,hl,hσ⟩=>by
  have hi':i<ps.length:=by simpa using hi
  subst hσ
  have hd:=Br hi'
  rw[hd] at hl
  have v3:ev pg (call pg (n+8)) (pf bs ps (.sh false (.int l)) (.sh false (dL ps[i]))) (.v 3)=.ok (.cl (dL ps[i])):=bU 3 _
  refine⟨pf bs ps (.sh false (.int l)) (.sh false (dL ps[i])),pf bs ps (.sh false (.int ((ps[i].1+1:Nat):Int))) (.sh false (dL ps[i])),?_,cs (yD (bW (aM 0 rfl) v3 (bU 2 _) (aGA n (o _ (Ba hi')) (hl _ Al)))) (cL (aV (fA (bE v3 (aC _) (fU _ _ rfl)) (aC _) (add_int _ 1)))),ps[i].1+1,_,λp hp=>?_,rfl⟩
  . rw[A5,eY];rfl
  . have:=(C5.mp (by rw[<-hd];exact List.Pairwise.sublist (List.drop_sublist _ _) up)).1 p hp
    exact this
 exact iB (F:=f25) rfl rfl (cs (bV (dF (fJ (v1 _ _) rfl))) (cs (aV (aC _)) (cL e3)))
theorem aMi(x y z:D)(h:noL z=true):eE (.cl (.tup [x,y,z])) (.cl (.int 2))=.ok (.cl z):=aAo x y z [] h
theorem aAr(n:Nat){w:Way}(o:cX bs.length w){e:Nat}(hx:0<=w.nx/\w.nx<(e:Int)+1):call pg (n+37) 23 [.lst (aB bs),w.d,.int e]=.ok (w.d,false,false):=by
 have v0:=aM (P:=pg) (cl:=call pg (n+36)) (σ:=[.sh true (.lst (aB bs)),.sh true w.d,.sh true (.int e)]) 0 rfl
 have v1:=aP (P:=pg) (cl:=call pg (n+36)) (σ:=[.sh true (.lst (aB bs)),.sh true w.d,.sh true (.int e)]) 1 rfl (eX w)
 have c1:=iC (P:=pg) (wh:=14) (wi:=15) rfl rfl (n+34) w.nx 0 e hx.1 (by omega)
 have k1:=bV (a:=.k (.rse 3 false (.k (.c (.str "a way is a tuple (guard, puts, next)")) .z)) .z) (eA (dF (fJ (cs:=[.tTuple]) (k:=true) v1 rfl)) (cA (o:=.NotEq) (k:=false) (eW (b:=.len) v1 (gO _)) (aC (.int 3)) rfl))
 have k4:=bV (a:=.k (.rse 3 false (.k (.c (.str "a way's next is a place of the hand")) .z)) .z) (dF (iS (bE v1 (aC (.int 2)) (aAo _ _ _ _ rfl)) (aC (.int 0)) (aP 2 rfl rfl) c1))
 exact aG (F:=f23) rfl rfl (v:=.cl w.d) (cs k1 (cs (yD (eI v0 (bE v1 (aC (.int 0)) (fU _ _ w.g.noL)) (aCv n o.g o.gs))) (cs (yD (eI v0 (bE v1 (aC (.int 1)) (fV _ _ _ (fY w.ps))) (aEL (n+27) o.ps o.up))) (cs k4 (vL rfl (eX w))))))
section
variable {P:Pg} {cl:Caller} {σ:Sg}
theorem aBs{a b c:E}{x y z:Int}(h1:ev P cl σ a=.ok (.cl (.int x)))(h2:ev P cl σ b=.ok (.cl (.int y)))(h3:ev P cl σ c=.ok (.cl (.int z)))(p:x<=y)(q:y<=z):tst P cl σ (.cmp2 .LtE .LtE a b c)=.ok true:=by
 rw[mD,h1,aA,h2,aA]
 show(match some (decide (x<=y)) with|some true=>ev P cl σ c >>= λz=>(match cG .LtE (.int y) z.d with|some k=>R.ok k|none=>.bad)|some false=>.ok false|none=>.bad)=_
 rw[Am p]
 show(ev P cl σ c >>= λz=>(match cG .LtE (.int y) z.d with|some k=>R.ok k|none=>.bad))=_
 rw[h3,aA]
 show(match some (decide (y<=z)) with|some k=>R.ok k|none=>.bad)=_
 rw[Am q]
theorem tL{a b c:E}{x y z:Int}{k:Bool}(h1:ev P cl σ a=.ok (.cl (.int x)))(h2:ev P cl σ b=.ok (.cl (.int y)))(h3:ev P cl σ c=.ok (.cl (.int z)))(p:x<=y)(q:decide (y<z)=k):tst P cl σ (.cmp2 .LtE .Lt a b c)=.ok k:=by
 rw[mD,h1,aA,h2,aA]
 show(match some (decide (x<=y)) with|some true=>ev P cl σ c >>= λz=>(match cG .Lt (.int y) z.d with|some k=>R.ok k|none=>.bad)|some false=>.ok false|none=>.bad)=_
 rw[Am p]
 show(ev P cl σ c >>= λz=>(match cG .Lt (.int y) z.d with|some k=>R.ok k|none=>.bad))=_
 rw[h3,aA]
 show(match some (decide (y<z)) with|some k=>R.ok k|none=>.bad)=_
 rw[q]
end
theorem pC{α:Type}(k:Nat)(caps:List Nat)(f:α->D):∀h:List α,fQ k caps [] (h.map λx=>Vl.mk (f x) true false [])=⟨.lst (h.map f),true,false,[]⟩:=λh=>by
 have e1:(h.map λx=>Vl.mk (f x) true false []).map (·.d)=h.map f:=by rw[A3];rfl
 have e2:dZ (h.map λx=>Vl.mk (f x) true false [])=false:=by
  induction h with
  | nil=>rfl
  | cons x h ih=>
   unfold dZ at ih ⊢
   rw[mC,List.any_cons,ih (by rw[A3];rfl)];rfl
 have e3:bT (h.map λx=>Vl.mk (f x) true false [])=[]:=by
  clear e1 e2
  induction h with
  | nil=>rfl
  | cons x h ih=>
   unfold bT at ih ⊢
   rw[mC,List.flatMap_cons,ih];rfl
 unfold fQ
 rw[e1,e2,e3]
 split <;> rfl
variable {bs:List (Str×Int)}
theorem aAs(n:Nat){ws:List Way}{e:Nat}(o:aEK bs.length e ws):call pg (n+38) 22 [.lst (aB bs),eZ ws,.int e]=.ok (eZ ws,true,false):=by
 have v1:=aM (P:=pg) (cl:=call pg (n+37)) (σ:=[.sh true (.lst (aB bs)),.sh true (eZ ws),.sh true (.int e)]) 1 rfl
 have hl:=eW (b:=.len) v1 (mH _ _ _ _)
 rw[lM] at hl
 have k1:=bV (a:=.k (.rse 3 false (.k (.c (.str "a row is a list of one to four ways")) .z)) .z) (eA (dF (fJ (cs:=[.tList]) (k:=true) v1 rfl)) (dF (aBs (aC (.int 1)) hl (aC (.int 4)) (by have:=o.one;omega) (by have:=o.few;omega))))
 refine aG (F:=f22) rfl rfl (v:=⟨eZ ws,true,false,[]⟩) (cs k1 (aS (gF (ts:=ws) (al:=[]) (λw=>Vl.cl w.d) Way.d eX ?_ (by have:=o.few;unfold lim;omega) λw hw=>⟨[.sh false w.d,.sh true (.lst (aB bs)),.sh true (.int e)],?_,bW (aM 1 rfl) (bU 0 _) (aP 2 rfl rfl) (aAr n (o.ok w hw).1 (o.ok w hw).2)⟩)))
 . rw[cE,v1,aA]
   show R.ok (items _ (ws.map Way.d),[])=_
   rw[cN eX]
 . rw[eY];rfl
theorem yF(n:Nat){h:List (List Way)}(o:vK bs.length h):call pg (n+39) 21 [.lst (aB bs),.lst (bD h)]=.ok (.lst (bD h),true,false):=by
 have v1:=aM (P:=pg) (cl:=call pg (n+38)) (σ:=[.sh true (.lst (aB bs)),.sh true (.lst (bD h))]) 1 rfl
 have hl:=eW (b:=.len) v1 (mH _ _ _ _)
 rw[lM] at hl
 have k1:=bV (a:=.k (.rse 3 false (.k (.c (.str "a hand is a list of none to eight rows")) .z)) .z) (eA (dF (fJ (cs:=[.tList]) (k:=true) v1 rfl)) (cA (o:=.Gt) (k:=false) hl (aC (.int 8)) (congrArg some (As (by have:=o.few;omega)))))
 have hc:ev pg (call pg (n+38)) [.sh true (.lst (aB bs)),.sh true (.lst (bD h))] (.comp 1 [0,1] (.n 0) (.seq (.v 1)) .z (.call 22 (.k (.v 1) (.k (.v 0) (.k (.bi .len (.k (.v 2) .z)) .z)))))=.ok ⟨.lst (bD h),true,false,[]⟩:=by
  rw[mE (xs:=h.map λws=>⟨eZ ws,false,true,[]⟩) (al:=[]) (λx=>⟨x.d,true,false,[]⟩) ?_ (by rw[lM];have:=o.few;unfold lim;omega) λx hx=>?_]
  . rw[A3]
    exact congrArg R.ok (pC 1 [0,1] eZ h)
  . rw[cE,v1,aA]
    show R.ok (items _ (bD h),[])=_
    unfold items
    rw[A3]
    rfl
  . obtain⟨ws,hw,rfl⟩:=A6.mp hx
    have l2:=eW (b:=.len) (aM (P:=pg) (cl:=call pg (n+38)) (σ:=[.sh true (eZ ws),.sh true (.lst (aB bs)),.sh true (.lst (bD h))]) 2 rfl) (mH _ _ _ _)
    rw[lM] at l2
    exact⟨[.sh true (eZ ws),.sh true (.lst (aB bs)),.sh true (.lst (bD h))],rfl,iE (aM 1 rfl) (aM 0 rfl) l2 (aAs n (o.ok ws hw))⟩
 exact aG (F:=f21) rfl rfl (v:=⟨.lst (bD h),true,false,[]⟩) (cs k1 (aS hc))
def InR(bs:List (Str×Int))(acc:List Int):Prop:=∀(j:Nat) (a:Int) (b:Str×Int),acc[j]? = some a->bs[j]? = some b->0<=a/\a<=b.2
theorem aEM{bs:List (Str×Int)}{st:List Int}{b:Str×Int}{h:Nat}(hl:st.length=bs.length)(H:InR bs st)(hh:h<(b.2+1).toNat):InR (bs++[b]) (st++[(h:Int)]):=by
 intro j x c hx hc
 by_cases hj:j<bs.length
 . rw[Bc (by omega)] at hx
   rw[Bc hj] at hc
   exact H j x c hx hc
 . rw[Au (by omega)] at hx
   rw[Au (by omega)] at hc
   have h0:j-bs.length=0:=by
    have:=(Aw.mp hc).1
    simp at this
    omega
   rw[hl,h0] at hx
   rw[h0] at hc
   cases hx
   cases hc
   omega
theorem yG{bs:List (Str×Int)}:∀i,i<=bs.length->∀st∈standsL (bs.take i),st.length=i/\InR (bs.take i) st
 | 0,_,st,h=>by
  have:st=[]:=by simpa[standsL] using h
  subst this
  exact⟨rfl,λj a b ha _=>by simp at ha⟩
 | i+1,hi,st,h=>by
  rw[fT hi] at h
  obtain⟨b,hb,hst⟩:=List.mem_flatMap.mp h
  obtain⟨m,hm,rfl⟩:=A6.mp hst
  obtain⟨l1,l2⟩:=yG i (by omega) b hb
  refine⟨by simp[l1],?_⟩
  rw[Co hi]
  exact aEM (by rw[l1,A2];omega) l2 (by simpa using hm)
theorem mO{bs:List (Str×Int)}{st:List Int}(h:st∈standsL bs):st.length=bs.length/\InR bs st:=by
 have:=yG (bs:=bs) bs.length (Aj _) st (by rw[B8];exact h)
 rwa [B8] at this
def dX(ws:List Way)(i:Nat):Way:=ws.getD i ⟨.yes,[],0⟩
abbrev aF(i:Nat):D:=.int (i:Int)
theorem cM(i:Nat):noL (aF i)=true:=rfl
theorem vM{ws:List Way}{i:Nat}(h:i<ws.length):dX ws i∈ws/\ws[i]? = some (dX ws i):=by
 unfold dX
 rw[Ae,Ad h]
 exact⟨Ba h,rfl⟩
theorem aGB{P:Pg}{cl:Caller}{σ:Sg}{a:E}{v:Vl}{ds:List D}(h:ev P cl σ a=.ok v)(e:v.d=.lst ds):walk P cl σ (.enum a)=.ok (items v (gI 0 ds),v.al):=by
 show(ev P cl σ a >>= λx=>(match iZ x.d with|some as=>R.ok (items x (gI 0 as),x.al)|none=>.bad))=_
 rw[h,aA,e]
 rfl
def okE:Nat->D->Bool
 | 0,_=>false
 | n+1,d=>match d with
  | .tup ds=>ds.all (okE n)
  | .lst ds=>ds.all (okE n)
  | .dic _=>false
  | .err _ _=>false
  | _=>true
theorem rD:∀(n:Nat) (d:D),okE n d=true->eqF n d d=some true
 | 0,_,h=>by cases h
 | n+1,d,h=>by
  have hs:∀ds:List D,ds.all (okE n)=true->gQ n ds ds=some true:=λds=>by
   induction ds with
   | nil=>intro _;rfl
   | cons x r ih=>
    intro h
    rw[List.all_cons,bA] at h
    unfold gQ
    rw[rD n x h.1,ih h.2]
    rfl
  cases d with
  | non=>rfl
  | bl b=>exact congrArg some (Bm b)
  | int i=>exact congrArg some (Bm i)
  | str s=>exact congrArg some (Bm s)
  | tup ds=>
   show eqL (eqF n) ds ds=_
   rw[zK,hs ds h]
  | lst ds=>
   show(if ds.length=ds.length then eqL (eqF n) ds ds else some false)=_
   rw[if_pos rfl,zK,hs ds h]
  | dic _=>cases h
  | err _ _=>cases h
theorem yH{x:D}(h:eqD x x=some true):cG .NotEq x x=some false:=by rw[vE,h];rfl
section
variable {P:Pg} {cl:Caller} {σ:Sg}
theorem aJ(i:Nat){d:D}(h:σ[i]? = some (.sh false d)):ev P cl σ (.v i)=.ok (.cl d):=by
 show bY σ i=_
 unfold bY
 rw[h]
 exact bU i d
theorem bH(i:Nat){pa:Bool}{ds:List D}(h:σ[i]? = some (.own pa ds)):ev P cl σ (.v i)=.ok ⟨.lst ds,false,pa,[i]⟩:=by
 show bY σ i=_
 unfold bY
 rw[h]
 rfl
theorem aY:evs P cl σ .z=.ok (([]:List D).map Vl.cl):=rfl
theorem aD{a:E}{es:Es}{d:D}{ds:List D}(h:ev P cl σ a=.ok (.cl d))(t:evs P cl σ es=.ok (ds.map Vl.cl)):evs P cl σ (.k a es)=.ok ((d::ds).map Vl.cl):=by
 rw[aH,h,aA,t];rfl
theorem aEN(ds:List D):dZ (ds.map Vl.cl)=false:=by
 induction ds with
 | nil=>rfl
 | cons d ds ih=>unfold dZ at ih ⊢;rw[mC,List.any_cons,ih];rfl
theorem aEO(ds:List D):bT (ds.map Vl.cl)=[]:=by
 induction ds with
 | nil=>rfl
 | cons d ds ih=>unfold bT at ih ⊢;rw[mC,List.flatMap_cons,ih];rfl
theorem aEP(ds:List D):(ds.map Vl.cl).map (·.d)=ds:=by rw[A3];exact List.map_id _
theorem bM{es:Es}{ds:List D}(h:evs P cl σ es=.ok (ds.map Vl.cl)):ev P cl σ (.tup es)=.ok (.cl (.tup ds)):=by
 rw[qX,h,aA]
 show R.ok (Vl.mk (.tup ((ds.map Vl.cl).map (·.d))) false (dZ (ds.map Vl.cl)) (bT (ds.map Vl.cl)))=_
 rw[aEN,aEO,aEP];rfl
theorem dM{es:Es}{ds:List D}(h:evs P cl σ es=.ok (ds.map Vl.cl)):ev P cl σ (.lst es)=.ok ⟨.lst ds,true,false,[]⟩:=by
 rw[aJo,h,aA]
 show R.ok (Vl.mk (.lst ((ds.map Vl.cl).map (·.d))) true (dZ (ds.map Vl.cl)) (bT (ds.map Vl.cl)))=_
 rw[aEN,aEO,aEP]
theorem fB{a b:E}{x n:Int}(h:ev P cl σ a=.ok (.cl (.int x)))(k:ev P cl σ b=.ok (.cl (.int n)))(p:0<n):ev P cl σ (.op .Mod a b)=.ok (.cl (.int (x % n))):=fA h k (aBl p)
theorem cQ{a b:E}{x n:Int}(h:ev P cl σ a=.ok (.cl (.int x)))(k:ev P cl σ b=.ok (.cl (.int n))):ev P cl σ (.op .Add a b)=.ok (.cl (.int (x+n))):=fA h k (add_int _ _)
theorem eH{a:E}{v:Vl}{ds:List D}(h:ev P cl σ a=.ok v)(e:v.d=.lst ds):ev P cl σ (.bi .len (.k a .z))=.ok (.cl (.int ds.length)):=eW h (by
 obtain⟨d,f,p,al⟩:=v
 have e:d=.lst ds:=e
 subst e
 exact mH _ _ _ _)
theorem tM{α:Type}{f:α->D}{a b:E}{v:Vl}{xs:List α}{k:Nat}{x:α}(h:ev P cl σ a=.ok v)(hv:v.d=.lst (xs.map f))(hb:ev P cl σ b=.ok (.cl (.int (k:Int))))(hx:xs[k]? = some x)(hn:noL (f x)=true):ev P cl σ (.idx a b)=.ok (.cl (f x)):=
 bE h hb ((yA hv hx).trans (congrArg R.ok (cC hn)))
theorem fK{a b:E}{v:Vl}{xs:List Int}{k:Nat}(h:ev P cl σ a=.ok v)(hv:v.d=.lst (xs.map D.int))(hb:ev P cl σ b=.ok (.cl (.int (k:Int))))(hk:k<xs.length):ev P cl σ (.idx a b)=.ok (.cl (.int (xs.getD k 0))):=
 bE h hb (aGv hv hk)
theorem rZ{a b:List D}{v w:Vl}(hv:v.d=.lst a)(hw:w.d=.lst b)(ha:noLs a=true)(hb:noLs b=true)(hl:a.length+b.length<=lim):opD .Add v w=.ok ⟨.lst (a++b),true,false,[]⟩:=by
 obtain⟨_,f,p,al⟩:=v
 obtain⟨_,f',p',al'⟩:=w
 cases hv
 cases hw
 show R.iff (decide (a.length+b.length<=lim)) (.ok (Vl.mk (.lst (a++b)) true ((p&&!noLs a)||(p'&&!noLs b)) ((if noLs a then [] else al)++(if noLs b then [] else al'))))=_
 rw[Am hl,ha,hb]
 cases p <;> cases p' <;> rfl
end
section
variable {P:Pg} {cl:Caller} {σ:Sg}
theorem aGC{f:Nat}{a:E}{x:Vl}{k:Bool}(h1:ev P cl σ a=.ok x)(hc:cl f [x.d]=.ok (.bl k,false,false)):tst P cl σ (.call f (.k a .z))=.ok k:=by
 have e:evs P cl σ (.k a .z)=.ok [x]:=by rw[aH,h1];rfl
 rw[hX,e,aA,show [x].map (·.d)=[x.d] from rfl,hc];rfl
end
theorem aCw(x:Int){n:Nat}(h:0<n):∃k:Nat,x % (n:Int)=(k:Int)/\k<n:=by
 have h1:=Int.emod_nonneg x (show(n:Int)≠0 by omega)
 have h2:=D3 x (show(0:Int)<n by omega)
 exact⟨(x % n).toNat,by omega,by omega⟩
abbrev b3(s t:Int):List (Str×Int):=[("a",s),("b",t),("c",1)]
abbrev b4(s:Int):List (Str×Int):=[("a",1),("b",1),("c",1),("d",s)]
def boxSet:List (List (Str×Int)):=[b3 1 1,b3 2 1,b3 1 2,b3 2 2,b4 1,b4 2]
theorem box_six{bs:List (Str×Int)}(hb:bs∈boxSet):bs=b3 1 1\/bs=b3 2 1\/bs=b3 1 2\/bs=b3 2 2\/bs=b4 1\/bs=b4 2:=by
 simpa only[boxSet,An,Be,or_false] using hb
theorem fH{bs:List (Str×Int)}(hb:bs∈boxSet):3<=bs.length/\bs.length<=4:=by
 rcases box_six hb with rfl|rfl|rfl|rfl|rfl|rfl <;> decide
theorem vN{bs:List (Str×Int)}(hb:bs∈boxSet):∀b∈bs,1<=b.2/\b.2<=2:=by
 rcases box_six hb with rfl|rfl|rfl|rfl|rfl|rfl <;> decide +kernel
theorem yI{bs:List (Str×Int)}(hb:bs∈boxSet):iR bs<=24/\1<=iR bs:=by
 rcases box_six hb with rfl|rfl|rfl|rfl|rfl|rfl <;> decide +kernel
theorem yJ{bs:List (Str×Int)}(hb:bs∈boxSet):aGt bs:=⟨by have:=fH hb;omega,λb h=>by have:=vN hb b h;omega,(yI hb).1⟩
theorem aEQ{bs:List (Str×Int)}(hb:bs∈boxSet):∀b∈bs,∃c:Nat,b.1=⟨#[c]⟩/\cG .In (.str ⟨#[c]⟩) (.str "abcdefghijklmnopqrstuvwxyz")=some true:=by
 have h:∀x∈[("a" : Str), "b", "c", "d"],∃c:Nat,x=⟨#[c]⟩/\cG .In (.str ⟨#[c]⟩) (.str "abcdefghijklmnopqrstuvwxyz")=some true:=λx hx=>by
  simp only[An,Be,or_false] at hx
  rcases hx with rfl|rfl|rfl|rfl
  . exact⟨97,by decide +kernel,by decide +kernel⟩
  . exact⟨98,by decide +kernel,by decide +kernel⟩
  . exact⟨99,by decide +kernel,by decide +kernel⟩
  . exact⟨100,by decide +kernel,by decide +kernel⟩
 intro b hm
 refine h b.1 ?_
 revert b
 rcases box_six hb with rfl|rfl|rfl|rfl|rfl|rfl <;> decide +kernel
theorem aER(n:Nat){c:Nat}(h:cG .In (.str ⟨#[c]⟩) (.str "abcdefghijklmnopqrstuvwxyz")=some true):call pg (n+1) 5 [.str ⟨#[c]⟩]=.ok (.bl true,false,false):=by
 have v0:=aP (P:=pg) (cl:=call pg n) (σ:=[.sh true (.str ⟨#[c]⟩)]) 0 rfl rfl
 have hc:ev pg (call pg n) [.sh true (.str ⟨#[c]⟩)] (.comp 1 [] (.n 0) (.seq (.v 0)) .z (.cmp .In (.v 0) (.c (.str "abcdefghijklmnopqrstuvwxyz"))))=.ok ⟨.lst [.bl true],true,false,[]⟩:=
  gF (ts:=[c]) (al:=[]) (λc=>Vl.cl (.str ⟨#[c]⟩)) (λ_=>.bl true) (λ_=>rfl) (by rw[cE,v0];rfl) (by unfold lim;simp) λt ht=>by
   rw[Av] at ht
   subst ht
   exact⟨[.sh false (.str ⟨#[t]⟩)],rfl,kO (bU 0 _) (aC _) h⟩
 exact aG (F:=f5) rfl rfl (v:=.cl (.bl true)) (cs (bV (eA (dF (fJ (k:=true) v0 rfl)) (dF (aBs (y:=1) (aC (.int 1)) (eW v0 rfl) (aC (.int 8)) (by decide) (by decide))))) (aS (eW hc rfl)))
theorem aAt(n:Nat){b:Str×Int}{c:Nat}(hb:b.1=⟨#[c]⟩)(h:cG .In (.str ⟨#[c]⟩) (.str "abcdefghijklmnopqrstuvwxyz")=some true)(ht:1<=b.2/\b.2<=2):call pg (n+3) 4 [box b]=.ok (box b,false,false):=by
 obtain⟨x,t⟩:=b
 have hb:x=⟨#[c]⟩:=hb
 subst hb
 have v0:=aP (P:=pg) (cl:=call pg (n+2)) (σ:=[.sh true (box (⟨#[c]⟩,t))]) 0 rfl rfl
 have i0:=bE v0 (aC (.int 0)) (fU (.str ⟨#[c]⟩) [.int t] rfl)
 have i1:=bE v0 (aC (.int 1)) (fV (.str ⟨#[c]⟩) (.int t) [] rfl)
 exact aG (F:=f4) rfl rfl (v:=.cl (box (⟨#[c]⟩,t))) (cs (bV (eA (dF (fJ (k:=true) v0 rfl)) (cA (eW v0 (gO _)) (aC _) rfl))) (cs (bV (dF (aGC i0 (aER (n+1) h)))) (cs (bV (dF (iS i1 (aC _) (aC _) (iC (P:=pg) (wh:=14) (wi:=15) rfl rfl n t 1 7 ht.1 (by have:=ht.2;show t<=7;omega))))) (aS (nP i0 i1)))))
theorem mF(b:Str×Int):noL (box b)=true:=rfl
theorem vO(n:Nat){bs:List (Str×Int)}(hb:bs∈boxSet):call pg (n+4) 3 [.lst (aB bs)]=.ok (.lst (aB bs),true,false):=by
 obtain⟨l3,l4⟩:=fH hb
 have v0:=aM (P:=pg) (cl:=call pg (n+3)) (σ:=[.sh true (.lst (aB bs)),.x]) 0 rfl
 have hl:=eH v0 rfl
 rw[show(aB bs).length=bs.length from lM _] at hl
 have k1:ex pg (call pg (n+3)) [.sh true (.lst (aB bs)),.x] (.set (.n 1) (.comp 1 [] (.n 0) (.seq (.v 0)) .z (.call 4 (.k (.v 0) .z))))=.next [.sh true (.lst (aB bs)),.own false (aB bs)]:=by
  refine bL (gF (ts:=bs) (al:=[]) (λb=>Vl.cl (box b)) box mF ?_ (by unfold lim;omega) λb hm=>?_)
  . rw[cE,v0,aA]
    show R.ok (items _ (bs.map box),[])=_
    rw[cN mF]
  . obtain⟨c,h1,h2⟩:=aEQ hb b hm
    exact⟨[.sh false (box b)],rfl,cU (bU 0 _) (aAt n h1 h2 (vN hb b hm))⟩
 have k2:tst pg (call pg (n+3)) [.sh true (.lst (aB bs)),.own false (aB bs)] (.cmp .Lt (.numset (.comp 2 [] (.t [0,1]) (.seq (.v 1)) .z (.v 0))) (.bi .len (.k (.v 1) .z)))=.ok false:=by
  rcases box_six hb with rfl|rfl|rfl|rfl|rfl|rfl <;> rfl
 have k3:tst pg (call pg (n+3)) [.sh true (.lst (aB bs)),.own false (aB bs)] (.cmp .Gt (.call 6 (.k (.v 1) .z)) (.c (.int 24)))=.ok false:=by
  rcases box_six hb with rfl|rfl|rfl|rfl|rfl|rfl <;> rfl
 exact aG (F:=f3) rfl rfl (v:=⟨.lst (aB bs),true,false,[]⟩) (cs (bV (eA (dF (fJ (k:=true) v0 rfl)) (dF (aBs (aC (.int 1)) hl (aC (.int 5)) (by omega) (by omega))))) (cs k1 (cs (bV k2) (cs (bV k3) (rC rfl)))))
structure nQ (m:Nat) (z:List Nat):Prop where
 one:1<=z.length
 few:z.length<=4
 ok:∀b∈z,b<m
abbrev iF(z:List Nat):D:=.lst (z.map aF)
theorem aES(n:Nat)(x:Int){h m:Nat}(hh:h<3)(sh:Int)(hm:3<=m)(hm4:m<=4):∃(z:List Nat) (fr:Bool),nQ m z/\call pg (n+1) 44 [.int x,.int h,.int sh,.int m]=.ok (iF z,fr,false):=by
 have third:∃z:List Nat,nQ m z/\ev pg (call pg n) [.sh true (.int x),.sh true (.int h),.sh true (.int sh),.sh true (.int m)] (.idx (.lst (.k (.lst (.k (.c (.int 0)) .z)) (.k (.lst (.k (.c (.int 1)) (.k (.c (.int 2)) .z))) (.k (.lst (.k (.c (.int 0)) .z)) .z)))) (.v 1))=.ok ⟨iF z,false,false,[]⟩:=by
  have:h=0\/h=1\/h=2:=by omega
  rcases this with rfl|rfl|rfl
  . exact⟨[0],⟨by decide,by decide,λb hb=>by simp at hb;omega⟩,rfl⟩
  . exact⟨[1,2],⟨by decide,by decide,λb hb=>by simp at hb;omega⟩,rfl⟩
  . exact⟨[0],⟨by decide,by decide,λb hb=>by simp at hb;omega⟩,rfl⟩
 obtain⟨z,zo,hz⟩:=third
 have x4:=fB (P:=pg) (cl:=call pg n) (σ:=[.sh true (.int x),.sh true (.int h),.sh true (.int sh),.sh true (.int m)]) (aP 0 rfl rfl) (aC (.int 4)) (by decide)
 have tq:∀(j:Int),tst pg (call pg n) [.sh true (.int x),.sh true (.int h),.sh true (.int sh),.sh true (.int m)] (.cmp .Eq (.op .Mod (.v 0) (.c (.int 4))) (.c (.int j)))=.ok (x % 4==j):=λj=>cA x4 (aC _) rfl
 cases q0:(sh==0) with
 | true=>exact⟨z,false,zo,aG (F:=f44) rfl rfl (v:=⟨iF z,false,false,[]⟩) (eG (cA (aP 2 rfl rfl) (aC _) (congrArg some q0)) (aS hz))⟩
 | false=>
  have k0:=bV (P:=pg) (cl:=call pg n) (σ:=[.sh true (.int x),.sh true (.int h),.sh true (.int sh),.sh true (.int m)]) (a:=.k (.ret (.idx (.lst (.k (.lst (.k (.c (.int 0)) .z)) (.k (.lst (.k (.c (.int 1)) (.k (.c (.int 2)) .z))) (.k (.lst (.k (.c (.int 0)) .z)) .z)))) (.v 1))) .z) (cA (o:=.Eq) (k:=false) (aP 2 rfl rfl) (aC (.int 0)) (congrArg some q0))
  cases q1:(x % 4==0) with
  | true=>
   have hc:ev pg (call pg n) [.sh true (.int x),.sh true (.int h),.sh true (.int sh),.sh true (.int m)] (.comp 1 [] (.n 0) (.rng (.c (.int 0)) (.v 3)) .z (.v 0))=.ok ⟨iF (List.range m),true,false,[]⟩:=
    gF (ts:=List.range m) (al:=[]) (λi=>Vl.cl (aF i)) aF cM (cR (aP 3 rfl rfl) rfl (by omega)) (by rw[Cf];unfold lim;omega) λi _=>⟨[.sh false (aF i)],rfl,bU 0 _⟩
   exact⟨List.range m,true,⟨by rw[Cf];omega,by rw[Cf];exact hm4,λb hb=>Cm.mp hb⟩,aG (F:=f44) rfl rfl (v:=⟨iF (List.range m),true,false,[]⟩) (cs k0 (eG ((tq 0).trans (congrArg R.ok q1)) (aS hc)))⟩
  | false=>
   have k1:=bV (a:=.k (.ret (.comp 1 [] (.n 0) (.rng (.c (.int 0)) (.v 3)) .z (.v 0))) .z) ((tq 0).trans (congrArg R.ok q1))
   cases q2:(x % 4==1) with
   | true=>exact⟨[h],true,⟨by simp,by simp,λb hb=>by simp at hb;omega⟩,aG (F:=f44) rfl rfl (v:=⟨iF [h],true,false,[]⟩) (cs k0 (cs k1 (eG ((tq 1).trans (congrArg R.ok q2)) (aS (dM (aD (aP 1 rfl rfl) aY))))))⟩
   | false=>
    have k2:=bV (a:=.k (.ret (.lst (.k (.v 1) .z))) .z) ((tq 1).trans (congrArg R.ok q2))
    cases q3:(x % 4==2) with
    | true=>exact⟨z,false,zo,aG (F:=f44) rfl rfl (v:=⟨iF z,false,false,[]⟩) (cs k0 (cs k1 (cs k2 (eG ((tq 2).trans (congrArg R.ok q3)) (aS hz)))))⟩
    | false=>
     have k3:=bV (a:=.k (.ret (.idx (.lst (.k (.lst (.k (.c (.int 0)) .z)) (.k (.lst (.k (.c (.int 1)) (.k (.c (.int 2)) .z))) (.k (.lst (.k (.c (.int 0)) .z)) .z)))) (.v 1))) .z) ((tq 2).trans (congrArg R.ok q3))
     exact⟨[h,2],true,⟨by simp,by simp,λb hb=>by simp at hb;omega⟩,aG (F:=f44) rfl rfl (v:=⟨iF [h,2],true,false,[]⟩) (cs k0 (cs k1 (cs k2 (cs k3 (aS (dM (aD (aP 1 rfl rfl) (aD (aC _) aY))))))))⟩
section
variable {P:Pg} {cl:Caller} {σ:Sg}
theorem nR{α:Type}{f:α->D}{zs:List α}{zE a:E}{v:Vl}{x:Int}(hz:ev P cl σ zE=.ok v)(hv:v.d=.lst (zs.map f))(ha:ev P cl σ a=.ok (.cl (.int x)))(hl:1<=zs.length)(nf:∀t,noL (f t)=true) :
 ∃t∈zs,ev P cl σ (.idx zE (.op .Mod a (.bi .len (.k zE .z))))=.ok (.cl (f t)):=by
 have hb:=eH hz hv
 rw[lM] at hb
 obtain⟨k,e,hk⟩:=aCw x (n:=zs.length) (by omega)
 have hm:=fB ha hb (by omega)
 rw[e] at hm
 exact⟨zs[k],Ba hk,tM hz hv hm (Ad hk) (nf _)⟩
theorem pD{α:Type}{f:α->D}{zs:List α}{zE a:E}{v:Vl}{x:Int}{n:Nat}(hz:ev P cl σ zE=.ok v)(hv:v.d=.lst (zs.map f))(ha:ev P cl σ a=.ok (.cl (.int x)))(hn:zs.length=n)(h0:0<n)(nf:∀t∈zs,noL (f t)=true) :
 ∃t∈zs,ev P cl σ (.idx zE (.op .Mod a (.c (.int n))))=.ok (.cl (f t)):=by
 obtain⟨k,e,hk⟩:=aCw x h0
 have hm:=fB ha (aC (.int n)) (by omega)
 rw[e] at hm
 have hk':k<zs.length:=by omega
 exact⟨zs[k],Ba hk',tM hz hv hm (Ad hk') (nf _ (Ba hk'))⟩
end
variable {bs:List (Str×Int)}
theorem aCx{m b q:Nat}{p:Bool}{k:Int}(hb:b<m)(hq:q<m)(h0:0<=k/\k<=99):∀t∈([.yes,.yes,.yes,.cmp p (.box b) (.num k),.nt (.cmp p (.box b) (.num k)),.two false (.cmp p (.box b) (.num k)) (.cmp true (.two false (.box q) (.box b)) (.num 0))]++[.two true (.cmp false (.box q) (.two true (.box b) (.num 1))) (.nt (.cmp p (.box b) (.num k)))]:List Cn),t.wf m true/\t.sz<=31:=by
 simp only[List.cons_append,List.nil_append,An,Be,or_false]
 rintro t (rfl|rfl|rfl|rfl|rfl|rfl|rfl) <;> simp[Cn.wf,Sm.wf,Cn.sz,Sm.sz,hb,hq,h0.1,h0.2]
theorem aAu(n:Nat){ys:List Int}(hl:ys.length=12){z:List Nat}(zo:nQ bs.length z):∃g:Cn,g.wf bs.length true/\g.sz<=31/\call pg (n+1) 45 [.lst (ys.map D.int),.lst (aB bs),iF z]=.ok (g.d,false,false):=by
 let σ:Sl->Sl->Sl->Sl->Sl->Sl->Sg:=λs3 s4 s5 s6 s7 s8=>[.sh true (.lst (ys.map D.int)),.sh true (.lst (aB bs)),.sh true (iF z),s3,s4,s5,s6,s7,s8]
 have v0:∀s3 s4 s5 s6 s7 s8,ev pg (call pg n) (σ s3 s4 s5 s6 s7 s8) (.v 0)=.ok ⟨.lst (ys.map D.int),false,true,[]⟩:=λ_ _ _ _ _ _=>aM 0 rfl
 have v2:∀s3 s4 s5 s6 s7 s8,ev pg (call pg n) (σ s3 s4 s5 s6 s7 s8) (.v 2)=.ok ⟨.lst (z.map aF),false,true,[]⟩:=λ_ _ _ _ _ _=>aM 2 rfl
 have y:∀(k:Nat) s3 s4 s5 s6 s7 s8,k<12->ev pg (call pg n) (σ s3 s4 s5 s6 s7 s8) (.idx (.v 0) (.c (.int (k:Int))))=.ok (.cl (.int (ys.getD k 0))):=λk _ _ _ _ _ _ hk=>fK (v0 _ _ _ _ _ _) rfl (aC _) (by omega)
 obtain⟨b,hb,e1⟩:=nR (v2 .x .x .x .x .x .x) rfl (y 0 .x .x .x .x .x .x (by decide)) zo.one cM
 have k1:ex pg (call pg n) (σ .x .x .x .x .x .x) (hdS f45.body)=.next (σ (.sh false (aF b)) .x .x .x .x .x):=aV e1
 have k2:ex pg (call pg n) (σ (.sh false (aF b)) .x .x .x .x .x) (hdS (drp 1 f45.body))=.next (σ (.sh false (aF b)) (.sh false (Sm.num (ys.getD 1 0 % 3)).d) .x .x .x .x):=aV (bM (aD (aC _) (aD (fB (y 1 _ _ _ _ _ _ (by decide)) (aC (.int 3)) (by decide)) aY)))
 obtain⟨p,hp,e3⟩:=pD (P:=pg) (cl:=call pg n) (σ:=σ (.sh false (aF b)) (.sh false (Sm.num (ys.getD 1 0 % 3)).d) .x .x .x .x) (n:=2) (zs:=[true,false]) (f:=λp=>.str (oM p)) (zE:=.lst (.k (.c (.str "is")) (.k (.c (.str "less")) .z))) (dM (aD (aC _) (aD (aC _) aY))) rfl (y 2 _ _ _ _ _ _ (by decide)) rfl (by decide) (λ_ _=>rfl)
 let F:=Cn.cmp p (.box b) (.num (ys.getD 1 0 % 3))
 have k3:ex pg (call pg n) (σ (.sh false (aF b)) (.sh false (Sm.num (ys.getD 1 0 % 3)).d) .x .x .x .x) (hdS (drp 2 f45.body))=.next (σ (.sh false (aF b)) (.sh false (Sm.num (ys.getD 1 0 % 3)).d) (.sh false F.d) .x .x .x):=aV (bM (aD e3 (aD (bM (aD (aC _) (aD (bU 3 _) aY))) (aD (bU 4 _) aY))))
 obtain⟨q,hq,e4⟩:=nR (v2 (.sh false (aF b)) (.sh false (Sm.num (ys.getD 1 0 % 3)).d) (.sh false F.d) .x .x .x) rfl (fA (y 1 (.sh false (aF b)) (.sh false (Sm.num (ys.getD 1 0 % 3)).d) (.sh false F.d) .x .x .x (by decide)) (aC (.int 3)) (oZ (by decide))) zo.one cM
 let O:=Sm.box q
 have k4:ex pg (call pg n) (σ (.sh false (aF b)) (.sh false (Sm.num (ys.getD 1 0 % 3)).d) (.sh false F.d) .x .x .x) (hdS (drp 3 f45.body))=.next (σ (.sh false (aF b)) (.sh false (Sm.num (ys.getD 1 0 % 3)).d) (.sh false F.d) (.sh false O.d) .x .x):=aV (bM (aD (aC _) (aD e4 aY)))
 let τ:Sl->Sl->Sg:=λs7 s8=>σ (.sh false (aF b)) (.sh false (Sm.num (ys.getD 1 0 % 3)).d) (.sh false F.d) (.sh false O.d) s7 s8
 have w3:∀s7 s8,ev pg (call pg n) (τ s7 s8) (.v 3)=.ok (.cl (aF b)):=λ_ _=>bU 3 _
 have w5:∀s7 s8,ev pg (call pg n) (τ s7 s8) (.v 5)=.ok (.cl F.d):=λ_ _=>bU 5 _
 have w6:∀s7 s8,ev pg (call pg n) (τ s7 s8) (.v 6)=.ok (.cl O.d):=λ_ _=>bU 6 _
 have bx:∀s7 s8,ev pg (call pg n) (τ s7 s8) (.tup (.k (.c (.str "box")) (.k (.v 3) .z)))=.ok (.cl (Sm.box b).d):=λ_ _=>bM (aD (aC _) (aD (w3 _ _) aY))
 have nf:∀s7 s8,ev pg (call pg n) (τ s7 s8) (.tup (.k (.c (.str "not")) (.k (.v 5) .z)))=.ok (.cl (Cn.nt F).d):=λ_ _=>bM (aD (aC _) (aD (w5 _ _) aY))
 have ye:∀s7 s8,ev pg (call pg n) (τ s7 s8) (.tup (.k (.c (.str "yes")) .z))=.ok (.cl Cn.yes.d):=λ_ _=>bM (aD (aC _) aY)
 have k5:ex pg (call pg n) (τ .x .x) (hdS (drp 4 f45.body))=.next (τ (.own false ([Cn.yes,.yes,.yes,F,.nt F].map Cn.d)) .x):=bL (dM (aD (ye _ _) (aD (ye _ _) (aD (ye _ _) (aD (w5 _ _) (aD (nf _ _) aY))))))
 let M1:=Cn.cmp true (.two false O (.box b)) (.num 0)
 have k6:∀s7,ex pg (call pg n) (τ s7 .x) (hdS (drp 5 f45.body))=.next (τ s7 (.sh false M1.d)):=λs7=>aV (bM (aD (aC _) (aD (bM (aD (aC _) (aD (w6 _ _) (aD (bx _ _) aY)))) (aD (bM (aD (aC _) (aD (aC _) aY))) aY))))
 have k7:ex pg (call pg n) (τ (.own false ([Cn.yes,.yes,.yes,F,.nt F].map Cn.d)) (.sh false M1.d)) (hdS (drp 6 f45.body))=.next (τ (.own false ([Cn.yes,.yes,.yes,F,.nt F,.two false F M1].map Cn.d)) (.sh false M1.d)):=gU (bM (aD (aC _) (aD (w5 _ _) (aD (aJ 8 rfl) aY)))) rfl (by unfold lim;simp) rfl rfl
 let M2:=Cn.cmp false O (.two true (.box b) (.num 1))
 have k8:∀s7 s8,ex pg (call pg n) (τ s7 s8) (hdS (drp 7 f45.body))=.next (τ s7 (.sh false M2.d)):=λs7 s8=>aV (bM (aD (aC _) (aD (w6 _ _) (aD (bM (aD (aC _) (aD (bx _ _) (aD (bM (aD (aC _) (aD (aC _) aY))) aY)))) aY))))
 let gl:List Cn:=[.yes,.yes,.yes,F,.nt F,.two false F M1]++[.two true M2 (.nt F)]
 have e9:=fA (o:=.Add) (P:=pg) (cl:=call pg n) (σ:=τ (.own false ([Cn.yes,.yes,.yes,F,.nt F,.two false F M1].map Cn.d)) (.sh false M2.d)) (a:=.v 7) (aBi 7 false _) (dM (aD (bM (aD (aC (.str "both")) (aD (aJ 8 (d:=M2.d) rfl) (aD (nf _ _) aY)))) aY)) (rZ rfl rfl (bP Cn.noL _) (bP Cn.noL [Cn.two true M2 (.nt F)]) (by unfold lim;simp))
 obtain⟨g,hg,e10⟩:=pD (n:=7) (zs:=gl) (f:=Cn.d) e9 (by show D.lst _=D.lst (gl.map Cn.d);rw[Ay];rfl) (y 3 _ _ _ _ _ _ (by decide)) rfl (by decide) (λt _=>t.noL)
 have wb:=zo.ok b hb
 have wq:=zo.ok q hq
 have hn0:0<=ys.getD 1 0 % 3/\ys.getD 1 0 % 3<=99:=by omega
 have gok:∀t∈gl,t.wf bs.length true/\t.sz<=31:=aCx wb wq hn0
 exact⟨g,(gok g hg).1,(gok g hg).2,aG (F:=f45) rfl rfl (v:=.cl g.d) (cs k1 (cs k2 (cs k3 (cs k4 (cs k5 (cs (k6 _) (cs k7 (cs (k8 _ _) (aS e10)))))))))⟩
theorem aET{α:Type}{f:α->D}{v:Vl}(xs:List α)(x:α)(hv:v.d=.lst ((xs++[x]).map f))(hn:noL (f x)=true):eE v (.cl (.int (-1)))=.ok (.cl (f x)):=by
 have hl:((xs++[x]).map f).length=xs.length+1:=by simp
 have hx:((xs++[x]).map f)[xs.length]? = some (f x):=by simp
 unfold eE
 rw[hv]
 show(match ixN ((xs++[x]).map f).length (-1) with
  | some j=>(match ((xs++[x]).map f)[j]? with|some d=>R.ok (v.sub d)|none=>.bad)
  | none=>.bad)=_
 have:ixN ((xs++[x]).map f).length (-1)=some xs.length:=by
  rw[hl]
  unfold ixN
  rw[if_neg (by decide),if_pos (by omega)]
  congr 1
  omega
 rw[this]
 show(match ((xs++[x]).map f)[xs.length]? with|some d=>R.ok (v.sub d)|none=>.bad)=_
 rw[hx]
 exact congrArg R.ok (cC hn)
theorem aGD{ps:List (Nat×Sm)}{q p:Nat×Sm}(h:Up (ps++[q]))(hp:q.1<p.1):Up (ps++[q]++[p]):=by
 unfold Up at h ⊢
 rw[List.pairwise_append]
 refine⟨h,List.pairwise_singleton _ _,λa ha b hb=>?_⟩
 rw[Av] at hb
 subst hb
 rw[List.pairwise_append] at h
 rcases Bs.mp ha with z|z
 . exact Nat.lt_trans (h.2.2 a z q (Av.mpr rfl)) hp
 . rw[Av.mp z];exact hp
variable {bs:List (Str×Int)}
theorem aJy(hb:bs∈boxSet){k:Nat}(h:k<bs.length):0<=fW bs k/\fW bs k<=99:=by
 unfold fW
 have hk:k<(bs.map (·.2)).length:=by rw[lM];exact h
 rw[Ae,Ad hk,Option.getD_some,A5]
 have:=vN hb bs[k] (Ba h)
 omega
theorem aGE{m b q:Nat}{t k:Int}(hb:b<m)(hq:q<m)(ht:0<=t/\t<=99)(h0:0<=k/\k<=99):∀s∈([.two false (.num t) (.box b),.num k]++[.box q,.two true (.box q) (.num 0)]:List Sm),s.wf m true/\s.sz<=3:=by
 simp only[List.cons_append,List.nil_append,An,Be,or_false]
 rintro s (rfl|rfl|rfl|rfl) <;> simp[Sm.wf,Sm.sz,hb,hq,ht.1,ht.2,h0.1,h0.2]
abbrev pdF(ys:List Int)(bs:List (Str×Int))(z:List Nat)(ps:List (Nat×Sm))(s4 s5 s6 s7 s8:Sl):Sg:=[.sh true (.lst (ys.map D.int)),.sh true (.lst (aB bs)),.sh true (iF z),.own false (ps.map dL),s4,s5,s6,s7,s8]
abbrev pdB:Ss:=match hdS (drp 1 f46.body) with|.for _ _ b=>b|_=>.z
theorem aCy(n:Nat)(hbs:bs∈boxSet){ys:List Int}(hl:ys.length=7){z:List Nat}(zo:nQ bs.length z){ps:List (Nat×Sm)}{k:Nat}(hk:k<2)(ok:∀p∈ps,kQ bs.length p)(up:Up ps)(pl:ps.length<=k)(s5 s6 s7 s8:Sl) :
 ∃(ps':List (Nat×Sm)) (t5 t6 t7 t8:Sl),(∀p∈ps',kQ bs.length p)/\Up ps'/\ps'.length<=k+1/\exs pg (call pg n) (pdF ys bs z ps (.sh false (aF k)) s5 s6 s7 s8) pdB=.next (pdF ys bs z ps' (.sh false (aF k)) t5 t6 t7 t8):=by
 have v0:∀ps s5 s6 s7 s8,ev pg (call pg n) (pdF ys bs z ps (.sh false (aF k)) s5 s6 s7 s8) (.v 0)=.ok ⟨.lst (ys.map D.int),false,true,[]⟩:=λ_ _ _ _ _=>aM 0 rfl
 have v2:∀ps s5 s6 s7 s8,ev pg (call pg n) (pdF ys bs z ps (.sh false (aF k)) s5 s6 s7 s8) (.v 2)=.ok ⟨.lst (z.map aF),false,true,[]⟩:=λ_ _ _ _ _=>aM 2 rfl
 have y:∀(a:Nat) ps s5 s6 s7 s8,a<6->ev pg (call pg n) (pdF ys bs z ps (.sh false (aF k)) s5 s6 s7 s8) (.idx (.v 0) (.op .Add (.c (.int (a:Int))) (.v 4)))=.ok (.cl (.int (ys.getD (a+k) 0))):=λa ps s5 s6 s7 s8 ha=>fK (v0 _ _ _ _ _) rfl (by
  have:=cQ (P:=pg) (cl:=call pg n) (σ:=pdF ys bs z ps (.sh false (aF k)) s5 s6 s7 s8) (aC (.int (a:Int))) (aJ 4 (d:=aF k) rfl)
  rw[show(a:Int)+(k:Int)=((a+k:Nat):Int) by omega] at this
  exact this) (by omega)
 obtain⟨b,hb,e1⟩:=nR (v2 ps s5 s6 s7 s8) rfl (y 1 ps s5 s6 s7 s8 (by decide)) zo.one cM
 have wb:=zo.ok b hb
 obtain⟨bd,nb,i1,i2⟩:=aBq wb
 have k1:ex pg (call pg n) (pdF ys bs z ps (.sh false (aF k)) s5 s6 s7 s8) (hdS pdB)=.next (pdF ys bs z ps (.sh false (aF k)) (.sh false (aF b)) s6 s7 s8):=aV e1
 have k2:ex pg (call pg n) (pdF ys bs z ps (.sh false (aF k)) (.sh false (aF b)) s6 s7 s8) (hdS (drp 1 pdB))=.next (pdF ys bs z ps (.sh false (aF k)) (.sh false (aF b)) (.sh false (Sm.num (fW bs b)).d) s7 s8):=aV (bM (aD (aC _) (aD (bE (bE (aM 1 rfl) (aJ 5 (d:=aF b) rfl) i1) (aC (.int 1)) i2) aY)))
 obtain⟨q,hq,e3⟩:=nR (v2 ps (.sh false (aF b)) (.sh false (Sm.num (fW bs b)).d) s7 s8) rfl (y 3 ps (.sh false (aF b)) (.sh false (Sm.num (fW bs b)).d) s7 s8 (by decide)) zo.one cM
 have k3:ex pg (call pg n) (pdF ys bs z ps (.sh false (aF k)) (.sh false (aF b)) (.sh false (Sm.num (fW bs b)).d) s7 s8) (hdS (drp 2 pdB))=.next (pdF ys bs z ps (.sh false (aF k)) (.sh false (aF b)) (.sh false (Sm.num (fW bs b)).d) (.sh false (Sm.box q).d) s8):=aV (bM (aD (aC _) (aD e3 aY)))
 let τ:List (Nat×Sm)->Sl->Sg:=λps s8=>pdF ys bs z ps (.sh false (aF k)) (.sh false (aF b)) (.sh false (Sm.num (fW bs b)).d) (.sh false (Sm.box q).d) s8
 let A:List Sm:=[.two false (.num (fW bs b)) (.box b),.num (ys.getD (3+k) 0 % 2)]
 let B:List Sm:=[.box q,.two true (.box q) (.num 0)]
 have k4:ex pg (call pg n) (τ ps s8) (hdS (drp 3 pdB))=.next (τ ps (.own false (A.map Sm.d))):=bL (dM (aD (bM (aD (aC _) (aD (aJ 6 rfl) (aD (bM (aD (aC _) (aD (aJ 5 rfl) aY))) aY)))) (aD (bM (aD (aC _) (aD (fB (y 3 _ _ _ _ _ (by decide)) (aC (.int 2)) (by decide)) aY))) aY)))
 have w7:∀ps s8,ev pg (call pg n) (τ ps s8) (.v 7)=.ok (.cl (Sm.box q).d):=λ_ _=>aJ 7 rfl
 have k5:ex pg (call pg n) (τ ps (.own false (A.map Sm.d))) (hdS (drp 4 pdB))=.next (τ ps (.own false ((A++B).map Sm.d))):=by
  rw[Ay]
  exact bL (fA (bH 8 rfl) (dM (aD (w7 _ _) (aD (bM (aD (aC _) (aD (w7 _ _) (aD (bM (aD (aC _) (aD (aC _) aY))) aY)))) aY))) (rZ rfl rfl (bP Sm.noL A) (bP Sm.noL B) (by unfold lim;simp[A,B])))
 obtain⟨s,hs,e6⟩:=pD (n:=4) (zs:=A++B) (f:=Sm.d) (bH (P:=pg) (cl:=call pg n) (σ:=τ ps (.own false ((A++B).map Sm.d))) 8 rfl) rfl (y 5 _ _ _ _ _ (by decide)) rfl (by decide) (λt _=>t.noL)
 have so:=aGE wb (zo.ok q hq) (aJy hbs wb) (k:=ys.getD (3+k) 0 % 2) (by omega) s hs
 have po:kQ bs.length (b,s):=⟨wb,so.1,so.2⟩
 have v3:=bH (P:=pg) (cl:=call pg n) (σ:=τ ps (.own false ((A++B).map Sm.d))) 3 rfl
 have hlen:=eH v3 rfl
 have kapp:exs pg (call pg n) (τ ps (.own false ((A++B).map Sm.d))) (match hdS (drp 5 pdB) with|.iff _ a _=>a|_=>.z)=.next (τ (ps++[(b,s)]) (.own false ((A++B).map Sm.d))):=cL (gU (nP (aJ 5 (d:=aF b) rfl) e6) rfl (by rw[lM];unfold lim;omega) rfl (by rw[Ay];rfl))
 have fin:∀{σ'},ex pg (call pg n) (τ ps (.own false ((A++B).map Sm.d))) (hdS (drp 5 pdB))=.next σ'->exs pg (call pg n) (pdF ys bs z ps (.sh false (aF k)) s5 s6 s7 s8) pdB=.next σ':=λe=>cs k1 (cs k2 (cs k3 (cs k4 (cs k5 (cL e)))))
 rcases(show ps=[]\/∃ps' p,ps=ps'++[p] from(List.eq_nil_or_concat ps).imp id λ⟨a,b,e⟩=>⟨a,b,by rw[e,List.concat_eq_append]⟩) with rfl|⟨ps',p,rfl⟩
 . refine⟨[(b,s)],_,_,_,_,λp hp=>?_,List.pairwise_singleton _ _,by simp,fin (yB (aBr (cA hlen (aC _) rfl)) kapp)⟩
   rw[Av] at hp
   rw[hp];exact po
 . have hlt:tst pg (call pg n) (τ (ps'++[p]) (.own false ((A++B).map Sm.d))) (.cmp .Lt (.idx (.idx (.v 3) (.neg (.c (.int 1)))) (.c (.int 0))) (.v 5))=.ok (decide ((p.1:Int)<(b:Int))):=cA (bE (bE v3 (by rw[aJl];rfl) (aET (f:=dL) ps' p rfl (pA p))) (aC (.int 0)) (fU _ _ rfl)) (aJ 5 (d:=aF b) rfl) rfl
   have hne:tst pg (call pg n) (τ (ps'++[p]) (.own false ((A++B).map Sm.d))) (.cmp .Eq (.bi .len (.k (.v 3) .z)) (.c (.int 0)))=.ok false:=cA hlen (aC (.int 0)) (congrArg some (Bb.mpr (by simp;omega)))
   by_cases hpb:p.1<b
   . rw[Am (by omega)] at hlt
     exact⟨ps'++[p]++[(b,s)],_,_,_,_,jQ ok po,aGD up hpb,by rw[lA];simp at pl ⊢;omega,fin (yB (eA hne hlt) kapp)⟩
   . rw[As (by omega)] at hlt
     exact⟨ps'++[p],_,_,_,_,ok,up,by omega,fin (bV (eA hne hlt))⟩
theorem aCz(n:Nat)(hbs:bs∈boxSet){ys:List Int}(hl:ys.length=7){z:List Nat}(zo:nQ bs.length z):∃ps:List (Nat×Sm),(∀p∈ps,kQ bs.length p)/\Up ps/\call pg (n+1) 46 [.lst (ys.map D.int),.lst (aB bs),iF z]=.ok (.tup (ps.map dL),false,false):=by
 have y0:=fB (P:=pg) (cl:=call pg n) (σ:=pdF ys bs z [] .x .x .x .x .x) (fK (k:=0) (aM 0 rfl) rfl (aC _) (by omega)) (aC (.int 3)) (by decide)
 obtain⟨N,eN,hN⟩:=aCw (ys.getD 0 0) (n:=3) (by decide)
 rw[show((3:Nat):Int)=3 from rfl] at eN
 rw[eN] at y0
 obtain⟨σ',ef,ps,s4,s5,s6,s7,s8,h1,h2,h3,rfl⟩:=dJ (P:=pg) (cl:=call pg n) (σ:=pdF ys bs z [] .x .x .x .x .x) (t:=.n 4) (b:=pdB) (λi σ=>∃(ps:List (Nat×Sm)) (s4 s5 s6 s7 s8:Sl),(∀p∈ps,kQ bs.length p)/\Up ps/\ps.length<=i/\σ=pdF ys bs z ps s4 s5 s6 s7 s8) (cR y0 rfl (by omega)) ⟨[],_,_,_,_,_,λ_ z=>absurd z Be,List.Pairwise.nil,Aj _,rfl⟩ λi hi σ ⟨ps,s4,s5,s6,s7,s8,h1,h2,h3,hσ⟩=>by
  have hi':i<N:=by simpa using hi
  subst hσ
  obtain⟨ps',t5,t6,t7,t8,g1,g2,g3,g4⟩:=aCy n hbs hl zo (k:=i) (by omega) h1 h2 h3 s5 s6 s7 s8
  refine⟨pdF ys bs z ps (.sh false (aF i)) s5 s6 s7 s8,_,?_,g4,ps',_,t5,t6,t7,t8,g1,g2,g3,rfl⟩
  rw[A5,B0,eY]
  rfl
 exact⟨ps,h1,h2,aG (F:=f46) rfl rfl (v:=.cl (.tup (ps.map dL))) (cs (σ':=pdF ys bs z [] .x .x .x .x .x) rfl (cs ef (aS (eW (bH 3 rfl) (aBp 3 (fY ps))))))⟩
theorem aBt{α β:Type}(f:α->β)(xs:List α)(lo hi:Option Int):cut (xs.map f) lo hi=(cut xs lo hi).map f:=by
 unfold cut
 rw[lM,Dd,Dp]
theorem aGF{ys:List Int}(h:ys.length=12):(cut ys (some 4) (some 11)).length=7:=by
 unfold cut
 rw[A2,B7,h]
 rfl
theorem aMj{P:Pg}{cl:Caller}{σ:Sg}{a b c e:E}{x y z w:Vl}(h1:ev P cl σ a=.ok x)(h2:ev P cl σ b=.ok y)(h3:ev P cl σ c=.ok z)(h4:ev P cl σ e=.ok w):evs P cl σ (.k a (.k b (.k c (.k e .z))))=.ok [x,y,z,w]:=by rw[aH,h1,aA,aH,h2,aA,aH,h3,aA,aH,h4,aA,bI];rfl
theorem kH{P:Pg}{cl:Caller}{σ:Sg}{f:Nat}{a b c e:E}{x y z w:Vl}{d:D}{fr:Bool}(h1:ev P cl σ a=.ok x)(h2:ev P cl σ b=.ok y)(h3:ev P cl σ c=.ok z)(h4:ev P cl σ e=.ok w)(hc:cl f [x.d,y.d,z.d,w.d]=.ok (d,fr,false)):ev P cl σ (.call f (.k a (.k b (.k c (.k e .z)))))=.ok ⟨d,fr,false,[]⟩:=by
 rw[dC,aMj h1 h2 h3 h4,aA,show [x,y,z,w].map (·.d)=[x.d,y.d,z.d,w.d] from rfl,hc];rfl
def Is(s:Sl)(ds:List D):Prop:=s=.own false ds\/s=.sh false (.lst ds)
theorem aHj{P:Pg}{cl:Caller}{σ:Sg}{s:Sl}{ds:List D}(h:Is s ds){i:Nat}(hi:σ[i]? = some s):∃v,ev P cl σ (.v i)=.ok v/\v.d=.lst ds/\v.pa=false:=by
 rcases h with rfl|rfl
 . exact⟨_,bH i hi,rfl,rfl⟩
 . exact⟨_,aJ i hi,rfl,rfl⟩
theorem aJz{P:Pg}{cl:Caller}{σ:Sg}{i:Nat}{e:E}{ds:List D}{fr:Bool}(h:ev P cl σ e=.ok ⟨.lst ds,fr,false,[]⟩):∃s,Is s ds/\ex P cl σ (.set (.n i) e)=.next (σ.set i s):=by
 cases fr with
 | true=>exact⟨_,.inl rfl,bL h⟩
 | false=>exact⟨_,.inr rfl,aV h⟩
variable {bs:List (Str×Int)}
abbrev hdF(c:Int)(bs:List (Str×Int))(h r:Nat)(sh:Int)(xs:List Int)(s6:Sl)(rs:List (List Way))(s8 s9 s10 s11 s12 s13:Sl):Sg:=[.sh true (.int c),.sh true (.lst (aB bs)),.sh true (.int h),.sh true (.int r),.sh true (.int sh),.own false (xs.map D.int),s6,.own false (bD rs),s8,s9,s10,s11,s12,s13]
abbrev hdB:Ss:=match hdS (drp 3 f47.body) with|.for _ _ b=>b|_=>.z
abbrev hdI:Ss:=match hdS (drp 1 hdB) with|.for _ _ b=>b|_=>.z
theorem aBu{P:Pg}{cl:Caller}{σ:Sg}{a b c:E}{x:Vl}{i j:Int}(h1:ev P cl σ a=.ok x)(h2:ev P cl σ b=.ok (.cl (.int i)))(h3:ev P cl σ c=.ok (.cl (.int j)))(s1:aN i=true)(s2:aN j=true):ev P cl σ (.sli a (.k b .z) (.k c .z))=dQ x (some i) (some j):=by
 have e1:evs P cl σ (.k b .z)=.ok [.cl (.int i)]:=by rw[aH,h2];rfl
 have e2:evs P cl σ (.k c .z)=.ok [.cl (.int j)]:=by rw[aH,h3];rfl
 show(ev P cl σ a >>= λx=>evs P cl σ (.k b .z) >>= λl=>evs P cl σ (.k c .z) >>= λh=>_)=_
 rw[h1,aA,e1,aA,e2,aA]
 show R.iff (aN i&&aN j) _=_
 rw[s1,s2]
 rfl
theorem aEU(n:Nat)(hbs:bs∈boxSet){c sh:Int}{h r:Nat}{xs:List Int}(hx:xs.length=3+14*r){z:List Nat}(zo:nQ bs.length z){s6:Sl}(hz:Is s6 (z.map aF)){rs:List (List Way)}{k j:Nat}(hk:k<r)(hj:j<4){ws:List Way}(wo:∀w∈ws,cX bs.length w/\0<=w.nx/\w.nx<(r:Int)+1)(wl:ws.length<=j)(s11 s12 s13:Sl) :
 ∃(w:Way) (t11 t12 t13:Sl),(cX bs.length w/\0<=w.nx/\w.nx<(r:Int)+1)/\exs pg (call pg (n+1)) (hdF c bs h r sh xs s6 rs (.sh false (aF k)) (.own false (ws.map Way.d)) (.sh false (aF j)) s11 s12 s13) hdI=.next (hdF c bs h r sh xs s6 rs (.sh false (aF k)) (.own false ((ws++[w]).map Way.d)) (.sh false (aF j)) t11 t12 t13):=by
 let τ:Sl->Sl->Sl->Sl->Sg:=λs9 s11 s12 s13=>hdF c bs h r sh xs s6 rs (.sh false (aF k)) s9 (.sh false (aF j)) s11 s12 s13
 have v5:∀s9 s11 s12 s13,ev pg (call pg (n+1)) (τ s9 s11 s12 s13) (.v 5)=.ok ⟨.lst (xs.map D.int),false,false,[5]⟩:=λ_ _ _ _=>bH 5 rfl
 have c14:opD .Mult (.cl (.int 14)) (.cl (.int (k:Int)))=.ok (.cl (.int (14*k))):=mul_int (by
  unfold gY
  rw[Am (by omega),Am (by omega)]
  rfl)
 have ix:∀s9 s11 s12 s13,ev pg (call pg (n+1)) (τ s9 s11 s12 s13) (.op .Add (.op .Add (.c (.int 3)) (.op .Mult (.c (.int 14)) (.v 8))) (.v 10))=.ok (.cl (.int ((3+14*k+j:Nat):Int))):=λs9 s11 s12 s13=>by
  have:=cQ (P:=pg) (cl:=call pg (n+1)) (σ:=τ s9 s11 s12 s13) (cQ (aC (.int 3)) (fA (o:=.Mult) (aC (.int 14)) (aJ 8 (d:=aF k) rfl) c14)) (aJ 10 (d:=aF j) rfl)
  rw[show(3:Int)+14*(k:Int)+(j:Int)=((3+14*k+j:Nat):Int) by omega] at this
  exact this
 let ys:=nM (xs.getD (3+14*k+j) 0) 12
 have yl:ys.length=12:=iA _ _
 have k1:∀s9,ex pg (call pg (n+1)) (τ s9 s11 s12 s13) (hdS hdI)=.next (τ s9 (.own false (ys.map D.int)) s12 s13):=λs9=>bL (dW (fK (v5 _ _ _ _) rfl (ix _ _ _ _) (by omega)) (aC (.int 12)) (fX (P:=pg) (f:=43) rfl n _ (m:=12) (by decide)))
 have v11:∀s9 s12 s13,ev pg (call pg (n+1)) (τ s9 (.own false (ys.map D.int)) s12 s13) (.v 11)=.ok ⟨.lst (ys.map D.int),false,false,[11]⟩:=λ_ _ _=>bH 11 rfl
 have ib:∀s9 s12 s13,∃e:Nat,e<=1/\ev pg (call pg (n+1)) (τ s9 (.own false (ys.map D.int)) s12 s13) (.bi .int (.k (.cmp .Eq (.op .Mod (.idx (.v 5) (.c (.int 2))) (.c (.int 5))) (.c (.int 0))) .z))=.ok (.cl (.int (e:Int))):=λs9 s12 s13=>by
  have e1:=kO (o:=.Eq) (fB (fK (k:=2) (v5 s9 (.own false (ys.map D.int)) s12 s13) rfl (aC _) (by omega)) (aC (.int 5)) (by decide)) (aC (.int 0)) (k:=xs.getD 2 0 % 5==0) rfl
  cases q:(xs.getD 2 0 % 5==0) with
  | true=>rw[q] at e1;exact⟨1,Aj _,eW e1 rfl⟩
  | false=>rw[q] at e1;exact⟨0,B5 _,eW e1 rfl⟩
 obtain⟨e,he,ie⟩:=ib (.own false (ws.map Way.d)) s12 s13
 have md:=fB (fK (k:=11) (v11 (.own false (ws.map Way.d)) s12 s13) rfl (aC _) (by omega)) (cQ (aP 3 (d:=.int r) rfl rfl) ie) (by omega)
 let nx:=ys.getD 11 0 % ((r:Int)+(e:Int))
 have hnx:0<=nx/\nx<(r:Int)+1:=by
  have h1:=Int.emod_nonneg (ys.getD 11 0) (show(r:Int)+(e:Int)≠0 by omega)
  have h2:=D3 (ys.getD 11 0) (show 0<(r:Int)+(e:Int) by omega)
  exact⟨h1,by show ys.getD 11 0 % ((r:Int)+(e:Int))<_;omega⟩
 have k2:ex pg (call pg (n+1)) (τ (.own false (ws.map Way.d)) (.own false (ys.map D.int)) s12 s13) (hdS (drp 1 hdI))=.next (τ (.own false (ws.map Way.d)) (.own false (ys.map D.int)) (.sh false (.int nx)) s13):=aV md
 obtain⟨v6,z1,z2,_⟩:=aHj hz (P:=pg) (cl:=call pg (n+1)) (σ:=τ (.own false (ws.map Way.d)) (.own false (ys.map D.int)) (.sh false (.int nx)) s13) (i:=6) rfl
 obtain⟨g,g1,g2,g3⟩:=aAu n yl zo
 have k3:ex pg (call pg (n+1)) (τ (.own false (ws.map Way.d)) (.own false (ys.map D.int)) (.sh false (.int nx)) s13) (hdS (drp 2 hdI))=.next (τ (.own false (ws.map Way.d)) (.own false (ys.map D.int)) (.sh false (.int nx)) (.sh false g.d)):=aV (bW (v11 _ _ _) (aM 1 rfl) z1 (by rw[z2];exact g3))
 obtain⟨v6',z1',z2',_⟩:=aHj hz (P:=pg) (cl:=call pg (n+1)) (σ:=τ (.own false (ws.map Way.d)) (.own false (ys.map D.int)) (.sh false (.int nx)) (.sh false g.d)) (i:=6) rfl
 obtain⟨ps,p1,p2,p3⟩:=aCz n hbs (aGF yl) zo
 have sl:ev pg (call pg (n+1)) (τ (.own false (ws.map Way.d)) (.own false (ys.map D.int)) (.sh false (.int nx)) (.sh false g.d)) (.sli (.v 11) (.k (.c (.int 4)) .z) (.k (.c (.int 11)) .z))=.ok ⟨.lst ((cut ys (some 4) (some 11)).map D.int),true,false,[]⟩:=by
  rw[aBu (v11 _ _ _) (aC _) (aC _) rfl rfl]
  show R.ok (Vl.mk (.lst (cut (ys.map D.int) (some 4) (some 11))) true (false&&!noLs (ys.map D.int)) (if noLs (ys.map D.int)=true then [] else [11]))=_
  rw[eO,aBt]
  rfl
 let w:Way:=⟨g,ps,nx⟩
 have k4:ex pg (call pg (n+1)) (τ (.own false (ws.map Way.d)) (.own false (ys.map D.int)) (.sh false (.int nx)) (.sh false g.d)) (hdS (drp 3 hdI))=.next (τ (.own false ((ws++[w]).map Way.d)) (.own false (ys.map D.int)) (.sh false (.int nx)) (.sh false g.d)):=gU (vJ (aJ 13 (d:=g.d) rfl) (bW sl (aM 1 rfl) z1' (by rw[z2'];exact p3)) (aJ 12 (d:=.int nx) rfl)) rfl (by rw[lM];unfold lim;omega) rfl (by rw[Ay];rfl)
 exact⟨w,_,_,_,⟨⟨g1,g2,p1,p2⟩,hnx⟩,cs (k1 _) (cs k2 (cs k3 (cL k4)))⟩
theorem aCA(n:Nat)(hbs:bs∈boxSet)(c sh:Int){h r:Nat}(hh:h<3)(hr:r<=3):∃hd:List (List Way),hd.length=r/\vK bs.length hd/\call pg (n+2) 47 [.int c,.lst (aB bs),.int h,.int r,.int sh]=.ok (.lst (bD hd),true,false):=by
 obtain⟨l3,l4⟩:=fH hbs
 have c14:opD .Mult (.cl (.int 14)) (.cl (.int (r:Int)))=.ok (.cl (.int (14*r))):=mul_int (by
  unfold gY
  rw[Am (by omega),Am (by omega)]
  rfl)
 let xs:=nM c (3+14*r)
 have xl:xs.length=3+14*r:=iA _ _
 let σ:Sl->Sl->Sl->Sg:=λs5 s6 s7=>[.sh true (.int c),.sh true (.lst (aB bs)),.sh true (.int h),.sh true (.int r),.sh true (.int sh),s5,s6,s7,.x,.x,.x,.x,.x,.x]
 have k1:ex pg (call pg (n+1)) (σ .x .x .x) (hdS f47.body)=.next (σ (.own false (xs.map D.int)) .x .x):=by
  refine bL (dW (aP 0 (d:=.int c) rfl rfl) (cQ (aC (.int 3)) (fA (o:=.Mult) (aC (.int 14)) (aP 3 (d:=.int r) rfl rfl) c14)) ?_)
  show call pg (n+1) 43 [.int c,.int (3+14*(r:Int))]=_
  rw[show(3:Int)+14*(r:Int)=((3+14*r:Nat):Int) by omega]
  exact fX (P:=pg) (f:=43) rfl n c (by omega)
 obtain⟨z,fr,zo,hz⟩:=aES n (xs.getD 0 0) (h:=h) (m:=bs.length) hh sh l3 l4
 have hlen:=eH (aM (P:=pg) (cl:=call pg (n+1)) (σ:=σ (.own false (xs.map D.int)) .x .x) 1 (ds:=aB bs) rfl) rfl
 rw[show(aB bs).length=bs.length from lM _] at hlen
 have e2:ev pg (call pg (n+1)) (σ (.own false (xs.map D.int)) .x .x) (.call 44 (.k (.idx (.v 5) (.c (.int 0))) (.k (.v 2) (.k (.v 4) (.k (.bi .len (.k (.v 1) .z)) .z)))))=.ok ⟨iF z,fr,false,[]⟩:=by
  exact kH (fK (k:=0) (bH 5 rfl) rfl (aC _) (by omega)) (aP 2 (d:=.int h) rfl rfl) (aP 4 (d:=.int sh) rfl rfl) hlen hz
 obtain⟨s6,i6,k2⟩:=aJz (i:=6) e2
 have k3:ex pg (call pg (n+1)) (σ (.own false (xs.map D.int)) s6 .x) (.set (.n 7) (.lst .z))=.next (hdF c bs h r sh xs s6 [] .x .x .x .x .x .x):=rfl
 obtain⟨σ',ef,rs,s8,s9,s10,s11,s12,s13,g1,g2,rfl⟩:=dJ (P:=pg) (cl:=call pg (n+1)) (σ:=hdF c bs h r sh xs s6 [] .x .x .x .x .x .x) (t:=.n 8) (b:=hdB) (λi σ=>∃(rs:List (List Way)) (s8 s9 s10 s11 s12 s13:Sl),rs.length=i/\(∀ws∈rs,aEK bs.length r ws)/\σ=hdF c bs h r sh xs s6 rs s8 s9 s10 s11 s12 s13) (cR (aP 3 (d:=.int r) rfl rfl) rfl (by omega)) ⟨[],_,_,_,_,_,_,rfl,λ_ z=>absurd z Be,rfl⟩ λi hi σ ⟨rs,s8,s9,s10,s11,s12,s13,g1,g2,hσ⟩=>by
  have hi':i<r:=by simpa using hi
  subst hσ
  have q1:ex pg (call pg (n+1)) (hdF c bs h r sh xs s6 rs (.sh false (aF i)) s9 s10 s11 s12 s13) (hdS hdB)=.next (hdF c bs h r sh xs s6 rs (.sh false (aF i)) (.own false (([]:List Way).map Way.d)) s10 s11 s12 s13):=rfl
  let σ2:=hdF c bs h r sh xs s6 rs (.sh false (aF i)) (.own false (([]:List Way).map Way.d)) s10 s11 s12 s13
  have m1:=fA (o:=.FloorDiv) (P:=pg) (cl:=call pg (n+1)) (σ:=σ2) (fK (k:=1) (bH 5 rfl) rfl (aC _) (by omega)) (cQ (aJ 8 (d:=aF i) rfl) (aC (.int 1))) (oZ (by
   unfold wM
   simp only[A1,bA]
   omega))
  have m2:=fB m1 (aC (.int 4)) (by decide)
  obtain⟨M,eM,hM⟩:=aCw (xs.getD 1 0 / ((i:Int)+1)) (n:=4) (by decide)
  rw[show((4:Nat):Int)=4 from rfl] at eM
  rw[eM] at m2
  have m3:=cQ (aC (.int 1)) m2
  rw[show(1:Int)+(M:Int)=((1+M:Nat):Int) by omega] at m3
  obtain⟨σ3,q2,ws,t10,t11,t12,t13,w1,w2,rfl⟩:=dJ (P:=pg) (cl:=call pg (n+1)) (σ:=σ2) (t:=.n 10) (b:=hdI) (λj σ=>∃(ws:List Way) (t10 t11 t12 t13:Sl),ws.length=j/\(∀w∈ws,cX bs.length w/\0<=w.nx/\w.nx<(r:Int)+1)/\σ=hdF c bs h r sh xs s6 rs (.sh false (aF i)) (.own false (ws.map Way.d)) t10 t11 t12 t13) (cR m3 rfl (by omega)) ⟨[],_,_,_,_,rfl,λ_ z=>absurd z Be,rfl⟩ λj hj σ ⟨ws,t10,t11,t12,t13,w1,w2,hσ⟩=>by
   have hj':j<1+M:=by simpa using hj
   subst hσ
   obtain⟨w,u11,u12,u13,o1,o2⟩:=aEU n hbs (c:=c) (sh:=sh) (h:=h) xl zo i6 (rs:=rs) hi' (j:=j) (by omega) w2 (by omega) t11 t12 t13
   refine⟨hdF c bs h r sh xs s6 rs (.sh false (aF i)) (.own false (ws.map Way.d)) (.sh false (aF j)) t11 t12 t13,_,?_,o2,ws++[w],_,u11,u12,u13,by rw[lA,w1];rfl,jQ w2 o1,rfl⟩
   rw[A5,B0,eY];rfl
  have wl:ws.length=1+M:=by rw[w1];simp
  have q3:ex pg (call pg (n+1)) (hdF c bs h r sh xs s6 rs (.sh false (aF i)) (.own false (ws.map Way.d)) t10 t11 t12 t13) (hdS (drp 2 hdB))=.next (hdF c bs h r sh xs s6 (rs++[ws]) (.sh false (aF i)) (.sh false (eZ ws)) t10 t11 t12 t13):=by
   refine(gU (bH 9 rfl) rfl (by rw[lM];unfold lim;omega) rfl rfl).trans ?_
   show O.next (hdF c bs h r sh xs s6 rs (.sh false (aF i)) (.sh false (eZ ws)) t10 t11 t12 t13|>.set 7 (.own false (bD rs++[eZ ws])))=_
   unfold hdF bD
   rw[Ay]
   rfl
  refine⟨hdF c bs h r sh xs s6 rs (.sh false (aF i)) s9 s10 s11 s12 s13,_,?_,cs q1 (cs q2 (cL q3)),rs++[ws],_,_,_,_,_,_,by rw[lA,g1];rfl,jQ g2 ⟨by omega,by omega,w2⟩,rfl⟩
  rw[A5,B0,eY];rfl
 have gl:rs.length=r:=by rw[g1];simp
 exact⟨rs,gl,⟨by omega,by rw[gl];exact g2⟩,aG (F:=f47) rfl rfl (v:=⟨.lst (bD rs),true,false,[]⟩) (cs k1 (cs k2 (cs k3 (cs ef (rC rfl)))))⟩
variable {bs:List (Str×Int)}
abbrev aW(hs:List (List (List Way))):List D:=hs.map λh=>.lst (bD h)
abbrev kR(hs:List (List (List Way))):List D:=hs.map λ_=>Cn.yes.d
abbrev mP(h:List (List Way)):List D:=(List.replicate (h.length+1) Cn.yes).map Cn.d
abbrev cY(hs:List (List (List Way))):List D:=hs.map λh=>.lst (mP h)
def aQ(bs:List (Str×Int))(g:Cn)(hs:List (List (List Way))):D:=.tup [.lst (aB bs),g.d,.lst (aW hs),.lst (kR hs),.lst (cY hs)]
structure fE (m:Nat) (hs:List (List (List Way))):Prop where
 ok:∀h∈hs,vK m h
 two:(hs.length=2/\∀h∈hs,h.length<=3)\/(hs.length=3/\∀h∈hs,h.length<=2)
theorem yK(n:Nat){pl:Bool}{q:Cn}(w:q.wf bs.length pl)(z:q.sz<=31):call pg (n+36) 29 [.lst (aB bs),q.d,.bl pl]=.ok (q.d,false,false):=by
 have c1:=jP (P:=pg) (wh:=14) (wi:=15) (ch:=20) (fo:=19) (lo:=18) rfl rfl rfl rfl rfl rfl rfl (bs:=aB bs) (lM _) q (n+31-q.sz) 0 w (by omega)
 rw[show n+31-q.sz+3+q.sz=n+34 by omega] at c1
 have c2:call pg (n+35) 17 [.lst (aB bs),q.d,.bl pl]=.ok (q.d,false,false):=aG (F:=f17) rfl rfl (v:=.cl q.d) (cs (yD (pB (aM 0 rfl) (aC _) (aP 1 rfl q.noL) (aP 2 (d:=.bl pl) rfl rfl) (aC _) c1)) (vL rfl q.noL))
 refine aG (F:=f29) rfl rfl (v:=.cl q.d) (rC ?_)
 show exs pg (call pg (n+35)) [.sh true (.lst (aB bs)),.sh true q.d,.sh true (.bl pl)] (.k (.ret (.call 17 (.k (.v 0) (.k (.v 1) (.k (.v 2) .z))))) .z)=_
 exact aS (bW (aM 0 rfl) (aP 1 rfl q.noL) (aP 2 (d:=.bl pl) rfl rfl) c2)
theorem tN(n:Nat){pl:Bool}{qs:List Cn}(o:∀q∈qs,q.wf bs.length pl/\q.sz<=31)(hl:qs.length<=100):call pg (n+37) 30 [.lst (aB bs),.lst (qs.map Cn.d),.int qs.length,.bl pl]=.ok (.lst (qs.map Cn.d),true,false):=by
 have v1:=aM (P:=pg) (cl:=call pg (n+36)) (σ:=[.sh true (.lst (aB bs)),.sh true (.lst (qs.map Cn.d)),.sh true (.int qs.length),.sh true (.bl pl)]) 1 rfl
 have hlen:=eH v1 rfl
 rw[lM] at hlen
 have k1:=bV (a:=.k (.rse 5 false (.k (.c (.str "there is a promise for each hand, and a note for each of its places")) .z)) .z) (eA (dF (fJ (cs:=[.tList]) (k:=true) v1 rfl)) (cA (o:=.NotEq) (k:=false) hlen (aP 2 (d:=.int qs.length) rfl rfl) (by
  show(some ((qs.length:Int)==(qs.length:Int))).map (!·)=_
  rw[Bm];rfl)))
 refine aG (F:=f30) rfl rfl (v:=⟨.lst (qs.map Cn.d),true,false,[]⟩) (cs k1 (aS (gF (ts:=qs) (al:=[]) (λq=>Vl.cl q.d) Cn.d Cn.noL ?_ (by unfold lim;omega) λq hq=>⟨[.sh false q.d,.sh true (.lst (aB bs)),.sh true (.bl pl)],rfl,bW (aM 1 rfl) (aJ 0 rfl) (aP 2 (d:=.bl pl) rfl rfl) (yK n (o q hq).1 (o q hq).2)⟩)))
 rw[cE,v1,aA]
 show R.ok (items _ (qs.map Cn.d),[])=_
 rw[cN Cn.noL]
theorem lK{m:Nat}{hs:List (List (List Way))}(o:fE m hs):2<=hs.length/\hs.length<=3:=by
 rcases o.two with z|z <;> omega
theorem aCB(n:Nat){hs:List (List (List Way))}(o:fE bs.length hs):call pg (n+40) 31 [.lst (aB bs),.lst (aW hs)]=.ok (.lst (aW hs),true,false):=by
 obtain⟨l2,l3⟩:=lK o
 have v1:=aM (P:=pg) (cl:=call pg (n+39)) (σ:=[.sh true (.lst (aB bs)),.sh true (.lst (aW hs))]) 1 rfl
 have hlen:=eH v1 rfl
 rw[lM] at hlen
 have k1:=bV (a:=.k (.rse 5 false (.k (.c (.str "a house has a list of one to three hands")) .z)) .z) (eA (dF (fJ (cs:=[.tList]) (k:=true) v1 rfl)) (dF (aBs (aC (.int 1)) hlen (aC (.int 3)) (by omega) (by omega))))
 have hc:ev pg (call pg (n+39)) [.sh true (.lst (aB bs)),.sh true (.lst (aW hs))] (.comp 1 [0] (.n 0) (.seq (.v 1)) .z (.call 21 (.k (.v 1) (.k (.v 0) .z))))=.ok ⟨.lst (aW hs),true,false,[]⟩:=by
  rw[mE (xs:=hs.map λh=>⟨.lst (bD h),false,true,[]⟩) (al:=[]) (λx=>⟨x.d,true,false,[]⟩) ?_ (by rw[lM];unfold lim;omega) λx hx=>?_]
  . rw[A3]
    exact congrArg R.ok (pC 1 [0] (λh=>D.lst (bD h)) hs)
  . rw[cE,v1,aA]
    show R.ok (items _ (aW hs),[])=_
    unfold items
    rw[A3]
    rfl
  . obtain⟨h,hh,rfl⟩:=A6.mp hx
    exact⟨[.sh true (.lst (bD h)),.sh true (.lst (aB bs))],rfl,dW (aM 1 rfl) (aM 0 rfl) (yF n (o.ok h hh))⟩
 refine aG (F:=f31) rfl rfl (v:=⟨.lst (aW hs),true,false,[]⟩) (cs k1 (rC ?_))
 show exs pg (call pg (n+39)) [.sh true (.lst (aB bs)),.sh true (.lst (aW hs))] (.k (.ret (.comp 1 [0] (.n 0) (.seq (.v 1)) .z (.call 21 (.k (.v 1) (.k (.v 0) .z))))) .z)=_
 exact aS hc
theorem rE(n:Nat)(ds:List D):call pg (n+1) 33 [.lst ds]=.ok (.int (ds.length+1),false,false):=
 aG (F:=f33) rfl rfl (v:=.cl (.int (ds.length+1))) (aS (cQ (eH (aM 0 rfl) rfl) (aC _)))
theorem aEV(m:Nat)(pl:Bool)(k:Nat):∀q∈List.replicate k Cn.yes,q.wf m pl/\q.sz<=31:=λq hq=>by
 rw[List.eq_of_mem_replicate hq]
 exact⟨trivial,by decide⟩
theorem aBv{α:Type}(f g:α->D):∀xs:List α,fC (xs.map f) (xs.map g)=xs.map λx=>.tup [f x,g x]
 | []=>rfl
 | x::xs=>by
  show .tup [f x,g x]::fC (xs.map f) (xs.map g)=_
  rw[aBv f g xs];rfl
theorem aCC(n:Nat){hs:List (List (List Way))}(o:fE bs.length hs):call pg (n+38) 32 [.lst (aB bs),.lst (cY hs),.lst (aW hs)]=.ok (.lst (cY hs),true,false):=by
 obtain⟨l2,l3⟩:=lK o
 have v1:=aM (P:=pg) (cl:=call pg (n+37)) (σ:=[.sh true (.lst (aB bs)),.sh true (.lst (cY hs)),.sh true (.lst (aW hs))]) 1 rfl
 have v2:=aM (P:=pg) (cl:=call pg (n+37)) (σ:=[.sh true (.lst (aB bs)),.sh true (.lst (cY hs)),.sh true (.lst (aW hs))]) 2 rfl
 have h1:=eH v1 rfl
 have h2:=eH v2 rfl
 rw[lM] at h1 h2
 have k1:=bV (a:=.k (.rse 5 false (.k (.c (.str "there is a list of notes for each hand")) .z)) .z) (eA (dF (fJ (cs:=[.tList]) (k:=true) v1 rfl)) (cA (o:=.NotEq) (k:=false) h1 h2 (by
  show(some ((hs.length:Int)==(hs.length:Int))).map (!·)=_
  rw[Bm];rfl)))
 have hc:ev pg (call pg (n+37)) [.sh true (.lst (aB bs)),.sh true (.lst (cY hs)),.sh true (.lst (aW hs))] (.comp 2 [0] (.t [0,1]) (.zip (.v 1) (.v 2)) .z (.call 30 (.k (.v 2) (.k (.v 0) (.k (.call 33 (.k (.v 1) .z)) (.k (.c (.bl true)) .z))))))=.ok ⟨.lst (cY hs),true,false,[]⟩:=by
  rw[mE (xs:=hs.map λh=>⟨.tup [.lst (mP h),.lst (bD h)],false,true,[]⟩) (al:=[]) (λx=>⟨match x.d with|.tup (d::_)=>d|d=>d,true,false,[]⟩) ?_ (by rw[lM];unfold lim;omega) λx hx=>?_]
  . rw[A3]
    exact congrArg R.ok (pC 2 [0] (λh=>D.lst (mP h)) hs)
  . rw[jJ,v1,aA,v2,aA]
    show R.ok (items _ (fC (cY hs) (aW hs)),[])=_
    rw[aBv]
    unfold items
    rw[A3]
    rfl
  . obtain⟨h,hh,rfl⟩:=A6.mp hx
    have pr:=rE (n+36) (bD h)
    rw[lM] at pr
    have c30:=tN n (pl:=true) (aEV bs.length true (h.length+1)) (by rw[A0];have:=(o.ok h hh).few;omega)
    rw[A0] at c30
    exact⟨[.sh true (.lst (mP h)),.sh true (.lst (bD h)),.sh true (.lst (aB bs))],rfl,kH (aM 2 rfl) (aM 0 rfl) (cU (aM 1 rfl) pr) (aC _) c30⟩
 exact aG (F:=f32) rfl rfl (v:=⟨.lst (cY hs),true,false,[]⟩) (cs k1 (aS hc))
theorem aCD(n:Nat)(hb:bs∈boxSet):call pg (n+1) 6 [.lst (aB bs)]=.ok (.int (iR bs),false,false):=by
 rcases box_six hb with rfl|rfl|rfl|rfl|rfl|rfl <;> rfl
theorem aAv(n:Nat)(hb:bs∈boxSet){hs:List (List (List Way))}(o:fE bs.length hs):∃x:Int,x<=1000/\call pg (n+2) 34 [.lst (aB bs),.lst (aW hs)]=.ok (.int x,false,false):=by
 obtain⟨p24,p1⟩:=yI hb
 obtain⟨m,hm,hmx⟩:∃m:Nat,(∀h∈hs,h.length<=m)/\((hs.length=2/\m=3)\/(hs.length=3/\m=2)):=by
  rcases o.two with⟨a,b⟩|⟨a,b⟩
  . exact⟨3,b,.inl ⟨a,rfl⟩⟩
  . exact⟨2,b,.inr ⟨a,rfl⟩⟩
 let τ:Sl->Sl->Sg:=λs2 s3=>[.sh true (.lst (aB bs)),.sh true (.lst (aW hs)),s2,s3]
 have k1:ex pg (call pg (n+1)) (τ .x .x) (.set (.n 2) (.call 6 (.k (.v 0) .z)))=.next (τ (.sh false (.int (iR bs))) .x):=aV (cU (aM 0 rfl) (aCD n hb))
 have hw:walk pg (call pg (n+1)) (τ (.sh false (.int (iR bs))) .x) (.seq (.v 1))=.ok (hs.map (λh=>Vl.mk (.lst (bD h)) false true []),[]):=by
  rw[cE,aM 1 (ds:=aW hs) rfl,aA]
  show R.ok (items _ (aW hs),[])=_
  unfold items
  rw[A3]
  rfl
 obtain⟨σ',ef,x,s3,h0,h1,h2,rfl⟩:=dJ (P:=pg) (cl:=call pg (n+1)) (t:=.n 3) (b:=match hdS (drp 1 f34.body) with|.for _ _ b=>b|_=>.z) (λi σ=>∃(x:Int) (s3:Sl),1<=x/\x<=24*((m:Int)+1) ^ i/\i<=3/\σ=τ (.sh false (.int x)) s3) hw ⟨iR bs,_,p1,by simpa using p24,by decide,rfl⟩ λi hi σ ⟨x,s3,h0,h1,h2,hσ⟩=>by
  have hi':i<hs.length:=by simpa using hi
  subst hσ
  have hl:=hm hs[i] (Ba hi')
  have m4:m<=3:=by omega
  have hp:((m:Int)+1) ^ i<=64:=by
   have:i=0\/i=1\/i=2:=by omega
   have m2:m=3\/m=2:=by omega
   rcases this with rfl|rfl|rfl <;> rcases m2 with rfl|rfl <;> decide
  have pr:=rE n (bD hs[i])
  rw[lM] at pr
  have mo:gY x ((hs[i].length:Int)+1)=true:=by
   unfold gY
   rw[Am (by omega),Am (by omega)]
   rfl
  refine⟨τ (.sh false (.int x)) (.sh true (.lst (bD hs[i]))),τ (.sh false (.int (x*((hs[i].length:Int)+1)))) (.sh true (.lst (bD hs[i]))),?_,cL (aV (fA (aJ 2 (d:=.int x) rfl) (cU (aM 3 (ds:=bD hs[i]) rfl) pr) (mul_int mo))),_,_,?_,?_,by omega,rfl⟩
  . rw[A5];rfl
  . have:=Int.mul_le_mul h0 (show(1:Int)<=(hs[i].length:Int)+1 by omega) (by decide) (by omega)
    omega
  . rw[Int.pow_succ,<-Int.mul_assoc]
    exact Int.mul_le_mul h1 (by omega) (by omega) (Int.le_trans (by omega) h1)
 refine⟨x,?_,aG (F:=f34) rfl rfl (v:=.cl (.int x)) (cs k1 (cs ef (rC rfl)))⟩
 rw[lM] at h1
 rcases hmx with⟨a,b⟩|⟨a,b⟩
 . rw[a,b] at h1
   exact Int.le_trans h1 (by decide)
 . rw[a,b] at h1
   exact Int.le_trans h1 (by decide)
theorem vP(n:Nat)(hb:bs∈boxSet){g:Cn}(gw:g.wf bs.length true)(gs:g.sz<=31){hs:List (List (List Way))}(o:fE bs.length hs):call pg (n+41) 27 [.lst (aB bs),g.d,.lst (aW hs),.lst (kR hs),.lst (cY hs)]=.ok (aQ bs g hs,false,false):=by
 obtain⟨l2,l3⟩:=lK o
 let τ:Sl->Sl->Sl->Sl->Sl->Sg:=λs5 s6 s7 s8 s9=>[.sh true (.lst (aB bs)),.sh true g.d,.sh true (.lst (aW hs)),.sh true (.lst (kR hs)),.sh true (.lst (cY hs)),s5,s6,s7,s8,s9]
 have v5:∀s6 s7 s8 s9,ev pg (call pg (n+40)) (τ (.own false (aB bs)) s6 s7 s8 s9) (.v 5)=.ok ⟨.lst (aB bs),false,false,[5]⟩:=λ_ _ _ _=>bH 5 rfl
 have v7:∀s6 s8 s9,ev pg (call pg (n+40)) (τ (.own false (aB bs)) s6 (.own false (aW hs)) s8 s9) (.v 7)=.ok ⟨.lst (aW hs),false,false,[7]⟩:=λ_ _ _=>bH 7 rfl
 have k1:ex pg (call pg (n+40)) (τ .x .x .x .x .x) (.set (.n 5) (.call 3 (.k (.v 0) .z)))=.next (τ (.own false (aB bs)) .x .x .x .x):=bL (cU (aM 0 rfl) (vO (n+36) hb))
 have k2:ex pg (call pg (n+40)) (τ (.own false (aB bs)) .x .x .x .x) (hdS (drp 1 f27.body))=.next (τ (.own false (aB bs)) (.sh false g.d) .x .x .x):=aV (bW (v5 _ _ _ _) (aP 1 rfl g.noL) (aC _) (yK (n+4) gw gs))
 have k3:ex pg (call pg (n+40)) (τ (.own false (aB bs)) (.sh false g.d) .x .x .x) (hdS (drp 2 f27.body))=.next (τ (.own false (aB bs)) (.sh false g.d) (.own false (aW hs)) .x .x):=bL (dW (v5 _ _ _ _) (aM 2 rfl) (aCB n o))
 have hlen:=eH (v7 (.sh false g.d) .x .x) rfl
 rw[lM] at hlen
 have pd:kR hs=(List.replicate hs.length Cn.yes).map Cn.d:=by rw[List.map_replicate];exact List.map_const' ..
 have c30:=tN (bs:=bs) (n+3) (pl:=false) (aEV bs.length false hs.length) (by rw[A0];omega)
 rw[A0,<-pd] at c30
 have k4:ex pg (call pg (n+40)) (τ (.own false (aB bs)) (.sh false g.d) (.own false (aW hs)) .x .x) (hdS (drp 3 f27.body))=.next (τ (.own false (aB bs)) (.sh false g.d) (.own false (aW hs)) (.own false (kR hs)) .x):=bL (kH (v5 _ _ _ _) (aM 3 rfl) hlen (aC _) c30)
 have k5:ex pg (call pg (n+40)) (τ (.own false (aB bs)) (.sh false g.d) (.own false (aW hs)) (.own false (kR hs)) .x) (hdS (drp 4 f27.body))=.next (τ (.own false (aB bs)) (.sh false g.d) (.own false (aW hs)) (.own false (kR hs)) (.own false (cY hs))):=bL (iE (v5 _ _ _ _) (aM 4 rfl) (v7 _ _ _) (aCC (n+2) o))
 obtain⟨x,hx,cx⟩:=aAv (n+38) hb o
 have k6:ex pg (call pg (n+40)) (τ (.own false (aB bs)) (.sh false g.d) (.own false (aW hs)) (.own false (kR hs)) (.own false (cY hs))) (hdS (drp 5 f27.body))=.next (τ (.own false (aB bs)) (.sh false g.d) (.own false (aW hs)) (.own false (kR hs)) (.own false (cY hs))):=bV (cA (eI (v5 _ _ _ _) (v7 _ _ _) cx) (aC _) (congrArg some (As (by omega))))
 exact aG (F:=f27) rfl rfl (v:=⟨aQ bs g hs,false,false,[5,7,8,9]⟩) (cs k1 (cs k2 (cs k3 (cs k4 (cs k5 (cs k6 (aS rfl)))))))
section
variable {P:Pg} {cl:Caller} {σ:Sg}
theorem yL{f:Nat}{a b c e g:E}{x y z w u:Vl}{d:D}{fr:Bool}(h1:ev P cl σ a=.ok x)(h2:ev P cl σ b=.ok y)(h3:ev P cl σ c=.ok z)(h4:ev P cl σ e=.ok w)(h5:ev P cl σ g=.ok u)(hc:cl f [x.d,y.d,z.d,w.d,u.d]=.ok (d,fr,false)):ev P cl σ (.call f (.k a (.k b (.k c (.k e (.k g .z))))))=.ok ⟨d,fr,false,[]⟩:=by
 have e:evs P cl σ (.k a (.k b (.k c (.k e (.k g .z)))))=.ok [x,y,z,w,u]:=by rw[aH,h1,aA,aMj h2 h3 h4 h5];rfl
 rw[dC,e,aA,show [x,y,z,w,u].map (·.d)=[x.d,y.d,z.d,w.d,u.d] from rfl,hc];rfl
theorem mQ{ns ms:List Int}{es:Es}{b:E}{k:Nat}(hl:ns.length<=63)(hm:ms.length<=4)(h0:σ[0]? = some (.sh true (.lst (ns.map D.int))))(he:evs P cl σ es=.ok ((ms.map D.int).map Vl.cl))(hb:ev P cl σ b=.ok (.cl (.int (k:Int))))(hk:k<ns.length+ms.length) :
 ev P cl σ (.idx (.op .Add (.v 0) (.lst es)) b)=.ok (.cl (.int ((ns++ms).getD k 0))):=by
 refine fK (xs:=ns++ms) (fA (aM 0 h0) (dM he) (rZ rfl rfl (eO ns) (eO ms) (by rw[lM,lM];unfold lim;omega))) ?_ hb (by rw[lA];exact hk)
 show D.lst _=D.lst _
 rw[Ay]
end
abbrev cH(p:Bool):Cn:=if p then .yes else .cmp false (.box 0) (.num 1)
abbrev hoF(ns xs:List Int)(s2 s3 s4 s5 s6 s7 s8:Sl):Sg:=[.sh true (.lst (ns.map D.int)),.own false (xs.map D.int),s2,s3,s4,s5,s6,s7,s8]
theorem aAw(n:Nat)(ns:List Int){xs:List Int}(hx:xs.length=9):∃bs∈boxSet,∀ss,exs pg (call pg n) (hoF ns xs .x .x .x .x .x .x .x) (.k (hdS (drp 1 f48.body)) (.k (hdS (drp 2 f48.body)) ss))=exs pg (call pg n) (hoF ns xs (.own false (aB bs)) .x .x .x .x .x .x) ss:=by
 have x:∀(k:Nat) s2,k<9->ev pg (call pg n) (hoF ns xs s2 .x .x .x .x .x .x) (.idx (.v 1) (.c (.int (k:Int))))=.ok (.cl (.int (xs.getD k 0))):=λk s2 hk=>fK (bH 1 rfl) rfl (aC _) (by omega)
 have k1:ex pg (call pg n) (hoF ns xs .x .x .x .x .x .x .x) (hdS (drp 1 f48.body))=.next (hoF ns xs (.own false (aB (b3 (1+xs.getD 0 0 % 2) (1+xs.getD 1 0 % 2)))) .x .x .x .x .x .x):=bL (dM (aD (bM (aD (aC _) (aD (cQ (aC _) (fB (x 0 _ (by decide)) (aC (.int 2)) (by decide))) aY))) (aD (bM (aD (aC _) (aD (cQ (aC _) (fB (x 1 _ (by decide)) (aC (.int 2)) (by decide))) aY))) (aD (bM (aD (aC _) (aD (aC _) aY))) aY))))
 have h0:1+xs.getD 0 0 % 2=1\/1+xs.getD 0 0 % 2=2:=by omega
 have h1:1+xs.getD 1 0 % 2=1\/1+xs.getD 1 0 % 2=2:=by omega
 have tb:∀s t:Int,ev pg (call pg n) (hoF ns xs (.own false (aB (b3 s t))) .x .x .x .x .x .x) (.op .Add (.idx (.idx (.v 2) (.c (.int 0))) (.c (.int 1))) (.idx (.idx (.v 2) (.c (.int 1))) (.c (.int 1))))=.ok (.cl (.int (s+t))):=λs t=>rfl
 have x3:=fB (x 6 (.own false (aB (b3 (1+xs.getD 0 0 % 2) (1+xs.getD 1 0 % 2)))) (by decide)) (aC (.int 3)) (by decide)
 have t1:tst pg (call pg n) (hoF ns xs (.own false (aB (b3 (1+xs.getD 0 0 % 2) (1+xs.getD 1 0 % 2)))) .x .x .x .x .x .x) (match hdS (drp 2 f48.body) with|.iff c _ _=>c|_=>.c .non)=.ok ((1+xs.getD 0 0 % 2+(1+xs.getD 1 0 % 2)==2)&&(xs.getD 6 0 % 3==0)):=aOd (cA (tb _ _) (aC _) rfl) (cA x3 (aC _) rfl)
 cases q:((1+xs.getD 0 0 % 2+(1+xs.getD 1 0 % 2)==2)&&(xs.getD 6 0 % 3==0)) with
 | false=>
  rw[q] at t1
  refine⟨b3 (1+xs.getD 0 0 % 2) (1+xs.getD 1 0 % 2),?_,λss=>cs k1 (cs (bV t1) rfl)⟩
  rcases h0 with h0|h0 <;> rcases h1 with h1|h1 <;> rw[h0,h1] <;> simp[boxSet]
 | true=>
  rw[q] at t1
  have e2:1+xs.getD 0 0 % 2=1/\1+xs.getD 1 0 % 2=1:=by
   rw[bA] at q
   have:=eq_of_beq q.1
   omega
  have h6:1+xs.getD 6 0 / 3 % 2=1\/1+xs.getD 6 0 / 3 % 2=2:=by omega
  have ka:ex pg (call pg n) (hoF ns xs (.own false (aB (b3 (1+xs.getD 0 0 % 2) (1+xs.getD 1 0 % 2)))) .x .x .x .x .x .x) (hdS (drp 2 f48.body))=.next (hoF ns xs (.own false (aB (b3 (1+xs.getD 0 0 % 2) (1+xs.getD 1 0 % 2))++[box ("d",1+xs.getD 6 0 / 3 % 2)])) .x .x .x .x .x .x):=yB t1 (cL (gU (bM (aD (aC _) (aD (cQ (aC _) (fB (fA (x 6 _ (by decide)) (aC (.int 3)) (oZ (by decide))) (aC (.int 2)) (by decide))) aY))) rfl (by unfold lim;simp[aB]) rfl rfl))
  rw[e2.1,e2.2] at ka k1
  refine⟨b4 (1+xs.getD 6 0 / 3 % 2),?_,λss=>cs k1 (cs ka rfl)⟩
  rcases h6 with h6|h6 <;> rw[h6] <;> simp[boxSet]
theorem aGG(a b c:Int)(hb:b=3\/b=2):∃r:Nat,(1+a % b)*(if c>0 then 1 else 0)=(r:Int)/\(r:Int)<=b:=by
 rcases hb with rfl|rfl <;> split
 . exact⟨(1+a % 3).toNat,by omega,by omega⟩
 . exact⟨0,by omega,by omega⟩
 . exact⟨(1+a % 2).toNat,by omega,by omega⟩
 . exact⟨0,by omega,by omega⟩
theorem aAx(n:Nat){ns:List Int}(hn:ns.length<=63):∃bs∈boxSet,∃(p:Bool) (hs:List (List (List Way))),fE bs.length hs/\call pg (n+42) 48 [.lst (ns.map D.int)]=.ok (aQ bs (cH p) hs,false,false):=by
 let xs:=nM ((ns++[0]).getD 0 0) 9
 have xl:xs.length=9:=iA _ _
 have k0:ex pg (call pg (n+41)) [.sh true (.lst (ns.map D.int)),.x,.x,.x,.x,.x,.x,.x,.x] (hdS f48.body)=.next (hoF ns xs .x .x .x .x .x .x .x):=bL (dW (mQ (ms:=[0]) (k:=0) hn (by decide) rfl (aD (aC _) aY) (aC _) (by simp)) (aC (.int 9)) (fX (P:=pg) (f:=43) rfl (n+40) _ (m:=9) (by decide)))
 obtain⟨bs,hb,kb⟩:=aAw (n+41) ns xl
 obtain⟨l3,l4⟩:=fH hb
 let τ:List (List (List Way))->Sl->Sl->Sl->Sl->Sl->Sg:=λhs s4 s5 s6 s7 s8=>hoF ns xs (.own false (aB bs)) (.own false (aW hs)) s4 s5 s6 s7 s8
 have x:∀(k:Nat) hs s4 s5 s6 s7 s8,k<9->ev pg (call pg (n+41)) (τ hs s4 s5 s6 s7 s8) (.idx (.v 1) (.c (.int (k:Int))))=.ok (.cl (.int (xs.getD k 0))):=λk _ _ _ _ _ _ hk=>fK (bH 1 rfl) rfl (aC _) (by omega)
 have k3:ex pg (call pg (n+41)) (hoF ns xs (.own false (aB bs)) .x .x .x .x .x .x) (.set (.n 3) (.lst .z))=.next (τ [] .x .x .x .x .x):=rfl
 have q2:∀hs s4 s5 s6 s7 s8,ev pg (call pg (n+41)) (τ hs s4 s5 s6 s7 s8) (.op .Mod (.idx (.v 1) (.c (.int 2))) (.c (.int 2)))=.ok (.cl (.int (xs.getD 2 0 % 2))):=λhs s4 s5 s6 s7 s8=>fB (x 2 _ _ _ _ _ _ (by decide)) (aC (.int 2)) (by decide)
 obtain⟨M,eM,hM⟩:=aCw (xs.getD 2 0) (n:=2) (by decide)
 rw[show((2:Nat):Int)=2 from rfl] at eM
 let B:Int:=if M=0 then 3 else 2
 have hB:B=3\/B=2:=by
  show(if M=0 then (3:Int) else 2)=3\/(if M=0 then (3:Int) else 2)=2
  split
  . exact .inl rfl
  . exact .inr rfl
 have hBv:∀hs s4 s5 s6 s7 s8,ev pg (call pg (n+41)) (τ hs s4 s5 s6 s7 s8) (.idx (.lst (.k (.c (.int 3)) (.k (.c (.int 2)) .z))) (.op .Mod (.idx (.v 1) (.c (.int 2))) (.c (.int 2))))=.ok (.cl (.int B)):=λhs s4 s5 s6 s7 s8=>by
  have:=q2 hs s4 s5 s6 s7 s8
  rw[eM] at this
  have h2:=fK (xs:=[3,2]) (dM (aD (aC (.int 3)) (aD (aC (.int 2)) aY))) rfl this hM
  have:([3,2]:List Int).getD M 0=B:=by
   have:M=0\/M=1:=by omega
   rcases this with rfl|rfl <;> rfl
  rw[this] at h2
  exact h2
 have hr:=cQ (aC (.int 2)) (q2 [] .x .x .x .x .x)
 rw[eM,show(2:Int)+(M:Int)=((2+M:Nat):Int) by omega] at hr
 obtain⟨σ',ef,hs,s4,s5,s6,g1,g2,rfl⟩:=dJ (P:=pg) (cl:=call pg (n+41)) (σ:=τ [] .x .x .x .x .x) (t:=.n 4) (b:=match hdS (drp 4 f48.body) with|.for _ _ b=>b|_=>.z) (λi σ=>∃(hs:List (List (List Way))) (s4 s5 s6:Sl),hs.length=i/\(∀h∈hs,vK bs.length h/\(h.length:Int)<=B)/\σ=τ hs s4 s5 s6 .x .x) (cR hr rfl (by omega)) ⟨[],_,_,_,rfl,λ_ z=>absurd z Be,rfl⟩ λi hi σ ⟨hs,s4,s5,s6,g1,g2,hσ⟩=>by
  have hi':i<2+M:=by simpa using hi
  subst hσ
  have x3:∀s5 s6,ev pg (call pg (n+41)) (τ hs (.sh false (aF i)) s5 s6 .x .x) (.idx (.v 1) (.op .Add (.c (.int 3)) (.v 4)))=.ok (.cl (.int (xs.getD (3+i) 0))):=λs5 s6=>fK (bH 1 rfl) rfl (by
   have:=cQ (P:=pg) (cl:=call pg (n+41)) (σ:=τ hs (.sh false (aF i)) s5 s6 .x .x) (aC (.int 3)) (aJ 4 (d:=aF i) rfl)
   rw[show(3:Int)+(i:Int)=((3+i:Nat):Int) by omega] at this
   exact this) (by omega)
  have m1:ex pg (call pg (n+41)) (τ hs (.sh false (aF i)) s5 s6 .x .x) (.set (.n 5) (.op .Add (.c (.int 1)) (.op .Mod (.idx (.v 1) (.op .Add (.c (.int 3)) (.v 4))) (.idx (.lst (.k (.c (.int 3)) (.k (.c (.int 2)) .z))) (.op .Mod (.idx (.v 1) (.c (.int 2))) (.c (.int 2)))))))=.next (τ hs (.sh false (aF i)) (.sh false (.int (1+xs.getD (3+i) 0 % B))) s6 .x .x):=aV (cQ (aC _) (fB (x3 _ _) (hBv _ _ _ _ _ _) (by omega)))
  have c6:=kO (o:=.Gt) (k:=decide (xs.getD (3+i) 0 / 6 % 9>0)) (fB (fA (x3 (.sh false (.int (1+xs.getD (3+i) 0 % B))) s6) (aC (.int 6)) (oZ (by decide))) (aC (.int 9)) (by decide)) (aC (.int 0)) rfl
  obtain⟨r,er,hrB⟩:=aGG (xs.getD (3+i) 0) B (xs.getD (3+i) 0 / 6 % 9) hB
  have b6:ev pg (call pg (n+41)) (τ hs (.sh false (aF i)) (.sh false (.int (1+xs.getD (3+i) 0 % B))) s6 .x .x) (.bi .int (.k (.cmp .Gt (.op .Mod (.op .FloorDiv (.idx (.v 1) (.op .Add (.c (.int 3)) (.v 4))) (.c (.int 6))) (.c (.int 9))) (.c (.int 0))) .z))=.ok (.cl (.int (if xs.getD (3+i) 0 / 6 % 9>0 then 1 else 0))):=by
   refine eW c6 ?_
   by_cases hq:xs.getD (3+i) 0 / 6 % 9>0
   . rw[if_pos hq,Am hq];rfl
   . rw[if_neg hq,As hq];rfl
  have m2:ex pg (call pg (n+41)) (τ hs (.sh false (aF i)) (.sh false (.int (1+xs.getD (3+i) 0 % B))) s6 .x .x) (.set (.n 5) (.op .Mult (.v 5) (.bi .int (.k (.cmp .Gt (.op .Mod (.op .FloorDiv (.idx (.v 1) (.op .Add (.c (.int 3)) (.v 4))) (.c (.int 6))) (.c (.int 9))) (.c (.int 0))) .z))))=.next (τ hs (.sh false (aF i)) (.sh false (.int r)) s6 .x .x):=by
   rw[<-er]
   refine aV (fA (aJ 5 (d:=.int (1+xs.getD (3+i) 0 % B)) rfl) b6 (mul_int ?_))
   have h1:0<=xs.getD (3+i) 0 % B/\xs.getD (3+i) 0 % B<3:=by
    rcases hB with h|h <;> rw[h] <;> omega
   unfold gY
   rw[Am (by omega),Am (by omega)]
   rfl
  have hms:=mQ (P:=pg) (cl:=call pg (n+41)) (σ:=τ hs (.sh false (aF i)) (.sh false (.int r)) s6 .x .x) (ms:=[0,0,0,0]) (k:=1+i) hn (by decide) rfl (aD (aC (.int 0)) (aD (aC (.int 0)) (aD (aC (.int 0)) (aD (aC (.int 0)) aY)))) (b:=.op .Add (.c (.int 1)) (.v 4)) (by
   have:=cQ (P:=pg) (cl:=call pg (n+41)) (σ:=τ hs (.sh false (aF i)) (.sh false (.int r)) s6 .x .x) (aC (.int 1)) (aJ 4 (d:=aF i) rfl)
   rw[show(1:Int)+(i:Int)=((1+i:Nat):Int) by omega] at this
   exact this) (by simp;omega)
  have c7:opD .Mult (.cl (.int 7)) (.cl (.int (i:Int)))=.ok (.cl (.int (7*i))):=mul_int (by
   unfold gY
   rw[Am (by omega),Am (by omega)]
   rfl)
  have m3:ex pg (call pg (n+41)) (τ hs (.sh false (aF i)) (.sh false (.int r)) s6 .x .x) (.set (.n 6) (.op .Add (.idx (.op .Add (.v 0) (.lst (.k (.c (.int 0)) (.k (.c (.int 0)) (.k (.c (.int 0)) (.k (.c (.int 0)) .z)))))) (.op .Add (.c (.int 1)) (.v 4))) (.op .Mult (.c (.int 7)) (.v 4))))=.next (τ hs (.sh false (aF i)) (.sh false (.int r)) (.sh false (.int ((ns++[0,0,0,0]).getD (1+i) 0+7*i))) .x .x):=aV (cQ hms (fA (aC (.int 7)) (aJ 4 (d:=aF i) rfl) c7))
  obtain⟨h,hl,ho,hc⟩:=aCA (n+39) hb ((ns++[0,0,0,0]).getD (1+i) 0+7*i) (xs.getD 8 0 % 3) (h:=i) (r:=r) (by omega) (by omega)
  have e47:ev pg (call pg (n+41)) (τ hs (.sh false (aF i)) (.sh false (.int r)) (.sh false (.int ((ns++[0,0,0,0]).getD (1+i) 0+7*i))) .x .x) (.call 47 (.k (.v 6) (.k (.v 2) (.k (.v 4) (.k (.v 5) (.k (.op .Mod (.idx (.v 1) (.c (.int 8))) (.c (.int 3))) .z))))))=.ok ⟨.lst (bD h),true,false,[]⟩:=by
   exact yL (aJ 6 rfl) (bH 2 rfl) (aJ 4 rfl) (aJ 5 rfl) (fB (x 8 _ _ _ _ _ _ (by decide)) (aC (.int 3)) (by decide)) hc
  have m4:ex pg (call pg (n+41)) (τ hs (.sh false (aF i)) (.sh false (.int r)) (.sh false (.int ((ns++[0,0,0,0]).getD (1+i) 0+7*i))) .x .x) (.app 3 (.call 47 (.k (.v 6) (.k (.v 2) (.k (.v 4) (.k (.v 5) (.k (.op .Mod (.idx (.v 1) (.c (.int 8))) (.c (.int 3))) .z)))))))=.next (τ (hs++[h]) (.sh false (aF i)) (.sh false (.int r)) (.sh false (.int ((ns++[0,0,0,0]).getD (1+i) 0+7*i))) .x .x):=gU e47 rfl (by rw[lM];unfold lim;omega) rfl (by rw[aW,Ay];rfl)
  refine⟨τ hs (.sh false (aF i)) s5 s6 .x .x,_,?_,cs m1 (cs m2 (cs m3 (cL m4))),hs++[h],_,_,_,by rw[lA,g1];rfl,jQ g2 ⟨ho,by omega⟩,rfl⟩
  rw[A5,B0,eY];rfl
 have gl:hs.length=2+M:=by rw[g1];simp
 have ho:fE bs.length hs:=⟨λh hh=>(g2 h hh).1,by
  have:M=0\/M=1:=by omega
  rcases this with rfl|rfl
  . exact .inl ⟨gl,λh hh=>by have:=(g2 h hh).2;have:(h.length:Int)<=3:=this;omega⟩
  . exact .inr ⟨gl,λh hh=>by have:=(g2 h hh).2;have:(h.length:Int)<=2:=this;omega⟩⟩
 obtain⟨p,_,e7⟩:=pD (P:=pg) (cl:=call pg (n+41)) (σ:=τ hs s4 s5 s6 .x .x) (n:=2) (zs:=[true,false]) (f:=λp=>(cH p).d) (zE:=.lst (.k (.tup (.k (.c (.str "yes")) .z)) (.k (.tup (.k (.c (.str "less")) (.k (.tup (.k (.c (.str "box")) (.k (.c (.int 0)) .z))) (.k (.tup (.k (.c (.str "number")) (.k (.c (.int 1)) .z))) .z)))) .z))) (dM (aD (bM (aD (aC _) aY)) (aD (bM (aD (aC _) (aD (bM (aD (aC _) (aD (aC _) aY))) (aD (bM (aD (aC _) (aD (aC _) aY))) aY)))) aY))) rfl (x 7 _ _ _ _ _ _ (by decide)) rfl (by decide) (λt _=>Cn.noL _)
 have k7:ex pg (call pg (n+41)) (τ hs s4 s5 s6 .x .x) (hdS (drp 5 f48.body))=.next (τ hs s4 s5 s6 (.sh false (cH p).d) .x):=aV e7
 have hwk:∀(s3:Sl) (al:List Nat) (s8:Sl),ev pg (call pg (n+41)) (hoF ns xs (.own false (aB bs)) s3 s4 s5 s6 (.sh false (cH p).d) s8) (.v 3)=.ok ⟨.lst (aW hs),false,false,al⟩->walk pg (call pg (n+41)) (hoF ns xs (.own false (aB bs)) s3 s4 s5 s6 (.sh false (cH p).d) s8) (.seq (.v 3))=.ok (hs.map (λh=>Vl.mk (.lst (bD h)) false false al),al):=λs3 al s8 h=>by
  rw[cE,h,aA]
  show R.ok (items _ (aW hs),al)=_
  unfold items
  rw[A3]
  rfl
 have e8:ev pg (call pg (n+41)) (τ hs s4 s5 s6 (.sh false (cH p).d) .x) (.comp 1 [] (.n 0) (.seq (.v 3)) .z (.op .Mult (.lst (.k (.tup (.k (.c (.str "yes")) .z)) .z)) (.op .Add (.bi .len (.k (.v 0) .z)) (.c (.int 1)))))=.ok (fQ 1 [] [3] (hs.map λh=>Vl.mk (.lst (mP h)) true false [])):=by
  rw[mE (xs:=hs.map λh=>⟨.lst (bD h),false,false,[3]⟩) (al:=[3]) (λx=>⟨match x.d with|.lst ds=>.lst ((List.replicate (ds.length+1) Cn.yes).map Cn.d)|d=>d,true,false,[]⟩) (hwk _ _ _ (bH 3 rfl)) (by rw[lM];unfold lim;omega) λy hy=>?_]
  . rw[A3]
    refine congrArg (λz=>R.ok (fQ 1 [] [3] z)) (Cq λh _=>?_)
    show Vl.mk (.lst ((List.replicate ((bD h).length+1) Cn.yes).map Cn.d)) true false []=_
    rw[show(bD h).length=h.length from lM _]
  . obtain⟨h,hh,rfl⟩:=A6.mp hy
    have hfew:=(g2 h hh).1.few
    refine⟨[.sh false (.lst (bD h))],rfl,?_⟩
    have hl1:=cQ (eH (aJ (P:=pg) (cl:=call pg (n+41)) (σ:=[.sh false (.lst (bD h))]) 0 (d:=.lst (bD h)) rfl) rfl) (aC (.int 1))
    refine fA (dM (aD (bM (aD (aC _) aY)) aY)) hl1 ?_
    rw[show(bD h).length=h.length from lM _]
    show R.iff (true&&aN ((h.length:Int)+1)&&decide (1*((h.length:Int)+1).toNat<=lim)&&noLs [Cn.yes.d]) (.ok (Vl.mk (.lst (List.replicate ((h.length:Int)+1).toNat [Cn.yes.d]).flatten) true false []))=R.ok (Vl.mk (.lst ((List.replicate ((bD h).length+1) Cn.yes).map Cn.d)) true false [])
    have sk:aN ((h.length:Int)+1)=true:=fG (n:=h.length+1) (by omega)
    have tn:((h.length:Int)+1).toNat=h.length+1:=by omega
    have fl:∀k:Nat,(List.replicate k [Cn.yes.d]).flatten=(List.replicate k Cn.yes).map Cn.d:=λk=>by
     induction k with
     | zero=>rfl
     | succ k ih=>rw[Bq,Cc,ih,Bq,mC];rfl
    rw[sk,tn,fl,show(bD h).length=h.length from lM _,Am (by unfold lim;omega)]
    rfl
 have cv:fQ 1 [] [3] (hs.map λh=>Vl.mk (.lst (mP h)) true false [])=⟨.lst (cY hs),true,false,[3]⟩:=by
  have e0:=pC 1 [] (λh=>D.lst (mP h)) hs
  have hne:noLs (cY hs)=false:=by
   cases hs with
   | nil=>simp at gl;omega
   | cons h _=>rfl
  have e1:(hs.map λh=>Vl.mk (.lst (mP h)) true false []).map (·.d)=cY hs:=by rw[A3];rfl
  unfold fQ at e0 ⊢
  rw[e1,hne,if_neg bN] at e0 ⊢
  injection e0 with _ _ e2 e3
  rw[e2]
  have e3:(bT (hs.map λh=>Vl.mk (.lst (mP h)) true false [])).filterMap (λj=>([]:List Nat)[j-1]?)=[]:=e3
  rw[e3]
  rfl
 rw[cv] at e8
 have k8:ex pg (call pg (n+41)) (τ hs s4 s5 s6 (.sh false (cH p).d) .x) (hdS (drp 6 f48.body))=.next (hoF ns xs (.own false (aB bs)) (.sh false (.lst (aW hs))) s4 s5 s6 (.sh false (cH p).d) (.own false (cY hs))):=by
  show ex pg (call pg (n+41)) _ (.set (.n 8) _)=_
  rw[fO,e8]
  rfl
 have w3:ev pg (call pg (n+41)) (hoF ns xs (.own false (aB bs)) (.sh false (.lst (aW hs))) s4 s5 s6 (.sh false (cH p).d) (.own false (cY hs))) (.v 3)=.ok ⟨.lst (aW hs),false,false,[]⟩:=aJ 3 rfl
 have cp:ev pg (call pg (n+41)) (hoF ns xs (.own false (aB bs)) (.sh false (.lst (aW hs))) s4 s5 s6 (.sh false (cH p).d) (.own false (cY hs))) (.comp 1 [] (.n 0) (.seq (.v 3)) .z (.tup (.k (.c (.str "yes")) .z)))=.ok ⟨.lst (kR hs),true,false,[]⟩:=gF (ts:=hs) (al:=[]) (λh=>Vl.mk (.lst (bD h)) false false []) (λ_=>Cn.yes.d) (λ_=>rfl) (hwk _ _ _ w3) (by unfold lim;omega) λh _=>⟨[.sh false (.lst (bD h))],rfl,bM (aD (aC _) aY)⟩
 have bw:(cH p).wf bs.length true/\(cH p).sz<=31:=by
  cases p with
  | true=>exact⟨trivial,by decide⟩
  | false=>exact⟨⟨by show 0<bs.length;omega,by decide,by decide⟩,by decide⟩
 exact⟨bs,hb,p,hs,ho,aG (F:=f48) rfl rfl (v:=.cl (aQ bs (cH p) hs)) (cs k0 ((kb _).trans (cs k3 (cs ef (cs k7 (cs k8 (aS (pB (bH 2 rfl) (aJ 7 rfl) w3 cp (bH 8 rfl) (vP n hb bw.1 bw.2 ho)))))))))⟩
theorem aBw(n d k:Nat):sIx n d (some (k:Int))=min k n:=by
 show(if (k:Int)<0 then ((k:Int)+(n:Int)).toNat else min (k:Int).toNat n)=_
 rw[if_neg (by omega)]
 rfl
theorem aEW{α:Type}(xs:List α)(k:Nat):cut xs none (some (k:Int))=xs.take k:=by
 unfold cut
 rw[aBw]
 show(xs.drop 0).take (min k xs.length-0)=_
 rw[List.drop_zero,Nat.sub_zero]
 by_cases h:k<=xs.length
 . rw[Nat.min_eq_left h]
 . rw[Nat.min_eq_right (by omega),Bv (Aj _),Bv (by omega)]
theorem aAy{α:Type}(xs:List α)(k:Nat):cut xs (some (k:Int)) none=xs.drop k:=by
 unfold cut
 rw[aBw]
 show(xs.drop (min k xs.length)).take (xs.length-min k xs.length)=_
 rw[Bv (by rw[B7];omega)]
 by_cases h:k<=xs.length
 . rw[Nat.min_eq_left h]
 . rw[Nat.min_eq_right (by omega),List.drop_of_length_le (Aj _),List.drop_of_length_le (by omega)]
section
variable {P:Pg} {cl:Caller} {σ:Sg}
theorem aJA{ds:List D}(h:noLs ds=true)(lo hi:Option Int):dQ (.cl (.tup ds)) lo hi=.ok (.cl (.tup (cut ds lo hi))):=by
 show R.ok (Vl.mk (.tup (cut ds lo hi)) false (false&&!noLs ds) (if noLs ds=true then [] else []))=_
 rw[h];rfl
theorem aJB{a b:E}{is:List Int}{k:Nat}(h:ev P cl σ a=.ok (.cl (aO is)))(hb:ev P cl σ b=.ok (.cl (.int (k:Int))))(hk:k<=1000000):ev P cl σ (.sli a .z (.k b .z))=.ok (.cl (aO (is.take k))):=by
 rw[aBg,h,aA,hb,aA]
 show R.iff (aN (k:Int)) (dQ (.cl (.tup (is.map D.int))) none (some (k:Int)))=_
 rw[fG hk,aJA (eO is),aEW,<-Dd]
 rfl
theorem aJC{a b:E}{is:List Int}{k:Nat}(h:ev P cl σ a=.ok (.cl (aO is)))(hb:ev P cl σ b=.ok (.cl (.int (k:Int))))(hk:k<=1000000):ev P cl σ (.sli a (.k b .z) .z)=.ok (.cl (aO (is.drop k))):=by
 have e1:evs P cl σ (.k b .z)=.ok [.cl (.int (k:Int))]:=by rw[aH,hb];rfl
 show(ev P cl σ a >>= λx=>evs P cl σ (.k b .z) >>= λl=>evs P cl σ .z >>= λh=>_)=_
 rw[h,aA,e1,aA,bI,aA]
 show R.iff (aN (k:Int)) (dQ (.cl (.tup (is.map D.int))) (some (k:Int)) none)=_
 rw[fG hk,aJA (eO is),aAy,<-Dp]
 rfl
theorem aMk(a b:List Int)(h:a.length+b.length<=1000):opD .Add (.cl (aO a)) (.cl (aO b))=.ok (.cl (aO (a++b))):=by
 show R.iff (decide ((a.map D.int).length+(b.map D.int).length<=lim)) (.ok (Vl.mk (.tup (a.map D.int++b.map D.int)) false (false||false) ([]++[])))=_
 rw[lM,lM,Am (by unfold lim;omega),<-Ay]
 rfl
end
variable {bs:List (Str×Int)} {g:Cn} {hs:List (List (List Way))}
section
variable {P:Pg} {cl:Caller} {σ:Sg} {i:Nat}
theorem jR(h:σ[i]? = some (.sh true (aQ bs g hs))):ev P cl σ (.v i)=.ok ⟨aQ bs g hs,false,true,[]⟩:=by
 show bY σ i=_
 unfold bY
 rw[h]
 rfl
theorem aJD(h:σ[i]? = some (.sh true (aQ bs g hs))):ev P cl σ (.idx (.v i) (.c (.int 0)))=.ok ⟨.lst (aB bs),false,true,[]⟩:=bE (jR h) (aC _) rfl
theorem aMl(h:σ[i]? = some (.sh true (aQ bs g hs))):ev P cl σ (.idx (.v i) (.c (.int 1)))=.ok (.cl g.d):=bE (jR h) (aC _) (congrArg R.ok (cC g.noL))
theorem aEX(h:σ[i]? = some (.sh true (aQ bs g hs))):ev P cl σ (.idx (.v i) (.c (.int 2)))=.ok ⟨.lst (aW hs),false,true,[]⟩:=bE (jR h) (aC _) rfl
theorem aHk(h:σ[i]? = some (.sh true (aQ bs g hs))):ev P cl σ (.bi .len (.k (.idx (.v i) (.c (.int 2))) .z))=.ok (.cl (.int hs.length)):=by
 have:=eH (aEX (P:=P) (cl:=cl) h) rfl
 rwa [lM] at this
end
theorem rF{k:Nat}{h:List (List Way)}(hk:hs[k]? = some h):eE ⟨.lst (aW hs),false,true,[]⟩ (.cl (.int (k:Int)))=.ok ⟨.lst (bD h),false,true,[]⟩:=yA (f:=λh=>D.lst (bD h)) (v:=⟨.lst (aW hs),false,true,[]⟩) rfl hk
theorem aBx{h:List (List Way)}{p:Nat}{ws:List Way}(hp:h[p]? = some ws):eE ⟨.lst (bD h),false,true,[]⟩ (.cl (.int (p:Int)))=.ok ⟨eZ ws,false,true,[]⟩:=yA (f:=eZ) (v:=⟨.lst (bD h),false,true,[]⟩) rfl hp
theorem rG(n:Nat)(h:List (List Way)){p:Nat}{ws:List Way}(hp:h[p]? = some ws):call pg (n+1) 28 [.lst (bD h),.int p]=.ok (eZ ws,false,true):=by
 have v0:=aM (P:=pg) (cl:=call pg n) (σ:=[.sh true (.lst (bD h)),.sh true (.int p)]) 0 rfl
 have v1:=aP (P:=pg) (cl:=call pg n) (σ:=[.sh true (.lst (bD h)),.sh true (.int p)]) 1 rfl rfl
 have hl:=eH v0 rfl
 rw[lM] at hl
 have hlt:=(Aw.mp hp).1
 exact aG (F:=f28) rfl rfl (v:=⟨eZ ws,false,true,[]⟩) (aS (aBm (tL (k:=true) (aC (.int 0)) v1 hl (by omega) (Am (by omega))) (bE v0 v1 (aBx hp))))
theorem yM(n:Nat)(h:List (List Way)):call pg (n+1) 28 [.lst (bD h),.int h.length]=.ok (.lst [],true,false):=by
 have v0:=aM (P:=pg) (cl:=call pg n) (σ:=[.sh true (.lst (bD h)),.sh true (.int h.length)]) 0 rfl
 have v1:=aP (P:=pg) (cl:=call pg n) (σ:=[.sh true (.lst (bD h)),.sh true (.int h.length)]) 1 rfl rfl
 have hl:=eH v0 rfl
 rw[lM] at hl
 exact aG (F:=f28) rfl rfl (v:=⟨.lst [],true,false,[]⟩) (aS (aBm (tL (k:=false) (aC (.int 0)) v1 hl (by omega) (As (by omega))) rfl))
abbrev St:=List Int×List Int
def aL(s:St):D:=.tup [aO s.1,aO s.2]
def aMm:Option St->D
 | none=>.non
 | some s=>aL s
theorem fZ(s:St):noL (aL s)=true:=vG (aR _) (aR _)
abbrev aK(p:Nat×Nat):D:=.tup [aF p.1,aF p.2]
def bG(hs:List (List (List Way)))(s:St)(h:Nat):List Way:=(hs.getD h []).getD (s.2.getD h 0).toNat []
def goneF(bs:List (Str×Int))(hs:List (List (List Way)))(s:St)(p:Nat×Nat):Option St:=
 if p.2<(bG hs s p.1).length then (behF bs (dX (bG hs s p.1) p.2) s.1).map λst=>(st,s.2.take p.1++[(dX (bG hs s p.1) p.2).nx]++s.2.drop (p.1+1)) else none
structure SOk (m:Nat) (hs:List (List (List Way))) (s:St):Prop where
 st:s.1.length=m
 pl:s.2.length=hs.length
 rg:∀k,k<hs.length->0<=s.2.getD k 0/\s.2.getD k 0<=(hs.getD k []).length
abbrev goF(bs:List (Str×Int))(g:Cn)(hs:List (List (List Way)))(s:St)(p:Nat×Nat)(s3 s4 s5 s6 s7 s8:Sl):Sg:=[.sh true (aQ bs g hs),.sh true (aL s),.sh true (aK p),s3,s4,s5,s6,s7,s8]
theorem dH{α:Type}{l:List α}{k:Nat}(d:α)(h:k<l.length):l[k]? = some (l.getD k d):=by rw[Ae,Ad h];rfl
theorem rH(n:Nat)(hb4:bs.length<=4)(o:fE bs.length hs){s:St}(so:SOk bs.length hs s){p:Nat×Nat}(hp:p.1<hs.length):call pg (n+33) 35 [aQ bs g hs,aL s,aK p]=.ok (aMm (goneF bs hs s p),false,false):=by
 obtain⟨l2,l3⟩:=lK o
 let τ:=goF bs g hs s p
 have v1:∀s3 s4 s5 s6 s7 s8,ev pg (call pg (n+32)) (τ s3 s4 s5 s6 s7 s8) (.v 1)=.ok (.cl (aL s)):=λ_ _ _ _ _ _=>aP 1 rfl (fZ s)
 have v2:∀s3 s4 s5 s6 s7 s8,ev pg (call pg (n+32)) (τ s3 s4 s5 s6 s7 s8) (.v 2)=.ok (.cl (aK p)):=λ_ _ _ _ _ _=>aP 2 rfl rfl
 have i21:∀s3 s4 s5 s6 s7 s8,ev pg (call pg (n+32)) (τ s3 s4 s5 s6 s7 s8) (.idx (.v 2) (.c (.int 1)))=.ok (.cl (aF p.2)):=λ_ _ _ _ _ _=>bE (v2 _ _ _ _ _ _) (aC _) (fV _ _ _ rfl)
 have k1:ex pg (call pg (n+32)) (τ .x .x .x .x .x .x) (hdS f35.body)=.next (τ (.sh false (aF p.1)) .x .x .x .x .x):=aV (bE (v2 _ _ _ _ _ _) (aC _) (fU _ _ rfl))
 have v3:∀s4 s5 s6 s7 s8,ev pg (call pg (n+32)) (τ (.sh false (aF p.1)) s4 s5 s6 s7 s8) (.v 3)=.ok (.cl (aF p.1)):=λ_ _ _ _ _=>aJ 3 rfl
 have k2:ex pg (call pg (n+32)) (τ (.sh false (aF p.1)) .x .x .x .x .x) (hdS (drp 1 f35.body))=.next (τ (.sh false (aF p.1)) .x .x .x .x .x):=bV (dF (tL (k:=true) (aC _) (v3 _ _ _ _ _) (aHk rfl) (by omega) (Am (by omega))))
 have k3:ex pg (call pg (n+32)) (τ (.sh false (aF p.1)) .x .x .x .x .x) (hdS (drp 2 f35.body))=.next (τ (.sh false (aF p.1)) (.sh false (aO s.1)) .x .x .x .x):=aV (bE (v1 _ _ _ _ _ _) (aC _) (fU _ _ (aR _)))
 have k4:ex pg (call pg (n+32)) (τ (.sh false (aF p.1)) (.sh false (aO s.1)) .x .x .x .x) (hdS (drp 3 f35.body))=.next (τ (.sh false (aF p.1)) (.sh false (aO s.1)) (.sh false (aO s.2)) .x .x .x):=aV (bE (v1 _ _ _ _ _ _) (aC _) (fV _ _ _ (aR _)))
 let μ:Sl->Sl->Sl->Sg:=λs6 s7 s8=>τ (.sh false (aF p.1)) (.sh false (aO s.1)) (.sh false (aO s.2)) s6 s7 s8
 have w5:∀s6 s7 s8,ev pg (call pg (n+32)) (μ s6 s7 s8) (.v 5)=.ok (.cl (aO s.2)):=λ_ _ _=>aJ 5 rfl
 obtain⟨r0,r1⟩:=so.rg p.1 hp
 obtain⟨q,eq⟩:∃q:Nat,s.2.getD p.1 0=(q:Int):=⟨_,(B2 r0).symm⟩
 have hq:q<=(hs.getD p.1 []).length:=by omega
 have i5:∀s6 s7 s8,ev pg (call pg (n+32)) (μ s6 s7 s8) (.idx (.v 5) (.v 3))=.ok (.cl (.int (q:Int))):=λs6 s7 s8=>by
  have:=bE (w5 s6 s7 s8) (v3 _ _ _ _ _) (kF (is:=s.2) (k:=p.1) (by rw[so.pl];exact hp))
  rw[eq] at this
  exact this
 have ih:∀s6 s7 s8,ev pg (call pg (n+32)) (μ s6 s7 s8) (.idx (.idx (.v 0) (.c (.int 2))) (.v 3))=.ok ⟨.lst (bD (hs.getD p.1 [])),false,true,[]⟩:=λs6 s7 s8=>bE (aEX rfl) (v3 _ _ _ _ _) (rF (dH [] hp))
 have ro:bG hs s p.1=(hs.getD p.1 []).getD q []:=by unfold bG;rw[eq];rfl
 have pre:∀{v:Vl},exs pg (call pg (n+32)) (μ .x .x .x) (drp 4 f35.body)=.ret v->exs pg (call pg (n+32)) (τ .x .x .x .x .x .x) f35.body=.ret v:=λe=>cs k1 (cs k2 (cs k3 (cs k4 e)))
 by_cases hql:q<(hs.getD p.1 []).length
 . have hrow:(hs.getD p.1 [])[q]? = some (bG hs s p.1):=by rw[ro];exact dH [] hql
   have k5:ex pg (call pg (n+32)) (μ .x .x .x) (hdS (drp 4 f35.body))=.next (μ (.sh true (eZ (bG hs s p.1))) .x .x):=aJx (yC (ih _ _ _) (i5 _ _ _) (rG (n+31) _ hrow) rfl rfl)
   have v6:∀s7 s8,ev pg (call pg (n+32)) (μ (.sh true (eZ (bG hs s p.1))) s7 s8) (.v 6)=.ok ⟨eZ (bG hs s p.1),false,true,[]⟩:=λ_ _=>aM 6 rfl
   have hl6:=eH (v6 .x .x) rfl
   rw[lM] at hl6
   have t6:=tL (P:=pg) (cl:=call pg (n+32)) (k:=decide (p.2<(bG hs s p.1).length)) (aC (.int 0)) (i21 (.sh false (aF p.1)) (.sh false (aO s.1)) (.sh false (aO s.2)) (.sh true (eZ (bG hs s p.1))) .x .x) hl6 (by omega) (by simp)
   by_cases hw:p.2<(bG hs s p.1).length
   . rw[Am hw] at t6
     have hm:=vM hw
     have wo:=((o.ok _ (mG (dH [] hp))).ok _ (mG hrow)).ok _ hm.1
     let w:=dX (bG hs s p.1) p.2
     have k7:ex pg (call pg (n+32)) (μ (.sh true (eZ (bG hs s p.1))) .x .x) (hdS (drp 6 f35.body))=.next (μ (.sh true (eZ (bG hs s p.1))) (.sh false w.d) .x):=aV (tM (f:=Way.d) (v6 _ _) rfl (i21 _ _ _ _ _ _) hm.2 (eX _))
     have w7:∀s8,ev pg (call pg (n+32)) (μ (.sh true (eZ (bG hs s p.1))) (.sh false w.d) s8) (.v 7)=.ok (.cl w.d):=λ_=>aJ 7 rfl
     have k8:ex pg (call pg (n+32)) (μ (.sh true (eZ (bG hs s p.1))) (.sh false w.d) .x) (hdS (drp 7 f35.body))=.next (μ (.sh true (eZ (bG hs s p.1))) (.sh false w.d) (.sh false (stD (behF bs w s.1)))):=aV (bW (aJD rfl) (w7 _) (aJ 4 rfl) (aAp n so.st (by omega) wo.1))
     have w8:ev pg (call pg (n+32)) (μ (.sh true (eZ (bG hs s p.1))) (.sh false w.d) (.sh false (stD (behF bs w s.1)))) (.v 8)=.ok (.cl (stD (behF bs w s.1))):=aJ 8 rfl
     have t9:tst pg (call pg (n+32)) (μ (.sh true (eZ (bG hs s p.1))) (.sh false w.d) (.sh false (stD (behF bs w s.1)))) (.cmp .Is (.v 8) (.c .non))=.ok (behF bs w s.1).isNone:=cA w8 (aC _) (by cases behF bs w s.1 <;> rfl)
     have gf:goneF bs hs s p=(behF bs w s.1).map λst=>(st,s.2.take p.1++[w.nx]++s.2.drop (p.1+1)):=if_pos hw
     cases q9:behF bs w s.1 with
     | none=>
      rw[q9] at t9 gf
      rw[gf]
      rw[q9] at k8
      exact aG (F:=f35) rfl rfl (v:=.cl .non) (pre (cs k5 (cs (bV (dF t6)) (cs k7 (cs k8 (eG t9 (aS (aC _))))))))
     | some st=>
      rw[q9] at t9 gf w8 k8
      rw[gf]
      have sl:=s.2.length
      have hpl:=so.pl
      have e10:=nP w8 (fA (o:=.Add) (fA (o:=.Add) (aJB (w5 _ _ _) (v3 _ _ _ _ _) (by omega)) (bM (aD (bE (w7 _) (aC (.int 2)) (aAo _ _ _ _ rfl)) aY)) (aMk (s.2.take p.1) [w.nx] (by rw[A2];simp;omega))) (aJC (k:=p.1+1) (w5 _ _ _) (cQ (v3 _ _ _ _ _) (aC (.int 1))) (by omega)) (aMk _ (s.2.drop (p.1+1)) (by rw[lA,A2,B7];simp;omega)))
      exact aG (F:=f35) rfl rfl (v:=.cl (aL (st,s.2.take p.1++[w.nx]++s.2.drop (p.1+1)))) (pre (cs k5 (cs (bV (dF t6)) (cs k7 (cs k8 (cs (bV t9) (aS e10)))))))
   . rw[As hw] at t6
     rw[show goneF bs hs s p=none from if_neg hw]
     exact aG (F:=f35) rfl rfl (v:=.cl .non) (pre (cs k5 (eG (dF t6) (aS (aC _)))))
 . have hqe:q=(hs.getD p.1 []).length:=by omega
   have rn:bG hs s p.1=[]:=by rw[ro,Ae,Cu (by omega)];rfl
   have k5:ex pg (call pg (n+32)) (μ .x .x .x) (hdS (drp 4 f35.body))=.next (μ (.own false []) .x .x):=bL (dW (ih _ _ _) (i5 _ _ _) (by rw[hqe];exact yM (n+31) _))
   have t6:=tL (P:=pg) (cl:=call pg (n+32)) (k:=false) (aC (.int 0)) (i21 (.sh false (aF p.1)) (.sh false (aO s.1)) (.sh false (aO s.2)) (.own false []) .x .x) (eH (bH 6 rfl) rfl) (by omega) (As (by simp))
   rw[show goneF bs hs s p=none from if_neg (by rw[rn];simp)]
   exact aG (F:=f35) rfl rfl (v:=.cl .non) (pre (cs k5 (eG (dF t6) (aS (aC _)))))
variable {bs:List (Str×Int)} {g:Cn} {hs:List (List (List Way))}
theorem yN{st:List Int}:∀(ps:List (Nat×Sm)) (acc r:List Int),putF bs st acc ps=some r->r.length=acc.length
 | [],acc,r,h=>by cases h;rfl
 | p::ps,acc,r,h=>by
  unfold putF at h
  split at h
  . have:=yN ps _ r h
    rw[this,Ax]
  . cases h
theorem aEY{w:Way}{st r:List Int}(h:behF bs w st=some r):r.length=st.length:=by
 unfold behF at h
 split at h
 . exact yN _ _ _ h
 . cases h
theorem SOk.go(o:fE bs.length hs){s s':St}(so:SOk bs.length hs s){p:Nat×Nat}(hp:p.1<hs.length)(h:goneF bs hs s p=some s'):SOk bs.length hs s':=by
 unfold goneF at h
 split at h
 . rename_i hw
   obtain⟨st,h1,rfl⟩:=Bk.mp h
   have hm:=vM hw
   have hpl:=so.pl
   have hh:=dH (l:=hs) [] hp
   have hq:(s.2.getD p.1 0).toNat<(hs.getD p.1 []).length:=by
    by_cases z:(s.2.getD p.1 0).toNat<(hs.getD p.1 []).length
    . exact z
    . have e:bG hs s p.1=[]:=by unfold bG;rw[Ae (l:=hs.getD p.1 []),Cu (by omega)];rfl
      rw[e] at hw
      exact absurd hw (Nat.not_lt_zero _)
   have wo:=((o.ok _ (mG hh)).ok _ (mG (dH [] hq))).ok (dX (bG hs s p.1) p.2) hm.1
   refine⟨by rw[aEY h1];exact so.st,by simp only[lA,A2,B7,C6];omega,λk hk=>?_⟩
   show 0<=(s.2.take p.1++[(dX (bG hs s p.1) p.2).nx]++s.2.drop (p.1+1)).getD k 0/\(s.2.take p.1++[(dX (bG hs s p.1) p.2).nx]++s.2.drop (p.1+1)).getD k 0<=_
   have tl:(s.2.take p.1).length=p.1:=by rw[A2];omega
   by_cases h1:k<p.1
   . have:(s.2.take p.1++[(dX (bG hs s p.1) p.2).nx]++s.2.drop (p.1+1)).getD k 0=s.2.getD k 0:=by
      rw[Ae,Cd,Bc (by omega),List.getElem?_take,if_pos h1,Ae]
     rw[this]
     exact so.rg k hk
   . by_cases h2:k=p.1
     . subst h2
       have:(s.2.take p.1++[(dX (bG hs s p.1) p.2).nx]++s.2.drop (p.1+1)).getD p.1 0=(dX (bG hs s p.1) p.2).nx:=by
        rw[Ae,Cd,Au (by omega),tl,Nat.sub_self];rfl
       rw[this]
       have:=wo.2
       omega
     . have:(s.2.take p.1++[(dX (bG hs s p.1) p.2).nx]++s.2.drop (p.1+1)).getD k 0=s.2.getD k 0:=by
        have l1:(s.2.take p.1++[(dX (bG hs s p.1) p.2).nx]).length=p.1+1:=by rw[lA,tl];rfl
        rw[Ae,Au (by omega),l1,List.getElem?_drop,Ae]
        congr 2
        omega
       rw[this]
       exact so.rg k hk
 . cases h
theorem vQ(n:Nat)(hb:bs∈boxSet){st:List Int}(h:st∈standsL bs):call pg (n+3) 8 [.lst (aB bs),aO st]=.ok (.bl true,false,false):=by
 obtain⟨hl,hr⟩:=mO h
 obtain⟨l3,l4⟩:=fH hb
 have v0:=aM (P:=pg) (cl:=call pg (n+2)) (σ:=[.sh true (.lst (aB bs)),.sh true (aO st)]) 0 rfl
 have v1:=aP (P:=pg) (cl:=call pg (n+2)) (σ:=[.sh true (.lst (aB bs)),.sh true (aO st)]) 1 rfl (aR st)
 have n0:=eH v0 rfl
 have n1:=eW (b:=.len) v1 (gO _)
 rw[show(aB bs).length=bs.length from lM _] at n0
 rw[lM] at n1
 have k1:=bV (a:=.k (.ret (.c (.bl false))) .z) (eA (dF (fJ (cs:=[.tTuple]) (k:=true) v1 rfl)) (cA (o:=.NotEq) (k:=false) n1 n0 (by
  show(some ((st.length:Int)==(bs.length:Int))).map (!·)=_
  rw[hl,Bm];rfl)))
 have hz:fC (aB bs) (st.map D.int)=(bs.zip st).map λx=>.tup [box x.1,.int x.2]:=by
  clear hl hr k1 v1 n1
  have:∀(bs:List (Str×Int)) (st:List Int),fC (bs.map box) (st.map D.int)=(bs.zip st).map λx=>.tup [box x.1,.int x.2]:=λbs=>by
   induction bs with
   | nil=>intro st;cases st <;> rfl
   | cons b bs ih=>
    intro st
    cases st with
    | nil=>rfl
    | cons i st=>
     show .tup [box b,.int i]::fC (bs.map box) (st.map D.int)=_
     rw[ih st];rfl
  exact this bs st
 have hc:ev pg (call pg (n+2)) [.sh true (.lst (aB bs)),.sh true (aO st)] (.comp 2 [] (.t [0,1]) (.zip (.v 0) (.v 1)) .z (.call 15 (.k (.v 1) (.k (.c (.int 0)) (.k (.idx (.v 0) (.c (.int 1))) .z)))))=.ok ⟨.lst ((bs.zip st).map λ_=>.bl true),true,false,[]⟩:=by
  refine gF (ts:=bs.zip st) (al:=[]) (λx=>Vl.cl (.tup [box x.1,.int x.2])) (λ_=>.bl true) (λ_=>rfl) ?_ (by rw[List.length_zip];unfold lim;omega) λx hx=>?_
  . rw[jJ,v0,aA,v1,aA]
    show R.ok (items _ (fC (aB bs) (st.map D.int)),[])=_
    rw[hz,cN (g:=λx:(Str×Int)×Int=>D.tup [box x.1,.int x.2]) (λ_=>rfl)]
  . obtain⟨i,hi⟩:=Dc hx
    rw[Dw] at hi
    have:=hr i x.2 x.1 hi.2 hi.1
    exact⟨[.sh false (box x.1),.sh false (.int x.2)],tK _ rfl rfl,bW (aJ 1 rfl) (aC _) (bE (aJ 0 rfl) (aC (.int 1)) (fV _ _ _ rfl)) (iC (P:=pg) (wh:=14) (wi:=15) rfl rfl n x.2 0 x.1.2 this.1 this.2)⟩
 refine aG (F:=f8) rfl rfl (v:=.cl (.bl true)) (cs k1 (aS (eW hc ?_)))
 have:cF ((bs.zip st).map λ_=>D.bl true)=some ((bs.zip st).map λ_=>true):=by
  induction (bs.zip st) with
  | nil=>rfl
  | cons x r ih=>rw[mC];unfold cF;rw[ih];rfl
 show(match cF ((bs.zip st).map λ_=>D.bl true) with|some bs=>R.ok (Vl.cl (.bl (bs.all id)))|none=>.bad)=_
 rw[this]
 show R.ok (Vl.cl (.bl (((bs.zip st).map λ_=>true).all id)))=_
 rw[List.all_map]
 exact congrArg (λz=>R.ok (Vl.cl (.bl z))) (Bu.mpr λ_ _=>rfl)
theorem sA(n:Nat)(hb:bs∈boxSet){q:Cn}(w:q.wf bs.length true)(z:q.sz<=31):call pg (n+32) 9 [.lst (aB bs),q.d]=.ok (.lst (((standsL bs).filter λst=>q.hold st st).map aO),true,false):=by
 have h24:(standsL bs).length<=24:=by
  have:=aHg (yJ hb) bs.length (Aj _)
  rwa [B8] at this
 refine aG (F:=f9) rfl rfl (v:=⟨.lst (((standsL bs).filter λst=>q.hold st st).map aO),true,false,[]⟩) (aS (aJu (ts:=standsL bs) (al:=[]) (λst=>Vl.cl (aO st)) aO (λst=>q.hold st st) aR ?_ (by unfold lim;omega) λst hst=>⟨[.sh false (aO st),.sh true q.d],rfl,iS (aP 1 rfl q.noL) (aJ 0 rfl) (aC _) (rB n (mO hst).1 w z),aJ 0 rfl⟩))
 rw[cE,cU (aM 0 rfl) (aCt (P:=pg) (f:=7) rfl (n+30) (yJ hb)),aA]
 show R.ok (items _ ((standsL bs).map aO),[])=_
 rw[cN aR]
theorem yO(hb:bs∈boxSet)(p:Bool):(cH p).wf bs.length true/\(cH p).sz<=31:=by
 have:=fH hb
 cases p with
 | true=>exact⟨trivial,by decide⟩
 | false=>exact⟨⟨by show 0<bs.length;omega,by decide,by decide⟩,by decide⟩
theorem aCE(hb:bs∈boxSet)(p:Bool):1<=((standsL bs).filter λst=>(cH p).hold st st).length:=by
 rcases box_six hb with rfl|rfl|rfl|rfl|rfl|rfl <;> cases p <;> decide +kernel
theorem aCF(n:Nat)(hb:bs∈boxSet){ns:List Int}(hn:ns.length<=63)(p:Bool):∃st∈standsL bs,(cH p).hold st st=true/\call pg (n+33) 49 [.lst (ns.map D.int),aQ bs (cH p) hs]=.ok (aO st,false,false):=by
 obtain⟨w,z⟩:=yO hb p
 have k1:ex pg (call pg (n+32)) [.sh true (.lst (ns.map D.int)),.sh true (aQ bs (cH p) hs),.x] (hdS f49.body)=.next [.sh true (.lst (ns.map D.int)),.sh true (aQ bs (cH p) hs),.own false (((standsL bs).filter λst=>(cH p).hold st st).map aO)]:=bL (dW (aJD rfl) (aMl rfl) (sA n hb w z))
 let xs:=nM ((ns++[0]).getD 0 0) 10
 have e43:ev pg (call pg (n+32)) [.sh true (.lst (ns.map D.int)),.sh true (aQ bs (cH p) hs),.own false (((standsL bs).filter λst=>(cH p).hold st st).map aO)] (.call 43 (.k (.idx (.op .Add (.v 0) (.lst (.k (.c (.int 0)) .z))) (.c (.int 0))) (.k (.c (.int 10)) .z)))=.ok ⟨.lst (xs.map D.int),true,false,[]⟩:=dW (mQ (ms:=[0]) (k:=0) hn (by decide) rfl (aD (aC _) aY) (aC _) (by simp)) (aC (.int 10)) (fX (P:=pg) (f:=43) rfl (n+31) _ (m:=10) (by decide))
 obtain⟨st,hst,e⟩:=nR (P:=pg) (cl:=call pg (n+32)) (f:=aO) (bH 2 rfl) rfl (fK (k:=9) e43 rfl (aC _) (by rw[iA];decide)) (aCE hb p) aR
 rw[C9] at hst
 exact⟨st,hst.1,hst.2,aG (F:=f49) rfl rfl (v:=.cl (aO st)) (cs k1 (aS e))⟩
variable {bs:List (Str×Int)} {g:Cn} {hs:List (List (List Way))}
abbrev cB(hs:List (List (List Way))):List Int:=List.replicate hs.length 0
theorem aGH(o:fE bs.length hs){st:List Int}(h:st.length=bs.length):SOk bs.length hs (st,cB hs):=⟨h,A0,λk hk=>by
 have:(cB hs).getD k 0=0:=by
  rw[Ae,Ci,if_pos hk];rfl
 show 0<=(cB hs).getD k 0/\(cB hs).getD k 0<=_
 rw[this]
 omega⟩
theorem yP{P:Pg}{cl:Caller}{σ:Sg}{i:Nat}(h3:hs.length<=3)(h:σ[i]? = some (.sh true (aQ bs g hs))):ev P cl σ (.bi .tuple (.k (.comp 1 [] (.n 0) (.seq (.idx (.v i) (.c (.int 2)))) .z (.c (.int 0))) .z))=.ok (.cl (aO (cB hs))):=by
 have hc:ev P cl σ (.comp 1 [] (.n 0) (.seq (.idx (.v i) (.c (.int 2)))) .z (.c (.int 0)))=.ok ⟨.lst (hs.map λ_=>.int 0),true,false,[]⟩:=by
  refine gF (ts:=hs) (al:=[]) (λh=>Vl.mk (.lst (bD h)) false true []) (λ_=>.int 0) (λ_=>rfl) ?_ (by unfold lim;omega) λh _=>⟨[.sh true (.lst (bD h))],rfl,aC _⟩
  rw[cE,aEX h,aA]
  show R.ok (items _ (aW hs),[])=_
  unfold items
  rw[A3]
  rfl
 have e:(hs.map λ_=>D.int 0)=(cB hs).map D.int:=by
  show _=(List.replicate hs.length (0:Int)).map D.int
  rw[List.map_replicate]
  exact List.map_const' ..
 rw[e] at hc
 refine eW hc ?_
 show R.ok (Vl.mk (.tup ((cB hs).map D.int)) false (false&&!noLs ((cB hs).map D.int)) (if noLs ((cB hs).map D.int)=true then [] else []))=_
 rw[eO];rfl
theorem aCG(n:Nat)(h3:hs.length<=3)(st:List Int):call pg (n+1) 37 [aQ bs g hs,aO st]=.ok (aL (st,cB hs),false,false):=
 aG (F:=f37) rfl rfl (v:=.cl (aL (st,cB hs))) (aS (nP (aP 1 rfl (aR st)) (yP h3 rfl)))
structure Wov (bs:List (Str×Int)) (hs:List (List (List Way))) (s0:St) (ps:List (Nat×Nat)) (ss:List St):Prop where
 len:ss.length=ps.length+1
 z:ss.getD 0 s0=s0
 go:∀i,i<ps.length->goneF bs hs (ss.getD i s0) (ps.getD i (0,0))=some (ss.getD (i+1) s0)
 hd:∀p∈ps,p.1<hs.length
 ok:∀i,SOk bs.length hs (ss.getD i s0)
theorem iG{α:Type}(l r:List α)(d:α){i:Nat}(h:i<l.length):(l++r).getD i d=l.getD i d:=by
 rw[Ae,Ae,Bc h]
theorem kI{α:Type}(l:List α)(x d:α):(l++[x]).getD l.length d=x:=by
 rw[Ae,Au (Aj _),Nat.sub_self];rfl
theorem Wov.nil{s0:St}(so:SOk bs.length hs s0):Wov bs hs s0 [] [s0]:=⟨rfl,rfl,λi h=>absurd h (Nat.not_lt_zero _),λ_ h=>absurd h Be,λi=>by
 cases i with
 | zero=>exact so
 | succ i=>exact so⟩
theorem Wov.snoc(o:fE bs.length hs){s0 s':St}{ps:List (Nat×Nat)}{ss:List St}(W:Wov bs hs s0 ps ss){p:Nat×Nat}(hp:p.1<hs.length)(h:goneF bs hs (ss.getD ps.length s0) p=some s'):Wov bs hs s0 (ps++[p]) (ss++[s']):=by
 have hl:=W.len
 have so':=(W.ok ps.length).go o hp h
 refine⟨by rw[lA,lA,hl];rfl,by rw[iG _ _ _ (by omega)];exact W.z,λi hi=>?_,λq hq=>?_,λi=>?_⟩
 . rw[lA,C6] at hi
   by_cases hlt:i<ps.length
   . rw[iG ss _ _ (by omega),iG ps _ _ hlt,iG ss _ _ (by omega)]
     exact W.go i hlt
   . have:i=ps.length:=by omega
     subst this
     rw[iG ss _ _ (by omega),kI]
     have e:=kI ss s' s0
     rw[hl] at e
     rw[e]
     exact h
 . rcases Bs.mp hq with z|z
   . exact W.hd q z
   . rw[Av.mp z];exact hp
 . by_cases hlt:i<ss.length
   . rw[iG ss _ _ hlt];exact W.ok i
   . by_cases he:i=ss.length
     . subst he;rw[kI];exact so'
     . rw[Ae,Cu (by simp;omega)]
       have:=W.ok 0
       rw[W.z] at this
       exact this
theorem kT{α β:Type}(f:α->β)(l:List α)(d:α){i:Nat}(h:i<l.length):(l.take (i+1)).map f=(l.take i).map f++[f (l.getD i d)]:=by
 rw[List.take_succ,Ay,Ad h,Ae,Ad h]
 rfl
theorem yQ{α:Type}(f:α->D)(d0:α):∀(xs:List α) (a:Nat),gI (a:Int) (xs.map f)=(List.range xs.length).map λi=>.tup [aF (a+i),f (xs.getD i d0)]
 | [],_=>rfl
 | x::xs,a=>by
  rw[lC,Dm,mC,mC,A3]
  show .tup [.int (a:Int),f x]::gI ((a:Int)+1) (xs.map f)=_
  rw[show((a:Int)+1)=((a+1:Nat):Int) by omega,yQ f d0 xs (a+1)]
  refine congrArg _ (Cq λi _=>?_)
  show D.tup [aF (a+1+i),_]=D.tup [aF (a+(i+1)),_]
  rw[show a+1+i=a+(i+1) by omega]
  rfl
theorem nS(n:Nat)(hb:bs∈boxSet)(o:fE bs.length hs)(gw:g.wf bs.length true)(gz:g.sz<=31){st:List Int}(hst:st∈standsL bs)(hg:g.hold st st=true){ps:List (Nat×Nat)}{ss:List St}(W:Wov bs hs (st,cB hs) ps ss)(hp:ps.length<=100) :
 call pg (n+34) 36 [aQ bs g hs,aO st,.lst (ps.map aK)]=.ok (.lst (ss.map aL),true,false):=by
 obtain⟨l3,l4⟩:=fH hb
 obtain⟨h2,h3⟩:=lK o
 let s0:St:=(st,cB hs)
 let τ:Sl->Sl->Sl->Sl->Sg:=λs3 s4 s5 s6=>[.sh true (aQ bs g hs),.sh true (aO st),.sh true (.lst (ps.map aK)),s3,s4,s5,s6]
 have v1:∀s3 s4 s5 s6,ev pg (call pg (n+33)) (τ s3 s4 s5 s6) (.v 1)=.ok (.cl (aO st)):=λ_ _ _ _=>aP 1 rfl (aR st)
 have k1:ex pg (call pg (n+33)) (τ .x .x .x .x) (hdS f36.body)=.next (τ .x .x .x .x):=bV (eA (dF (by
  have e:evs pg (call pg (n+33)) (τ .x .x .x .x) (.k (.idx (.v 0) (.c (.int 0))) (.k (.v 1) .z))=.ok [⟨.lst (aB bs),false,true,[]⟩,.cl (aO st)]:=by rw[aH,aJD rfl,aA,aH,v1,aA,bI];rfl
  rw[hX,e,aA]
  show(call pg (n+33) 8 [.lst (aB bs),aO st] >>= λr=>gH (iI _ r))=_
  rw[vQ (n+30) hb hst]
  rfl)) (dF (iS (aMl rfl) (v1 _ _ _ _) (aC _) (by
  have:=rB (n+2) (mO hst).1 gw gz
  rw[hg] at this
  exact this))))
 have k2:ex pg (call pg (n+33)) (τ .x .x .x .x) (hdS (drp 1 f36.body))=.next (τ (.sh false (aL s0)) .x .x .x):=aV (eI (jR rfl) (v1 _ _ _ _) (aCG (n+32) h3 st))
 have k3:ex pg (call pg (n+33)) (τ (.sh false (aL s0)) .x .x .x) (hdS (drp 2 f36.body))=.next (τ (.sh false (aL (ss.getD 0 s0))) (.own false ((ss.take 1).map aL)) .x .x):=by
  rw[kT aL ss s0 (i:=0) (by rw[W.len];omega),show ss.getD 0 s0=s0 from W.z]
  exact bL (dM (aD (aJ 3 rfl) aY))
 have hw:walk pg (call pg (n+33)) (τ (.sh false (aL (ss.getD 0 s0))) (.own false ((ss.take 1).map aL)) .x .x) (.enum (.v 2))=.ok ((List.range ps.length).map (λi=>Vl.cl (.tup [aF i,aK (ps.getD i (0,0))])),[]):=by
  rw[aGB (aM 2 (ds:=ps.map aK) rfl) rfl]
  have:=yQ aK (0,0) ps 0
  rw[show((0:Nat):Int)=0 from rfl] at this
  rw[this]
  refine congrArg R.ok (congrArg (·,[]) ((cN (g:=λi=>D.tup [aF (0+i),aK (ps.getD i (0,0))]) (λi=>rfl) _).trans (Cq λi _=>?_)))
  rw[Nat.zero_add]
 obtain⟨σ',ef,s5,s6,rfl⟩:=dJ (P:=pg) (cl:=call pg (n+33)) (t:=.t [5,6]) (b:=match hdS (drp 3 f36.body) with|.for _ _ b=>b|_=>.z) (λi σ=>∃s5 s6,σ=τ (.sh false (aL (ss.getD i s0))) (.own false ((ss.take (i+1)).map aL)) s5 s6) hw ⟨_,_,rfl⟩ λi hi σ ⟨s5,s6,hσ⟩=>by
  have hi':i<ps.length:=by simpa using hi
  subst hσ
  have hl:=W.len
  have hpi:=W.hd (ps.getD i (0,0)) (mG (dH (0,0) hi'))
  have gr:=rH (g:=g) n l4 o (W.ok i) hpi
  rw[W.go i hi'] at gr
  have m1:ex pg (call pg (n+33)) (τ (.sh false (aL (ss.getD i s0))) (.own false ((ss.take (i+1)).map aL)) (.sh false (aF i)) (.sh false (aK (ps.getD i (0,0))))) (.set (.n 3) (.call 35 (.k (.v 0) (.k (.v 3) (.k (.v 6) .z)))))=.next (τ (.sh false (aL (ss.getD (i+1) s0))) (.own false ((ss.take (i+1)).map aL)) (.sh false (aF i)) (.sh false (aK (ps.getD i (0,0))))):=aV (bW (jR rfl) (aJ 3 rfl) (aJ 6 rfl) gr)
  have w3:ev pg (call pg (n+33)) (τ (.sh false (aL (ss.getD (i+1) s0))) (.own false ((ss.take (i+1)).map aL)) (.sh false (aF i)) (.sh false (aK (ps.getD i (0,0))))) (.v 3)=.ok (.cl (aL (ss.getD (i+1) s0))):=aJ 3 rfl
  refine⟨τ (.sh false (aL (ss.getD i s0))) (.own false ((ss.take (i+1)).map aL)) (.sh false (aF i)) (.sh false (aK (ps.getD i (0,0)))),_,?_,cs m1 (cs (bV (cA w3 (aC _) rfl)) (cL (gU w3 rfl (by rw[lM,A2];unfold lim;omega) rfl (kT aL ss s0 (i:=i+1) (by omega))))),_,_,rfl⟩
  rw[A5,B0]
  exact tK _ rfl rfl
 have hfin:(ss.take ((List.range ps.length).map (λi=>Vl.cl (.tup [aF i,aK (ps.getD i (0,0))]))).length.succ)=ss:=by
  rw[lM,Cf]
  exact Bv (by rw[W.len];exact Aj _)
 refine aG (F:=f36) rfl rfl (v:=⟨.lst (ss.map aL),true,false,[]⟩) (cs k1 (cs k2 (cs k3 (cs ef (rC ?_)))))
 show O.ret ⟨.lst ((ss.take ((List.range ps.length).map (λi=>Vl.cl (.tup [aF i,aK (ps.getD i (0,0))]))).length.succ).map aL),true,false,[]⟩=_
 rw[hfin]
def oN(ps:List (Nat×Nat))(ss:List St)(s0:St)(i:Nat):D:=.tup [aF (ps.getD i (0,0)).1,.int ((ss.getD i s0).2.getD (ps.getD i (0,0)).1 0),aF (ps.getD i (0,0)).2]
theorem tP{α β:Type}(f:α->D)(h:β->D)(a0:α)(b0:β):∀(xs:List α) (ys:List β),xs.length<=ys.length->fC (xs.map f) (ys.map h)=(List.range xs.length).map λi=>.tup [f (xs.getD i a0),h (ys.getD i b0)]
 | [],ys,_=>by cases ys <;> rfl
 | x::xs,[],hl=>by simp at hl
 | x::xs,y::ys,hl=>by
  rw[lC,Dm,mC,mC,mC,A3]
  show .tup [f x,h y]::fC (xs.map f) (ys.map h)=_
  rw[tP f h a0 b0 xs ys (by simpa using hl)]
  rfl
theorem aAz(n:Nat)(hb:bs∈boxSet)(o:fE bs.length hs)(gw:g.wf bs.length true)(gz:g.sz<=31){st:List Int}(hst:st∈standsL bs)(hg:g.hold st st=true){ps:List (Nat×Nat)}{ss:List St}(W:Wov bs hs (st,cB hs) ps ss)(hp:ps.length<=100) :
 call pg (n+35) 38 [aQ bs g hs,aO st,.lst (ps.map aK)]=.ok (.lst ((List.range ps.length).map (oN ps ss (st,cB hs))),true,false):=by
 let s0:St:=(st,cB hs)
 have k1:ex pg (call pg (n+34)) [.sh true (aQ bs g hs),.sh true (aO st),.sh true (.lst (ps.map aK)),.x] (hdS f38.body)=.next [.sh true (aQ bs g hs),.sh true (aO st),.sh true (.lst (ps.map aK)),.own false (ss.map aL)]:=bL (iE (jR rfl) (aP 1 rfl (aR st)) (aM 2 rfl) (nS n hb o gw gz hst hg W hp))
 have hc:ev pg (call pg (n+34)) [.sh true (aQ bs g hs),.sh true (aO st),.sh true (.lst (ps.map aK)),.own false (ss.map aL)] (match hdS (drp 1 f38.body) with|.ret e=>e|_=>.c .non)=.ok ⟨.lst ((List.range ps.length).map (oN ps ss s0)),true,false,[]⟩:=by
  refine gF (ts:=List.range ps.length) (al:=[3]) (λi=>Vl.cl (.tup [aK (ps.getD i (0,0)),aL (ss.getD i s0)])) (oN ps ss s0) (λ_=>rfl) ?_ (by rw[Cf];unfold lim;omega) λi hi=>?_
  . rw[jJ,aM 2 (ds:=ps.map aK) rfl,aA,bH 3 (ds:=ss.map aL) rfl,aA]
    show R.ok (items _ (fC (ps.map aK) (ss.map aL)),[3])=_
    rw[tP aK aL (0,0) s0 ps ss (by rw[W.len];omega),cN (g:=λi=>D.tup [aK (ps.getD i (0,0)),aL (ss.getD i s0)]) (λi=>vG rfl (fZ _))]
  . have hi':=Cm.mp hi
    have hpi:=W.hd (ps.getD i (0,0)) (mG (dH (0,0) hi'))
    have v0:=aJ (P:=pg) (cl:=call pg (n+34)) (σ:=[.sh false (aK (ps.getD i (0,0))),.sh false (aL (ss.getD i s0))]) 0 (d:=aK (ps.getD i (0,0))) rfl
    have v1:=aJ (P:=pg) (cl:=call pg (n+34)) (σ:=[.sh false (aK (ps.getD i (0,0))),.sh false (aL (ss.getD i s0))]) 1 (d:=aL (ss.getD i s0)) rfl
    have i0:=bE v0 (aC (.int 0)) (fU _ _ rfl)
    exact⟨[.sh false (aK (ps.getD i (0,0))),.sh false (aL (ss.getD i s0))],tK _ rfl (fZ _),vJ i0 (bE (bE v1 (aC (.int 1)) (fV _ _ _ (aR _))) i0 (kF (by rw[(W.ok i).pl];exact hpi))) (bE v0 (aC (.int 1)) (fV _ _ _ rfl))⟩
 exact aG (F:=f38) rfl rfl (v:=⟨.lst ((List.range ps.length).map (oN ps ss s0)),true,false,[]⟩) (cs k1 (aS hc))
variable {bs:List (Str×Int)} {g:Cn} {hs:List (List (List Way))}
abbrev gsF(bs:List (Str×Int))(g:Cn)(hs:List (List (List Way)))(s:St)(gl:List (Nat×Nat))(s3 s4:Sl):Sg:=[.sh true (aQ bs g hs),.sh true (aL s),.own false (gl.map aK),s3,s4]
abbrev gsB:Ss:=match hdS (drp 1 f50.body) with|.for _ _ b=>b|_=>.z
abbrev gsI:Ss:=match hdS gsB with|.for _ _ b=>b|_=>.z
theorem aCH(n:Nat)(hb4:bs.length<=4)(o:fE bs.length hs){s:St}(so:SOk bs.length hs s):∃gl:List (Nat×Nat),(∀p∈gl,p.1<hs.length/\(goneF bs hs s p).isSome=true)/\gl.length<=12/\call pg (n+34) 50 [aQ bs g hs,aL s]=.ok (.lst (gl.map aK),true,false):=by
 obtain⟨h2,h3⟩:=lK o
 obtain⟨σ',ef,gl,s3,s4,g1,g2,rfl⟩:=dJ (P:=pg) (cl:=call pg (n+33)) (σ:=gsF bs g hs s [] .x .x) (t:=.n 3) (b:=gsB) (λi σ=>∃(gl:List (Nat×Nat)) (s3 s4:Sl),(∀p∈gl,p.1<hs.length/\(goneF bs hs s p).isSome=true)/\gl.length<=4*i/\σ=gsF bs g hs s gl s3 s4) (cR (aHk (i:=0) (bs:=bs) (g:=g) (hs:=hs) rfl) rfl (by omega)) ⟨[],_,_,λ_ z=>absurd z Be,Aj _,rfl⟩ λi hi σ ⟨gl,s3,s4,g1,g2,hσ⟩=>by
  have hi':i<hs.length:=by simpa using hi
  subst hσ
  obtain⟨σ2,e2,gl2,t4,q1,q2,rfl⟩:=dJ (P:=pg) (cl:=call pg (n+33)) (σ:=gsF bs g hs s gl (.sh false (aF i)) s4) (t:=.n 4) (b:=gsI) (λj σ=>∃(gl:List (Nat×Nat)) (s4:Sl),(∀p∈gl,p.1<hs.length/\(goneF bs hs s p).isSome=true)/\gl.length<=4*i+j/\σ=gsF bs g hs s gl (.sh false (aF i)) s4) (cR (n:=4) (aC (.int 4)) rfl (by decide)) ⟨gl,_,g1,g2,rfl⟩ λj hj σ ⟨gl,t4,q1,q2,hσ⟩=>by
   have hj':j<4:=by simpa using hj
   subst hσ
   let σ2:=gsF bs g hs s gl (.sh false (aF i)) (.sh false (aF j))
   have tp:ev pg (call pg (n+33)) σ2 (.tup (.k (.v 3) (.k (.v 4) .z)))=.ok (.cl (aK (i,j))):=nP (aJ 3 rfl) (aJ 4 rfl)
   have t:=cA (o:=.IsNot) (k:=(goneF bs hs s (i,j)).isSome) (bW (jR (P:=pg) (cl:=call pg (n+33)) (σ:=σ2) (i:=0) rfl) (aP 1 (d:=aL s) rfl (fZ s)) tp (rH n hb4 o so hi')) (aC .non) (by cases goneF bs hs s (i,j) <;> rfl)
   cases q:(goneF bs hs s (i,j)).isSome with
   | true=>
    rw[q] at t
    refine⟨σ2,gsF bs g hs s (gl++[(i,j)]) (.sh false (aF i)) (.sh false (aF j)),?_,cL (yB t (cL (gU tp rfl (by rw[lM];unfold lim;omega) rfl (by rw[Ay];rfl)))),_,_,jQ q1 ⟨hi',q⟩,by rw[lA];simp;omega,rfl⟩
    rw[A5,B0,eY];rfl
   | false=>
    rw[q] at t
    refine⟨σ2,σ2,?_,cL (bV t),gl,_,q1,by omega,rfl⟩
    rw[A5,B0,eY];rfl
  refine⟨gsF bs g hs s gl (.sh false (aF i)) s4,_,?_,cL e2,gl2,_,_,q1,by simp at q2;omega,rfl⟩
  rw[A5,B0,eY];rfl
 refine⟨gl,g1,by simp at g2;omega,aG (F:=f50) rfl rfl (v:=⟨.lst (gl.map aK),true,false,[]⟩) (cs (σ':=gsF bs g hs s [] .x .x) rfl (cs ef (rC rfl)))⟩
abbrev spF(ns:List Int)(bs:List (Str×Int))(g:Cn)(hs:List (List (List Way)))(st:List Int)(at' m:Nat)(s:St)(ps:List (Nat×Nat))(s7 s8 s9 s10:Sl):Sg:=[.sh true (.lst (ns.map D.int)),.sh true (aQ bs g hs),.sh true (aO st),.sh true (.int at'),.sh true (.int m),.sh false (aL s),.own false (ps.map aK),s7,s8,s9,s10]
abbrev spB:Ss:=match hdS (drp 2 f51.body) with|.for _ _ b=>b|_=>.z
theorem aAA(n:Nat)(hb4:bs.length<=4)(o:fE bs.length hs){ns:List Int}(hn:ns.length<=63){st:List Int}{a m i:Nat}(ha:a<=10)(hi:i<=100){ps:List (Nat×Nat)}{ss:List St}(W:Wov bs hs (st,cB hs) ps ss)(pl:ps.length<=i)(s8 s9 s10:Sl) :
 ∃(ps':List (Nat×Nat)) (ss':List St) (t8 t9 t10:Sl),Wov bs hs (st,cB hs) ps' ss'/\ps'.length<=i+1/\exs pg (call pg (n+34)) (spF ns bs g hs st a m (ss.getD ps.length (st,cB hs)) ps (.sh false (aF i)) s8 s9 s10) spB=.next (spF ns bs g hs st a m (ss'.getD ps'.length (st,cB hs)) ps' (.sh false (aF i)) t8 t9 t10):=by
 let s:=ss.getD ps.length (st,cB hs)
 have so:SOk bs.length hs s:=W.ok _
 obtain⟨gl,g1,g2,g3⟩:=aCH (g:=g) n hb4 o so
 let τ:St->List (Nat×Nat)->Sl->Sl->Sl->Sg:=λs ps s8 s9 s10=>spF ns bs g hs st a m s ps (.sh false (aF i)) s8 s9 s10
 have v5:∀s ps s8 s9 s10,ev pg (call pg (n+34)) (τ s ps s8 s9 s10) (.v 5)=.ok (.cl (aL s)):=λ_ _ _ _ _=>aJ 5 rfl
 have v0:∀s ps s8 s9 s10,ev pg (call pg (n+34)) (τ s ps s8 s9 s10) (.v 0)=.ok ⟨.lst (ns.map D.int),false,true,[]⟩:=λ_ _ _ _ _=>aM 0 rfl
 have v7:∀s ps s8 s9 s10,ev pg (call pg (n+34)) (τ s ps s8 s9 s10) (.v 7)=.ok (.cl (aF i)):=λ_ _ _ _ _=>aJ 7 rfl
 have k1:ex pg (call pg (n+34)) (τ s ps s8 s9 s10) (hdS spB)=.next (τ s ps (.own false (gl.map aK)) s9 s10):=bL (dW (jR rfl) (v5 _ _ _ _ _) g3)
 have v8:∀s ps s9 s10,ev pg (call pg (n+34)) (τ s ps (.own false (gl.map aK)) s9 s10) (.v 8)=.ok ⟨.lst (gl.map aK),false,false,[8]⟩:=λ_ _ _ _=>bH 8 rfl
 cases hg:gl with
 | nil=>
  have t1:tst pg (call pg (n+34)) (τ s ps (.own false (gl.map aK)) s9 s10) (.cmp .NotEq (.v 8) (.lst .z))=.ok false:=cA (v8 _ _ _ _) rfl (by rw[hg];rfl)
  exact⟨ps,ss,_,_,_,W,by omega,cs k1 (cL (bV t1))⟩
 | cons p0 gr=>
  have hne:1<=gl.length:=by rw[hg];simp
  have t1:tst pg (call pg (n+34)) (τ s ps (.own false (gl.map aK)) s9 s10) (.cmp .NotEq (.v 8) (.lst .z))=.ok true:=cA (v8 _ _ _ _) rfl (by
   have e:eqD (.lst (gl.map aK)) (.lst [])=some false:=by
    show(if (gl.map aK).length=([]:List D).length then _ else some false)=_
    rw[if_neg (by rw[lM,lN];omega)]
   show(eqD (.lst (gl.map aK)) (.lst [])).map (!·)=_
   rw[e];rfl)
  have c11:opD .Mult (.cl (.int 11)) (.cl (.int (i:Int)))=.ok (.cl (.int (11*i))):=mul_int (by
   unfold gY
   rw[Am (by omega),Am (by omega)]
   rfl)
  have hlen:∀s9,ev pg (call pg (n+34)) (τ s ps (.own false (gl.map aK)) s9 s10) (.bi .len (.k (.v 0) .z))=.ok (.cl (.int ns.length)):=λs9=>by
   have:=eH (v0 s ps (.own false (gl.map aK)) s9 s10) rfl
   rwa [lM] at this
  have m1:ex pg (call pg (n+34)) (τ s ps (.own false (gl.map aK)) s9 s10) (.set (.n 9) (.op .Add (.op .Mult (.c (.int 11)) (.v 7)) (.bi .len (.k (.v 0) .z))))=.next (τ s ps (.own false (gl.map aK)) (.sh false (.int (11*(i:Int)+ns.length))) s10):=aV (cQ (fA (aC (.int 11)) (v7 _ _ _ _ _) c11) (hlen _))
  have ai:∀s9,ev pg (call pg (n+34)) (τ s ps (.own false (gl.map aK)) s9 s10) (.op .Add (.v 3) (.v 7))=.ok (.cl (.int ((a+i:Nat):Int))):=λs9=>by
   have:=cQ (aP (P:=pg) (cl:=call pg (n+34)) (σ:=τ s ps (.own false (gl.map aK)) s9 s10) 3 (d:=.int a) rfl rfl) (v7 _ _ _ _ _)
   rw[show(a:Int)+(i:Int)=((a+i:Nat):Int) by omega] at this
   exact this
  have m2:∃x:Int,ex pg (call pg (n+34)) (τ s ps (.own false (gl.map aK)) (.sh false (.int (11*(i:Int)+ns.length))) s10) (.iff (.cmp .Lt (.op .Add (.v 3) (.v 7)) (.bi .len (.k (.v 0) .z))) (.k (.set (.n 9) (.idx (.v 0) (.op .Add (.v 3) (.v 7)))) .z) .z)=.next (τ s ps (.own false (gl.map aK)) (.sh false (.int x)) s10):=by
   have t:=cA (o:=.Lt) (k:=decide (((a+i:Nat):Int)<(ns.length:Int))) (ai (.sh false (.int (11*(i:Int)+ns.length)))) (hlen _) rfl
   by_cases hlt:a+i<ns.length
   . rw[Am (by omega)] at t
     exact⟨ns.getD (a+i) 0,yB t (cL (aV (fK (v0 _ _ _ _ _) rfl (ai _) hlt)))⟩
   . rw[As (by omega)] at t
     exact⟨_,bV t⟩
  obtain⟨x,m2⟩:=m2
  have e43:ev pg (call pg (n+34)) (τ s ps (.own false (gl.map aK)) (.sh false (.int x)) s10) (.call 43 (.k (.v 9) (.k (.c (.int 1)) .z)))=.ok ⟨.lst ((nM x 1).map D.int),true,false,[]⟩:=dW (aJ 9 rfl) (aC (.int 1)) (fX (P:=pg) (f:=43) rfl (n+33) x (m:=1) (by decide))
  obtain⟨p,hp,e10⟩:=nR (f:=aK) (v8 s ps (.sh false (.int x)) s10) rfl (fK (k:=0) e43 rfl (aC _) (by rw[iA];decide)) hne (λ_=>rfl)
  obtain⟨hp1,hp2⟩:=g1 p hp
  obtain⟨s',es⟩:=Option.isSome_iff_exists.mp hp2
  have m3:ex pg (call pg (n+34)) (τ s ps (.own false (gl.map aK)) (.sh false (.int x)) s10) (.set (.n 10) (.idx (.v 8) (.op .Mod (.idx (.call 43 (.k (.v 9) (.k (.c (.int 1)) .z))) (.c (.int 0))) (.bi .len (.k (.v 8) .z)))))=.next (τ s ps (.own false (gl.map aK)) (.sh false (.int x)) (.sh false (aK p))):=aV e10
  have m4:ex pg (call pg (n+34)) (τ s ps (.own false (gl.map aK)) (.sh false (.int x)) (.sh false (aK p))) (.app 6 (.v 10))=.next (τ s (ps++[p]) (.own false (gl.map aK)) (.sh false (.int x)) (.sh false (aK p))):=gU (aJ 10 rfl) rfl (by rw[lM];unfold lim;omega) rfl (by rw[Ay];rfl)
  have gr':=rH (g:=g) (n+1) hb4 o so hp1
  rw[es] at gr'
  have m5:ex pg (call pg (n+34)) (τ s (ps++[p]) (.own false (gl.map aK)) (.sh false (.int x)) (.sh false (aK p))) (.set (.n 5) (.call 35 (.k (.v 1) (.k (.v 5) (.k (.v 10) .z)))))=.next (τ s' (ps++[p]) (.own false (gl.map aK)) (.sh false (.int x)) (.sh false (aK p))):=aV (bW (jR rfl) (v5 _ _ _ _ _) (aJ 10 rfl) gr')
  have hl:=W.len
  have hs':(ss++[s']).getD (ps++[p]).length (st,cB hs)=s':=by
   rw[show(ps++[p]).length=ss.length by rw[lA,hl];rfl]
   exact kI _ _ _
  refine⟨ps++[p],ss++[s'],.own false (gl.map aK),.sh false (.int x),.sh false (aK p),W.snoc o hp1 es,by rw[lA,C6];omega,?_⟩
  rw[hs']
  exact cs k1 (cL (yB t1 (cs m1 (cs m2 (cs m3 (cs m4 (cL m5)))))))
theorem aCI(n:Nat)(hb:bs∈boxSet)(o:fE bs.length hs){ns:List Int}(hn:ns.length<=63){st:List Int}(hst:st∈standsL bs){a m:Nat}(ha:a<=10)(hm:m<=100):∃(ps:List (Nat×Nat)) (ss:List St),Wov bs hs (st,cB hs) ps ss/\ps.length<=m/\call pg (n+35) 51 [.lst (ns.map D.int),aQ bs g hs,aO st,.int a,.int m]=.ok (.lst (ps.map aK),true,false):=by
 obtain⟨l3,l4⟩:=fH hb
 obtain⟨h2,h3⟩:=lK o
 have k1:ex pg (call pg (n+34)) [.sh true (.lst (ns.map D.int)),.sh true (aQ bs g hs),.sh true (aO st),.sh true (.int a),.sh true (.int m),.x,.x,.x,.x,.x,.x] (hdS f51.body)=.next [.sh true (.lst (ns.map D.int)),.sh true (aQ bs g hs),.sh true (aO st),.sh true (.int a),.sh true (.int m),.sh false (aL (st,cB hs)),.x,.x,.x,.x,.x]:=aV (nP (aP 2 rfl (aR st)) (yP h3 rfl))
 obtain⟨σ',ef,ps,ss,s7,s8,s9,s10,W,pl,rfl⟩:=dJ (P:=pg) (cl:=call pg (n+34)) (σ:=spF ns bs g hs st a m (st,cB hs) [] .x .x .x .x) (t:=.n 7) (b:=spB) (λi σ=>∃(ps:List (Nat×Nat)) (ss:List St) (s7 s8 s9 s10:Sl),Wov bs hs (st,cB hs) ps ss/\ps.length<=i/\σ=spF ns bs g hs st a m (ss.getD ps.length (st,cB hs)) ps s7 s8 s9 s10) (cR (aP 4 (d:=.int m) rfl rfl) rfl (by omega)) ⟨[],[(st,cB hs)],_,_,_,_,Wov.nil (aGH o (mO hst).1),Aj _,rfl⟩ λi hi σ ⟨ps,ss,s7,s8,s9,s10,W,pl,hσ⟩=>by
  have hi':i<m:=by simpa using hi
  subst hσ
  obtain⟨ps',ss',t8,t9,t10,W',pl',e⟩:=aAA (g:=g) n l4 o hn (a:=a) (m:=m) (i:=i) ha (by omega) W pl s8 s9 s10
  refine⟨spF ns bs g hs st a m (ss.getD ps.length (st,cB hs)) ps (.sh false (aF i)) s8 s9 s10,_,?_,e,ps',ss',_,_,_,_,W',pl',rfl⟩
  rw[A5,B0,eY];rfl
 exact⟨ps,ss,W,by simpa using pl,aG (F:=f51) rfl rfl (v:=⟨.lst (ps.map aK),true,false,[]⟩) (cs k1 (cs (σ':=spF ns bs g hs st a m (st,cB hs) [] .x .x .x .x) rfl (cs ef (rC rfl))))⟩
inductive Px where
 | s (x:Sm)|c (x:Cn)
def Px.d:Px->D
 | .s x=>x.d
 | .c x=>x.d
def Px.sz:Px->Nat
 | .s x=>x.sz
 | .c x=>x.sz
def Px.word:Px->Str
 | .s (.num _) => "number"
 | .s (.box _) => "box"
 | .s (.aft _) => "after"
 | .s (.two p _ _)=>aAn p
 | .c .yes => "yes"
 | .c (.cmp i _ _)=>oM i
 | .c (.nt _) => "not"
 | .c (.two p _ _)=>kP p
def Px.items:Px->List (Int ⊕ Px)
 | .s (.num k)=>[.inl k]
 | .s (.box k)=>[.inl k]
 | .s (.aft k)=>[.inl k]
 | .s (.two _ a b)=>[.inr (.s a),.inr (.s b)]
 | .c .yes=>[]
 | .c (.cmp _ a b)=>[.inr (.s a),.inr (.s b)]
 | .c (.nt x)=>[.inr (.c x)]
 | .c (.two _ a b)=>[.inr (.c a),.inr (.c b)]
def itD:Int ⊕ Px->D
 | .inl k=>.int k
 | .inr p=>p.d
theorem Px.noL:∀p:Px,Hp.noL p.d=true
 | .s x=>x.noL
 | .c x=>x.noL
theorem aJE:∀t,noL (itD t)=true
 | .inl _=>rfl
 | .inr p=>p.noL
theorem Px.d_eq:∀p:Px,p.d=.tup (.str p.word::p.items.map itD)
 | .s (.num _)=>rfl
 | .s (.box _)=>rfl
 | .s (.aft _)=>rfl
 | .s (.two _ _ _)=>rfl
 | .c .yes=>rfl
 | .c (.cmp _ _ _)=>rfl
 | .c (.nt _)=>rfl
 | .c (.two _ _ _)=>rfl
theorem vR:∀(p q:Px),Sum.inr q∈p.items->q.sz+1<=p.sz:=λp q h=>by
 cases p with
 | s x=>cases x with
  | two t a b=>
   simp only[Px.items,An,Sum.inr.injEq,Be,or_false] at h
   rcases h with rfl|rfl <;> simp only[Px.sz,Sm.sz] <;> omega
  | num _=>simp[Px.items] at h
  | box _=>simp[Px.items] at h
  | aft _=>simp[Px.items] at h
 | c x=>cases x with
  | yes=>simp[Px.items] at h
  | cmp t a b=>
   simp only[Px.items,An,Sum.inr.injEq,Be,or_false] at h
   rcases h with rfl|rfl <;> simp only[Px.sz,Cn.sz] <;> omega
  | nt y=>
   simp only[Px.items,An,Sum.inr.injEq,Be,or_false] at h
   subst h
   simp only[Px.sz,Cn.sz];omega
  | two t a b=>
   simp only[Px.items,An,Sum.inr.injEq,Be,or_false] at h
   rcases h with rfl|rfl <;> simp only[Px.sz,Cn.sz] <;> omega
theorem Px.pos:∀p:Px,1<=p.sz
 | .s x=>x.sz_pos
 | .c x=>x.sz_pos
def rdS:Sm->List Nat
 | .box k=>[k]
 | .two _ a b=>rdS a++rdS b
 | _=>[]
def rdC:Cn->List Nat
 | .yes=>[]
 | .cmp _ a b=>rdS a++rdS b
 | .nt c=>rdC c
 | .two _ a b=>rdC a++rdC b
def Px.rd:Px->List Nat
 | .s x=>rdS x
 | .c x=>rdC x
def rdT:Int ⊕ Px->List Nat
 | .inl _=>[]
 | .inr p=>p.rd
def Px.bx:Px->Option Nat
 | .s (.box k)=>some k
 | _=>none
theorem aMn:∀i,(oM i == "box")=false:=by decide +kernel
theorem aMo:∀i,(kP i == "box")=false:=by decide +kernel
theorem aBy:∀p:Px,(p.word == "box")=p.bx.isSome
 | .s (.num _)=>by show(("number" : Str) == "box")=false;decide +kernel
 | .s (.box _)=>by show(("box" : Str) == "box")=true;decide +kernel
 | .s (.aft _)=>by show(("after" : Str) == "box")=false;decide +kernel
 | .s (.two p _ _)=>aMc p
 | .c .yes=>by show(("yes" : Str) == "box")=false;decide +kernel
 | .c (.cmp i _ _)=>aMn i
 | .c (.nt _)=>by show(("not" : Str) == "box")=false;decide +kernel
 | .c (.two p _ _)=>aMo p
theorem aBz{p:Px}{k:Nat}(h:p.bx=some k):p=.s (.box k):=by
 cases p with
 | s x=>cases x <;> cases h;rfl
 | c x=>cases h
theorem aEZ{p:Px}(h:p.bx=none):p.rd=(p.items.map rdT).flatten:=by
 cases p with
 | s x=>cases x with
  | box k=>cases h
  | num _=>rfl
  | aft _=>rfl
  | two _ a b=>simp[Px.rd,Px.items,rdT,rdS]
 | c x=>cases x with
  | yes=>rfl
  | cmp _ a b=>simp[Px.rd,Px.items,rdT,rdC]
  | nt y=>simp[Px.rd,Px.items,rdT,rdC]
  | two _ a b=>simp[Px.rd,Px.items,rdT,rdC]
def prS:Sm->List Px
 | .two p a b=>.s (.two p a b)::(prS a++prS b)
 | x=>[.s x]
def prC:Cn->List Px
 | .yes=>[.c .yes]
 | .cmp i a b=>.c (.cmp i a b)::(prS a++prS b)
 | .nt x=>.c (.nt x)::prC x
 | .two p a b=>.c (.two p a b)::(prC a++prC b)
def Px.pr:Px->List Px
 | .s x=>prS x
 | .c x=>prC x
def prT:Int ⊕ Px->List Px
 | .inl _=>[]
 | .inr p=>p.pr
theorem aFa(p:Px):p.pr=p::(p.items.map prT).flatten:=by
 cases p with
 | s x=>cases x with
  | box k=>rfl
  | num _=>rfl
  | aft _=>rfl
  | two _ a b=>simp[Px.pr,Px.items,prT,prS]
 | c x=>cases x with
  | yes=>rfl
  | cmp _ a b=>simp[Px.pr,Px.items,prT,prC]
  | nt y=>simp[Px.pr,Px.items,prT,prC]
  | two _ a b=>simp[Px.pr,Px.items,prT,prC]
theorem rJ:∀x:Sm,(prS x).filterMap Px.bx=rdS x
 | .num _=>rfl
 | .box _=>rfl
 | .aft _=>rfl
 | .two p a b=>by
  show(List.filterMap Px.bx (.s (.two p a b)::(prS a++prS b)))=_
  rw[Cz rfl,Dr,rJ a,rJ b];rfl
theorem vS:∀x:Cn,(prC x).filterMap Px.bx=rdC x
 | .yes=>rfl
 | .cmp i a b=>by
  show(List.filterMap Px.bx (.c (.cmp i a b)::(prS a++prS b)))=_
  rw[Cz rfl,Dr,rJ a,rJ b];rfl
 | .nt x=>by
  show(List.filterMap Px.bx (.c (.nt x)::prC x))=_
  rw[Cz rfl,vS x];rfl
 | .two p a b=>by
  show(List.filterMap Px.bx (.c (.two p a b)::(prC a++prC b)))=_
  rw[Cz rfl,Dr,vS a,vS b];rfl
theorem aHl:∀p:Px,p.pr.filterMap Px.bx=p.rd
 | .s x=>rJ x
 | .c x=>vS x
theorem mR:∀x:Sm,(prS x).length=x.sz
 | .num _=>rfl
 | .box _=>rfl
 | .aft _=>rfl
 | .two p a b=>by
  show(prS a++prS b).length+1=1+a.sz+b.sz
  rw[lA,mR a,mR b];omega
theorem pE:∀x:Cn,(prC x).length=x.sz
 | .yes=>rfl
 | .cmp i a b=>by
  show(prS a++prS b).length+1=1+a.sz+b.sz
  rw[lA,mR a,mR b];omega
 | .nt x=>by
  show(prC x).length+1=1+x.sz
  rw[pE x];omega
 | .two p a b=>by
  show(prC a++prC b).length+1=1+a.sz+b.sz
  rw[lA,pE a,pE b];omega
theorem aAB:∀p:Px,p.pr.length=p.sz
 | .s x=>mR x
 | .c x=>pE x
theorem vT(p:Px):p.rd.length<=p.sz:=by rw[<-aHl,<-aAB];exact List.length_filterMap_le _ _
theorem lL{m:Nat}:∀x:Sm,x.wf m true->∀k∈rdS x,k<m
 | .num _,_,_,h=>by cases h
 | .box j,w,k,h=>by rw[Av.mp h];exact w
 | .aft _,_,_,h=>by cases h
 | .two _ a b,w,k,h=>by
  rcases Bs.mp h with z|z
  . exact lL a w.1 k z
  . exact lL b w.2 k z
theorem rK{m:Nat}:∀x:Cn,x.wf m true->∀k∈rdC x,k<m
 | .yes,_,_,h=>by cases h
 | .cmp _ a b,w,k,h=>by
  rcases Bs.mp h with z|z
  . exact lL a w.1 k z
  . exact lL b w.2 k z
 | .nt x,w,k,h=>rK x w k h
 | .two _ a b,w,k,h=>by
  rcases Bs.mp h with z|z
  . exact rK a w.1 k z
  . exact rK b w.2 k z
section
variable {P:Pg} {cl:Caller} {σ:Sg}
theorem rL{p:Px}{i:Nat}(h:σ[i]? = some (.sh true p.d)):walk P cl σ (.seq (.sli (.v i) (.k (.c (.int 1)) .z) .z))=.ok (p.items.map (λt=>Vl.cl (itD t)),[]):=by
 have nl:noLs (.str p.word::p.items.map itD)=true:=by
  have:=p.noL
  rw[p.d_eq] at this
  exact this
 have v:ev P cl σ (.v i)=.ok (.cl (.tup (.str p.word::p.items.map itD))):=by
  rw[<-p.d_eq]
  exact aP i h p.noL
 have e:ev P cl σ (.sli (.v i) (.k (.c (.int 1)) .z) .z)=.ok (.cl (.tup (p.items.map itD))):=by
  have e1:evs P cl σ (.k (.c (.int 1)) .z)=.ok [.cl (.int ((1:Nat):Int))]:=rfl
  show(ev P cl σ (.v i) >>= λx=>evs P cl σ (.k (.c (.int 1)) .z) >>= λl=>evs P cl σ .z >>= λh=>_)=_
  rw[v,aA,e1,aA,bI,aA]
  show R.iff (aN ((1:Nat):Int)) (dQ (.cl (.tup (.str p.word::p.items.map itD))) (some ((1:Nat):Int)) none)=_
  rw[fG (by decide),aJA nl,aAy]
  rfl
 rw[cE,e,aA]
 show R.ok (items _ (p.items.map itD),[])=_
 rw[cN aJE]
end
theorem aCJ:∀p:Px,p.items.length<=2
 | .s (.num _)=>by simp[Px.items]
 | .s (.box _)=>by simp[Px.items]
 | .s (.aft _)=>by simp[Px.items]
 | .s (.two _ _ _)=>by simp[Px.items]
 | .c .yes=>by simp[Px.items]
 | .c (.cmp _ _ _)=>by simp[Px.items]
 | .c (.nt _)=>by simp[Px.items]
 | .c (.two _ _ _)=>by simp[Px.items]
theorem fF{α β:Type}(f:α->List β)(l:List α){i:Nat}(h:i<l.length):((l.take (i+1)).map f).flatten=((l.take i).map f).flatten++f l[i]:=by
 rw[List.take_succ,Ad h,Ay,List.flatten_append]
 simp
theorem oV{p:Px}{α:Type}(f:Int ⊕ Px->List α)(hf:∀t∈p.items,(f t).length<=100):∀i,((p.items.take i).map f).flatten.length<=200:=λi=>by
 have h2:=aCJ p
 have:∀l:List (Int ⊕ Px),(∀t∈l,(f t).length<=100)->(l.map f).flatten.length<=100*l.length:=λl=>by
  induction l with
  | nil=>intro _;exact Aj _
  | cons t l ih=>
   intro h
   rw[mC,Cc,lA,lC]
   have:=ih λx hx=>h x (Ag _ hx)
   have:=h t Al
   omega
 have h1:=this (p.items.take i) λt ht=>hf t (List.mem_of_mem_take ht)
 have:(p.items.take i).length<=2:=by rw[A2];omega
 omega
theorem nT:∀(N:Nat) (p:Px),p.sz<=N->p.sz<=50->∀n,call pg (n+N) 52 [p.d]=.ok (.lst (p.rd.map aF),true,false)
 | 0,p,h,_,_=>absurd h (by have:=p.pos;omega)
 | N+1,p,h,h50,n=>by
  have v0:∀s1 s2,ev pg (call pg (n+N)) [.sh true p.d,s1,s2] (.idx (.v 0) (.c (.int 0)))=.ok (.cl (.str p.word)):=λs1 s2=>by
   refine bE (aP 0 rfl p.noL) (aC _) ?_
   rw[p.d_eq]
   exact fU _ _ rfl
  have t0:=dG (v0 .x .x) (aBy p)
  cases hb:p.bx with
  | some k=>
   have e:=aBz hb
   subst e
   exact aG (F:=f52) rfl rfl (v:=⟨.lst [aF k],true,false,[]⟩) (eG t0 (aS (dM (aD (bE (aP 0 rfl rfl) (aC (.int 1)) (fV _ _ _ rfl)) aY))))
  | none=>
   rw[hb] at t0
   let τ:Nat->Sl->Sg:=λi s2=>[.sh true p.d,.own false ((((p.items.take i).map rdT).flatten).map aF),s2]
   obtain⟨σ',ef,s2,rfl⟩:=dJ (P:=pg) (cl:=call pg (n+N)) (σ:=τ 0 .x) (t:=.n 2) (b:=match hdS (drp 2 f52.body) with|.for _ _ b=>b|_=>.z) (λi σ=>∃s2,σ=τ i s2) (rL (i:=0) rfl) ⟨_,rfl⟩ λi hi σ ⟨s2,hσ⟩=>by
    have hi':i<p.items.length:=by simpa using hi
    subst hσ
    have w2:ev pg (call pg (n+N)) (τ i (.sh false (itD p.items[i]))) (.v 2)=.ok (.cl (itD p.items[i])):=aJ 2 rfl
    have hm:=Ba hi'
    cases hq:p.items[i] with
    | inl k=>
     rw[hq] at w2
     refine⟨τ i (.sh false (itD p.items[i])),τ (i+1) (.sh false (itD p.items[i])),?_,?_,_,rfl⟩
     . rw[A5,eY];rfl
     . have:τ (i+1) (.sh false (itD p.items[i]))=τ i (.sh false (itD p.items[i])):=by
        show [_,_,_]=[_,_,_]
        rw[fF rdT p.items hi',hq]
        simp[rdT]
       rw[this,hq]
       exact cL (bV (fJ w2 rfl))
    | inr q=>
     rw[hq] at w2 hm
     have qs:=vR p q hm
     have ih:=nT N q (by omega) (by omega) n
     have fl:=oV (p:=p) rdT (λt ht=>by
      cases t with
      | inl _=>exact B5 _
      | inr q=>have:=vT q;have:=vR p q ht;show q.rd.length<=100;omega) i
     refine⟨τ i (.sh false (itD p.items[i])),τ (i+1) (.sh false (itD p.items[i])),?_,?_,_,rfl⟩
     . rw[A5,eY];rfl
     . rw[hq]
       refine cL (yB (fJ w2 (by show isI [.tTuple] pg q.d=some true;rw[q.d_eq];rfl)) (cL ?_))
       have e:=bL (i:=1) (fA (o:=.Add) (bH (P:=pg) (cl:=call pg (n+N)) (σ:=τ i (.sh false (itD (.inr q)))) 1 rfl) (cU w2 ih) (rZ rfl rfl (bP cM _) (bP cM _) (by
        rw[lM,lM]
        have:=vT q
        unfold lim
        omega)))
       refine e.trans ?_
       show O.next [_,_,_]=O.next [_,_,_]
       rw[fF rdT p.items hi',hq,Ay]
       rfl
   have hfin:((p.items.take (p.items.map λt=>Vl.cl (itD t)).length).map rdT).flatten=p.rd:=by
    rw[lM,B8,aEZ hb]
   refine aG (F:=f52) rfl rfl (v:=⟨.lst (p.rd.map aF),true,false,[]⟩) (cs (bV t0) (cs (σ':=τ 0 .x) rfl (cs ef (rC ?_))))
   show O.ret ⟨.lst ((((p.items.take (p.items.map λt=>Vl.cl (itD t)).length).map rdT).flatten).map aF),true,false,[]⟩=_
   rw[hfin]
section
variable {P:Pg} {cl:Caller} {σ:Sg}
theorem aHm{i:Nat}{e:E}{ds ds' r:List D}(h:ev P cl σ e=.ok ⟨.lst ds',true,false,[]⟩)(n:noLs ds'=true)(hi:σ[i]? = some (.own false ds))(hl:r.length<=lim)(he:r=ds++ds'):ex P cl σ (.ext i e)=.next (σ.set i (.own false r)):=by
 subst he
 have s:pR (⟨.lst ds',true,false,[]⟩:Vl)=some (.cl .non,ds'):=by
  show some (Vl.mk .non false (false&&!noLs ds') (if noLs ds'=true then [] else []),ds')=_
  rw[n];rfl
 rw[aEy,h,bJ,s]
 show put σ i (.cl .non) (λds=>some (ds++ds'))=_
 unfold put lR
 rw[hZ,cP,hi]
 show(if (ds++ds').length<=lim then O.next _ else .bad)=_
 rw[if_pos hl]
 rfl
theorem aAC{k:Nat}{caps al:List Nat}{T:T}{it:It}{c elt:E}{α:Type}{ts:List α}(f:α->Vl)(g:α->D)(p:α->Bool)(ng:∀t,noL (g t)=true)(hw:walk P cl σ it=.ok (ts.map f,al))(hl:ts.length<=lim)
 (hb:∀t∈ts,∃σ1,cI (List.replicate k .x++caps.map λi=>((freeze σ al)[i]?).getD .x) (f t) T=.ok σ1/\tst P cl σ1 c=.ok (p t)/\(p t=true->ev P cl σ1 elt=.ok (.cl (g t)))):ev P cl σ (.comp k caps T it (.k c .z) elt)=.ok ⟨.lst ((ts.filter p).map g),true,false,[]⟩:=by
 rw[oT,hw,aA,mI (f:=f) (g:=g) (p:=p) λt ht=>by
  obtain⟨σ1,e1,e2,e3⟩:=hb t ht
  show(cI _ (f t) T >>= λσ1=>_)=_
  rw[e1]
  show(tsts P cl σ1 (.k c .z) >>= λk=>if k then (ev P cl σ1 elt >>= λy=>R.ok (some y)) else R.ok none)=_
  rw[tH,e2,aA]
  cases hp:p t with
  | false=>rfl
  | true=>
   show(ev P cl σ1 elt >>= λy=>R.ok (some y))=_
   rw[e3 hp]
   rfl]
 show R.iff (decide (((ts.filter p).map λt=>Vl.cl (g t)).length<=lim)) (R.ok (fQ k caps al _))=_
 rw[vF ng,Am (by rw[lM];exact A4 (Cv _ _) hl)]
 rfl
end
theorem tQ:∀(N:Nat) (p:Px),p.sz<=N->p.sz<=50->∀n,call pg (n+N) 11 [p.d]=.ok (.lst (p.pr.map Px.d),true,false)
 | 0,p,h,_,_=>absurd h (by have:=p.pos;omega)
 | N+1,p,h,h50,n=>by
  let τ:Nat->Sl->Sg:=λi s2=>[.sh true p.d,.own false ((p::((p.items.take i).map prT).flatten).map Px.d),s2]
  obtain⟨σ',ef,s2,rfl⟩:=dJ (P:=pg) (cl:=call pg (n+N)) (σ:=τ 0 .x) (t:=.n 2) (b:=match hdS (drp 1 f11.body) with|.for _ _ b=>b|_=>.z) (λi σ=>∃s2,σ=τ i s2) (rL (i:=0) rfl) ⟨_,rfl⟩ λi hi σ ⟨s2,hσ⟩=>by
   have hi':i<p.items.length:=by simpa using hi
   subst hσ
   have w2:ev pg (call pg (n+N)) (τ i (.sh false (itD p.items[i]))) (.v 2)=.ok (.cl (itD p.items[i])):=aJ 2 rfl
   have hm:=Ba hi'
   cases hq:p.items[i] with
   | inl k=>
    rw[hq] at w2
    refine⟨τ i (.sh false (itD p.items[i])),τ (i+1) (.sh false (itD p.items[i])),?_,?_,_,rfl⟩
    . rw[A5,eY];rfl
    . have:τ (i+1) (.sh false (itD p.items[i]))=τ i (.sh false (itD p.items[i])):=by
       show [_,_,_]=[_,_,_]
       rw[fF prT p.items hi',hq]
       simp[prT]
      rw[this,hq]
      exact cL (bV (fJ w2 rfl))
   | inr q=>
    rw[hq] at w2 hm
    have qs:=vR p q hm
    have ih:=tQ N q (by omega) (by omega) n
    have fl:=oV (p:=p) prT (λt ht=>by
     cases t with
     | inl _=>exact B5 _
     | inr q=>have:=aAB q;have:=vR p q ht;show q.pr.length<=100;omega) (i+1)
    refine⟨τ i (.sh false (itD p.items[i])),τ (i+1) (.sh false (itD p.items[i])),?_,?_,_,rfl⟩
    . rw[A5,eY];rfl
    . rw[hq]
      exact cL (yB (fJ w2 (by show isI [.tTuple] pg q.d=some true;rw[q.d_eq];rfl)) (cL (aHm (cU w2 ih) (bP Px.noL _) rfl (by
       rw[lM,lC]
       unfold lim
       omega) (by rw[fF prT p.items hi',hq,<-Ay];rfl))))
  have hfin:p::((p.items.take (p.items.map λt=>Vl.cl (itD t)).length).map prT).flatten=p.pr:=by
   rw[lM,B8,<-aFa]
  refine aG (F:=f11) rfl rfl (v:=⟨.lst (p.pr.map Px.d),true,false,[]⟩) (cs (σ':=τ 0 .x) (bL (dM (aD (aP 0 rfl p.noL) aY))) (cs ef (rC ?_)))
  show O.ret ⟨.lst ((p::((p.items.take (p.items.map λt=>Vl.cl (itD t)).length).map prT).flatten).map Px.d),true,false,[]⟩=_
  rw[hfin]
abbrev cS(ks:List Nat):D:=.lst (ks.map aF)
theorem tR:∀{ks:List Nat},(∀k∈ks,k<4)->pQ (ks.map aF)=some ks
 | [],_=>rfl
 | k::ks,h=>by
  have h1:=h k Al
  have ih:=tR (ks:=ks) λj hj=>h j (Ag _ hj)
  show(if 0<=(k:Int)/\(k:Int)<=3 then (match pQ (ks.map aF) with|some r=>some ((k:Int).toNat::r)|none=>none) else none)=_
  rw[if_pos (by omega),ih,Ce]
theorem mS{ks:List Nat}(h:∀k∈ks,k<4)(k:Nat):k∈eB ks↔k∈ks:=by
 unfold eB
 rw[C9,Cm,A1]
 exact⟨λz=>z.2,λz=>⟨h k z,z⟩⟩
theorem aBA{ks:List Nat}(k:Nat)(h:k∈eB ks):k<4:=Cm.mp (C9.mp h).1
theorem rM(ks:List Nat):(eB ks).length<=4:=A4 (Cv _ _) (by decide)
theorem aFb{P:Pg}{cl:Caller}{σ:Sg}{a:E}{v:Vl}{ks:List Nat}(h:ev P cl σ a=.ok v)(hv:v.d=cS ks)(hk:∀k∈ks,k<4):ev P cl σ (.sset a)=.ok ⟨cS (eB ks),true,false,[]⟩:=by
 show(ev P cl σ a >>= λx=>_)=_
 rw[h,aA]
 show(match v.d with|.lst ds=>(match pQ ds with|some ns=>R.ok (⟨.lst ((eB ns).map λ(k:Nat)=>.int (k:Int)),true,false,[]⟩:Vl)|none=>.bad)|_=>.bad)=_
 rw[hv]
 show(match pQ (ks.map aF) with|some ns=>R.ok (⟨.lst ((eB ns).map λ(k:Nat)=>.int (k:Int)),true,false,[]⟩:Vl)|none=>.bad)=_
 rw[tR hk]
def Px.wf(m:Nat):Px->Prop
 | .s x=>x.wf m true
 | .c x=>x.wf m true
theorem Px.rd_lt{m:Nat}:∀{p:Px},p.wf m->∀k∈p.rd,k<m
 | .s x,w=>lL x w
 | .c x,w=>rK x w
theorem yR{α β:Type}(f:α->Option β)(d:β):∀l:List α,((l.filter λa=>(f a).isSome).map λa=>(f a).getD d)=l.filterMap f
 | []=>rfl
 | a::l=>by
  have ih:=yR f d l
  cases h:f a with
  | none=>rw[Cz h,<-ih,List.filter_cons_of_neg (by rw[h];exact bN)]
  | some b=>rw[List.filterMap_cons_some h,<-ih,List.filter_cons_of_pos (by rw[h];rfl),mC,h];rfl
theorem tS(n:Nat){p:Px}{N m:Nat}(w:p.wf m)(hm:m<=4)(hN:p.sz<=N)(h50:p.sz<=50):call pg (n+N+1) 10 [p.d]=.ok (cS (eB p.rd),true,false):=by
 have hw:walk pg (call pg (n+N)) [.sh true p.d] (.seq (.call 11 (.k (.v 0) .z)))=.ok (p.pr.map (λq=>Vl.cl q.d),[]):=by
  rw[cE,cU (aP 0 rfl p.noL) (tQ N p hN h50 n),aA]
  show R.ok (items _ (p.pr.map Px.d),[])=_
  rw[cN Px.noL]
 have hc:ev pg (call pg (n+N)) [.sh true p.d] (.comp 1 [] (.n 0) (.seq (.call 11 (.k (.v 0) .z))) (.k (.cmp .Eq (.idx (.v 0) (.c (.int 0))) (.c (.str "box"))) .z) (.idx (.v 0) (.c (.int 1))))=.ok ⟨.lst ((p.pr.filter λq=>q.bx.isSome).map λq=>aF (q.bx.getD 0)),true,false,[]⟩:=by
  refine aAC (ts:=p.pr) (al:=[]) (λq=>Vl.cl q.d) (λq=>aF (q.bx.getD 0)) (λq=>q.bx.isSome) (λ_=>rfl) hw (by rw[aAB];unfold lim;omega) λq _=>⟨[.sh false q.d],eY _,?_,λh=>?_⟩
  . refine dG (bE (aJ 0 rfl) (aC _) ?_) (aBy q)
    rw[q.d_eq]
    exact fU _ _ rfl
  . obtain⟨k,hk⟩:=Option.isSome_iff_exists.mp h
    have e:=aBz hk
    subst e
    exact bE (aJ 0 rfl) (aC (.int 1)) (fV _ _ _ rfl)
 have e:((p.pr.filter λq=>q.bx.isSome).map λq=>aF (q.bx.getD 0))=p.rd.map aF:=by
  rw[<-aHl,<-yR Px.bx 0,A3];rfl
 rw[e] at hc
 exact aG (F:=f10) rfl rfl (v:=⟨cS (eB p.rd),true,false,[]⟩) (aS (aFb hc rfl λk hk=>Ar (Px.rd_lt w k hk) hm))
def Way.wr(w:Way):List Nat:=w.ps.map (·.1)
def Way.rdl(w:Way):List Nat:=rdC w.g++(w.ps.map λp=>rdS p.2).flatten
def Way.rds(w:Way):List Nat:=eB (eB (rdC w.g)++(w.ps.map λp=>eB (rdS p.2)).flatten)
theorem mT{α:Type}{f:α->List Nat}{l:List α}{k:Nat}:k∈(l.map f).flatten↔∃a∈l,k∈f a:=by
 rw[List.mem_flatten]
 constructor
 . rintro ⟨r,hr,hk⟩
   obtain⟨a,ha,rfl⟩:=A6.mp hr
   exact⟨a,ha,hk⟩
 . rintro ⟨a,ha,hk⟩
   exact⟨_,A6.mpr ⟨a,ha,rfl⟩,hk⟩
variable {m:Nat}
theorem aHn(hm:m<=4){w:Way}(o:cX m w):∀k∈eB (rdC w.g)++(w.ps.map λp=>eB (rdS p.2)).flatten,k<4:=λk hk=>by
 rcases Bs.mp hk with z|z
 . exact aBA k z
 . obtain⟨p,_,hp⟩:=mT.mp z
   exact aBA k hp
theorem pF(hm:m<=4){w:Way}(o:cX m w)(k:Nat):k∈w.rds↔k∈w.rdl:=by
 unfold Way.rds Way.rdl
 rw[mS (aHn hm o),Bs,Bs,mS λk h=>Ar (rK _ o.g k h) hm,mT,mT]
 refine or_congr Iff.rfl ⟨λ⟨p,hp,h⟩=>⟨p,hp,?_⟩,λ⟨p,hp,h⟩=>⟨p,hp,?_⟩⟩
 . exact(mS (λk h=>Ar (lL _ (o.ps p hp).wf k h) hm) k).mp h
 . exact(mS (λk h=>Ar (lL _ (o.ps p hp).wf k h) hm) k).mpr h
theorem aFc:∀{ps:List (Nat×Sm)} {a:Nat},Up ps->(∀p∈ps,a<=p.1/\p.1<m)->a<=m->ps.length+a<=m
 | [],a,_,_,h=>by simpa using h
 | p::ps,a,u,h,_=>by
  have hp:=h p Al
  have u':=C5.mp u
  have:=aFc (ps:=ps) (a:=p.1+1) u'.2 (λq hq=>⟨u'.1 q hq,(h q (Ag _ hq)).2⟩) hp.2
  rw[lC]
  omega
theorem nU{w:Way}(o:cX m w):w.ps.length<=m:=by
 have:=aFc (a:=0) o.up (λp hp=>⟨B5 _,(o.ps p hp).box⟩) (B5 _)
 omega
theorem rN{α:Type}{f:α->List Nat}{b:Nat}:∀{l:List α},(∀a∈l,(f a).length<=b)->(l.map f).flatten.length<=b*l.length
 | [],_=>Aj _
 | a::l,h=>by
  have:=rN (l:=l) λx hx=>h x (Ag _ hx)
  have:=h a Al
  rw[mC,Cc,lA,lC,Nat.mul_add,Nat.mul_one]
  omega
section
variable {P:Pg} {cl:Caller} {σ:Sg} {w:Way}
theorem w_g{e:E}(h:ev P cl σ e=.ok (.cl w.d)):ev P cl σ (.idx e (.c (.int 0)))=.ok (.cl w.g.d):=bE h (aC _) (fU _ _ w.g.noL)
theorem aJF{e:E}(h:ev P cl σ e=.ok (.cl w.d)):walk P cl σ (.seq (.idx e (.c (.int 1))))=.ok (w.ps.map (λp=>Vl.cl (dL p)),[]):=by
 have hp:noL (.tup (w.ps.map dL))=true:=fY w.ps
 rw[cE,bE h (aC _) (fV _ _ _ hp),aA]
 show R.ok (items _ (w.ps.map dL),[])=_
 rw[lJ]
theorem aMp{e:E}(h:ev P cl σ e=.ok (.cl w.d))(hm:m<=4)(o:cX m w):ev P cl σ (.comp 2 [] (.t [0,1]) (.seq (.idx e (.c (.int 1)))) .z (.v 0))=.ok ⟨cS w.wr,true,false,[]⟩:=by
 have:=gF (k:=2) (caps:=[]) (T:=.t [0,1]) (elt:=.v 0) (ts:=w.ps) (al:=[]) (λp=>Vl.cl (dL p)) (λp=>aF p.1) (λ_=>rfl) (aJF h) (by have:=nU o;unfold lim;omega) λp _=>⟨[.sh false (aF p.1),.sh false p.2.d],tK _ rfl p.2.noL,aJ 0 rfl⟩
 rw[this]
 unfold Way.wr
 rw[cS,A3]
 rfl
end
theorem aAD(n:Nat)(hm:m<=4){w:Way}(o:cX m w):call pg (n+1) 13 [w.d]=.ok (cS w.wr,true,false):=
 aG (F:=f13) rfl rfl (v:=⟨cS w.wr,true,false,[]⟩) (aS (aMp (aP 0 rfl (eX w)) hm o))
theorem aCK(n:Nat)(hm:m<=4){w:Way}(o:cX m w):call pg (n+33) 12 [w.d]=.ok (cS w.rds,true,false):=by
 let τ:Nat->Sl->Sl->Sg:=λi s2 s3=>[.sh true w.d,.own false ((eB (rdC w.g)++((w.ps.take i).map λp=>eB (rdS p.2)).flatten).map aF),s2,s3]
 have pl:=nU o
 have v0:ev pg (call pg (n+32)) [.sh true w.d,.x,.x,.x] (.v 0)=.ok (.cl w.d):=aP 0 rfl (eX w)
 have k1:ex pg (call pg (n+32)) [.sh true w.d,.x,.x,.x] (hdS f12.body)=.next (τ 0 .x .x):=by
  have:=bL (i:=1) (cU (w_g v0) (tS n (p:=.c w.g) (N:=31) o.g hm o.gs (A4 o.gs (by decide))))
  refine this.trans ?_
  show O.next [_,_,_,_]=O.next [_,_,_,_]
  rw[List.take_zero,mN,List.flatten_nil,Ch]
  rfl
 obtain⟨σ',ef,s2,s3,rfl⟩:=dJ (P:=pg) (cl:=call pg (n+32)) (σ:=τ 0 .x .x) (t:=.t [2,3]) (b:=match hdS (drp 1 f12.body) with|.for _ _ b=>b|_=>.z) (λi σ=>∃s2 s3,σ=τ i s2 s3) (aJF (aP 0 rfl (eX w))) ⟨_,_,rfl⟩ λi hi σ ⟨s2,s3,hσ⟩=>by
  have hi':i<w.ps.length:=by simpa using hi
  subst hσ
  have op:=o.ps _ (Ba hi')
  have ff:=rN (f:=λp:Nat×Sm=>eB (rdS p.2)) (b:=4) (l:=w.ps.take (i+1)) λ_ _=>rM _
  have:=rM (rdC w.g)
  have tl:(w.ps.take (i+1)).length<=4:=by rw[A2];omega
  refine⟨τ i (.sh false (aF w.ps[i].1)) (.sh false w.ps[i].2.d),τ (i+1) (.sh false (aF w.ps[i].1)) (.sh false w.ps[i].2.d),?_,cL (aHm (cU (aJ 3 rfl) (tS (n+28) (p:=.s w.ps[i].2) (N:=3) op.wf hm op.sz (A4 op.sz (by decide)))) (bP cM _) rfl (by
   rw[lM,lA]
   unfold lim
   omega) (by rw[fF (λp:Nat×Sm=>eB (rdS p.2)) w.ps hi',<-Ay,Cd];rfl)),_,_,rfl⟩
  rw[A5]
  exact tK _ rfl w.ps[i].2.noL
 refine aG (F:=f12) rfl rfl (v:=⟨cS w.rds,true,false,[]⟩) (cs k1 (cs ef (aS (aFb (bH 1 rfl) ?_ (aHn hm o)))))
 show D.lst (List.map aF (eB (rdC w.g)++((w.ps.take (w.ps.map λp=>Vl.cl (dL p)).length).map λp=>eB (rdS p.2)).flatten))=_
 rw[lM,B8]
def jS(hs:List (List (List Way)))(h p j:Nat)(w:Way):Prop:=∃hd ws,hs[h]? = some hd/\hd[p]? = some ws/\ws[j]? = some w
theorem jS.ok{hs:List (List (List Way))}{h p j:Nat}{w:Way}(a:jS hs h p j w)(o:fE m hs):cX m w:=by
 obtain⟨hd,ws,h1,h2,h3⟩:=a
 exact(((o.ok hd (mG h1)).ok ws (mG h2)).ok w (mG h3)).1
abbrev tkD(h p j:Nat):D:=.tup [aF h,aF p,aF j]
def iT(h:Nat)(w:Way):D:=.tup [aF h,cS w.wr,cS (w.rds++w.wr)]
section
variable {P:Pg} {cl:Caller} {σ:Sg} {h p j:Nat}
theorem aFd{e:E}(a:ev P cl σ e=.ok (.cl (tkD h p j))):ev P cl σ (.idx e (.c (.int 0)))=.ok (.cl (aF h)):=bE a (aC _) (fU _ _ rfl)
theorem aMq{e:E}(a:ev P cl σ e=.ok (.cl (tkD h p j))):ev P cl σ (.idx e (.c (.int 1)))=.ok (.cl (aF p)):=bE a (aC _) (fV _ _ _ rfl)
theorem aMr{e:E}(a:ev P cl σ e=.ok (.cl (tkD h p j))):ev P cl σ (.idx e (.c (.int 2)))=.ok (.cl (aF j)):=bE a (aC _) (aMi _ _ _ rfl)
end
variable {bs:List (Str×Int)} {g:Cn} {hs:List (List (List Way))}
theorem tU(n:Nat)(hb4:bs.length<=4)(o:fE bs.length hs){h p j:Nat}{w:Way}(a:jS hs h p j w):call pg (n+34) 40 [aQ bs g hs,tkD h p j]=.ok (iT h w,false,false):=by
 have wo:=a.ok o
 obtain⟨hd,ws,h1,h2,h3⟩:=a
 have pl:=nU wo
 let τ:Sl->Sg:=λs=>[.sh true (aQ bs g hs),.sh true (tkD h p j),s]
 have v1:∀s,ev pg (call pg (n+33)) (τ s) (.v 1)=.ok (.cl (tkD h p j)):=λs=>aP 1 rfl rfl
 have k1:ex pg (call pg (n+33)) (τ .x) (hdS f40.body)=.next (τ (.sh false w.d)):=aV (bE (yC (bE (aEX rfl) (aFd (v1 _)) (rF h1)) (aMq (v1 _)) (rG (n+32) hd h2) rfl rfl) (aMr (v1 _)) (by
  rw[yA (f:=Way.d) (v:=⟨eZ ws,false,true,[]⟩) rfl h3]
  exact congrArg R.ok (cC (eX w))))
 have v2:ev pg (call pg (n+33)) (τ (.sh false w.d)) (.v 2)=.ok (.cl w.d):=aJ 2 rfl
 have cw:=cU v2 (aAD (n+32) hb4 wo)
 have cr:=fA (o:=.Add) (cU v2 (aCK n hb4 wo)) cw (rZ rfl rfl (bP cM _) (bP cM _) (by
  have:=rM (eB (rdC w.g)++(w.ps.map λp=>eB (rdS p.2)).flatten)
  rw[lM,lM]
  unfold Way.rds Way.wr lim
  rw[lM]
  omega))
 have e:evs pg (call pg (n+33)) (τ (.sh false w.d)) (.k (.idx (.v 1) (.c (.int 0))) (.k (.call 13 (.k (.v 2) .z)) (.k (.op .Add (.call 12 (.k (.v 2) .z)) (.call 13 (.k (.v 2) .z))) .z)))=.ok [.cl (aF h),⟨cS w.wr,true,false,[]⟩,⟨.lst (w.rds.map aF++w.wr.map aF),true,false,[]⟩]:=by
  rw[aH,aFd (v1 _),aA,aH,cw,aA,aH,cr,aA,bI];rfl
 refine aG (F:=f40) rfl rfl (v:=.cl (iT h w)) (cs k1 (aS ?_))
 show ev pg (call pg (n+33)) (τ (.sh false w.d)) (.tup _)=_
 rw[qX,e,aA,<-Ay]
 rfl
theorem aFe(a b:Nat):((a:Int)==(b:Int))=(a==b):=by
 by_cases h:a=b
 . subst h;simp
 . rw[Bb.mpr h,Bb.mpr (by omega)]
theorem yS(k:Nat):∀ks:List Nat,pN (aF k) (ks.map aF)=some (decide (k∈ks))
 | []=>rfl
 | a::ks=>by
  have ih:=yS k ks
  show(match eqD (aF a) (aF k),pN (aF k) (ks.map aF) with|some a,some b=>some (a||b)|_,_=>none)=_
  rw[ih,gM,aFe]
  by_cases h:a=k
  . subst h;simp
  . rw[Bb.mpr h]
    show some (false||decide (k∈ks))=_
    rw[Bool.false_or]
    congr 1
    simp only[An,show ¬ k=a from λe=>h e.symm,false_or]
theorem aBB:∀ks:List Nat,noDics (ks.map aF)=true
 | []=>rfl
 | k::ks=>aBB ks
theorem vU(k:Nat)(ks:List Nat):cG .In (aF k) (cS ks)=some (decide (k∈ks)):=by
 show(if noDics (ks.map aF)=true then pN (aF k) (ks.map aF) else none)=_
 rw[if_pos (aBB ks),yS]
theorem tV{α:Type}(f:α->Bool):∀l:List α,cF (l.map λa=>D.bl (f a))=some (l.map f)
 | []=>rfl
 | a::l=>by
  show(match cF (l.map λa=>D.bl (f a)) with|some bs=>some (f a::bs)|none=>none)=_
  rw[tV f l];rfl
theorem yT(n:Nat){as cs:List Nat}(ha:as.length<=100):call pg (n+1) 42 [cS as,cS cs]=.ok (.bl (as.any λk=>decide (k∈cs)),false,false):=by
 have hc:ev pg (call pg n) [.sh true (cS as),.sh true (cS cs)] (.comp 1 [1] (.n 0) (.seq (.v 0)) .z (.cmp .In (.v 0) (.v 1)))=.ok ⟨.lst (as.map λk=>D.bl (decide (k∈cs))),true,false,[]⟩:=by
  refine gF (ts:=as) (al:=[]) (λk=>Vl.cl (aF k)) (λk=>D.bl (decide (k∈cs))) (λ_=>rfl) ?_ (by unfold lim;omega) λk _=>⟨[.sh false (aF k),.sh true (cS cs)],eY _,kO (aJ 0 rfl) (aM 1 rfl) (vU k cs)⟩
  rw[cE,aM 0 (ds:=as.map aF) rfl,aA]
  show R.ok (items _ (as.map aF),[])=_
  rw[cN cM]
 refine aG (F:=f42) rfl rfl (v:=.cl (.bl (as.any λk=>decide (k∈cs)))) (aS (eW hc ?_))
 show(match cF (as.map λk=>D.bl (decide (k∈cs))) with|some bs=>R.ok (Vl.cl (.bl (bs.any id)))|none=>.bad)=_
 rw[tV]
 show R.ok (Vl.cl (.bl ((as.map λk=>decide (k∈cs)).any id)))=_
 rw[List.any_map]
 rfl
def oO(h h':Nat)(w w':Way):Bool:=!(h==h')&&(!(w.wr.any λk=>decide (k∈w'.rds++w'.wr))&&!(w'.wr.any λk=>decide (k∈w.rds++w.wr)))
section
variable {P:Pg} {cl:Caller} {σ:Sg} {h:Nat} {w:Way}
theorem aJG{i:Nat}(a:σ[i]? = some (.sh true (iT h w))):ev P cl σ (.v i)=.ok ⟨iT h w,false,true,[]⟩:=by
 show bY σ i=_
 unfold bY
 rw[a]
 rfl
theorem aMs{i:Nat}(a:σ[i]? = some (.sh true (iT h w))):ev P cl σ (.idx (.v i) (.c (.int 0)))=.ok (.cl (aF h)):=bE (aJG a) (aC _) rfl
theorem aMt{i:Nat}(a:σ[i]? = some (.sh true (iT h w))):ev P cl σ (.idx (.v i) (.c (.int 1)))=.ok ⟨cS w.wr,false,true,[]⟩:=bE (aJG a) (aC _) rfl
theorem aMu{i:Nat}(a:σ[i]? = some (.sh true (iT h w))):ev P cl σ (.idx (.v i) (.c (.int 2)))=.ok ⟨cS (w.rds++w.wr),false,true,[]⟩:=bE (aJG a) (aC _) rfl
end
theorem aFf(a b:Nat):cG .NotEq (aF a) (aF b)=some (!(a==b)):=by rw[vE,gM,aFe];rfl
theorem aCL(n:Nat)(hm:m<=4){h h':Nat}{w w':Way}(o:cX m w)(o':cX m w'):call pg (n+2) 41 [iT h w,iT h' w']=.ok (.bl (oO h h' w w'),false,false):=by
 have l:∀{w:Way},cX m w->w.wr.length<=100:=λ{w} o=>by have:=nU o;unfold Way.wr;rw[lM];omega
 exact aG (F:=f41) rfl rfl (v:=.cl (.bl (oO h h' w w'))) (aS (aEC (kO (aMs rfl) (aMs rfl) (aFf h h')) (aEC (aJt (eI (aMt rfl) (aMu rfl) (yT n (l o)))) (aJt (eI (aMt rfl) (aMu rfl) (yT n (l o')))))))
theorem aFg(n:Nat)(hb4:bs.length<=4)(o:fE bs.length hs){h p j h' p' j':Nat}{w w':Way}(a:jS hs h p j w)(a':jS hs h' p' j' w'):call pg (n+35) 39 [aQ bs g hs,tkD h p j,tkD h' p' j']=.ok (.bl (oO h h' w w'),false,false):=
 aG (F:=f39) rfl rfl (v:=.cl (.bl (oO h h' w w'))) (aS (eI (eI (jR rfl) (aP 1 rfl rfl) (tU n hb4 o a)) (eI (jR rfl) (aP 2 rfl rfl) (tU n hb4 o a')) (aCL (n+32) hb4 (a.ok o) (a'.ok o))))
variable {m:Nat} {bs:List (Str×Int)} {g:Cn} {hs:List (List (List Way))}
def bO(w:Way):D:=.tup [cS w.rdl,cS w.wr]
theorem aBC{w:Way}(hm:m<=4)(o:cX m w):∀i,(rdC w.g++((w.ps.take i).map λp=>rdS p.2).flatten).length<=100:=λi=>by
 have pl:=nU o
 have h1:(rdC w.g).length<=31:=A4 (vT (.c w.g)) o.gs
 have ff:=rN (f:=λp:Nat×Sm=>rdS p.2) (b:=3) (l:=w.ps.take i) λp hp=>A4 (vT (.s p.2)) (o.ps p (List.mem_of_mem_take hp)).sz
 have tl:(w.ps.take i).length<=4:=by rw[A2];omega
 rw[lA]
 omega
theorem aJH{P:Pg}{cl:Caller}{σ:Sg}{h p j:Nat}{w:Way}(a:jS hs h p j w){i:Nat}{e:E}(hi:σ[i]? = some (.sh true (aQ bs g hs)))(he:ev P cl σ e=.ok (.cl (tkD h p j))):ev P cl σ (.idx (.idx (.idx (.idx (.v i) (.c (.int 2))) (.idx e (.c (.int 0)))) (.idx e (.c (.int 1)))) (.idx e (.c (.int 2))))=.ok (.cl w.d):=by
 obtain⟨hd,ws,h1,h2,h3⟩:=a
 refine bE (bE (bE (aEX hi) (aFd he) (rF h1)) (aMq he) (aBx h2)) (aMr he) ?_
 rw[yA (f:=Way.d) (v:=⟨eZ ws,false,true,[]⟩) rfl h3]
 exact congrArg R.ok (cC (eX w))
theorem rO(n:Nat)(hb4:bs.length<=4)(o:fE bs.length hs){h p j:Nat}{w:Way}(a:jS hs h p j w):call pg (n+32) 53 [aQ bs g hs,tkD h p j]=.ok (bO w,false,false):=by
 have wo:=a.ok o
 let τ:Nat->Sl->Sl->Sg:=λi s4 s5=>[.sh true (aQ bs g hs),.sh true (tkD h p j),.sh false w.d,.own false ((rdC w.g++((w.ps.take i).map λp=>rdS p.2).flatten).map aF),s4,s5]
 let ρ:Sl->Sl->Sg:=λs2 s3=>[.sh true (aQ bs g hs),.sh true (tkD h p j),s2,s3,.x,.x]
 have k1:ex pg (call pg (n+31)) (ρ .x .x) (hdS f53.body)=.next (ρ (.sh false w.d) .x):=aV (aJH a rfl (aP 1 rfl rfl))
 have k2:ex pg (call pg (n+31)) (ρ (.sh false w.d) .x) (hdS (drp 1 f53.body))=.next (τ 0 .x .x):=by
  have:=bL (i:=3) (cU (w_g (aJ (P:=pg) (cl:=call pg (n+31)) (σ:=ρ (.sh false w.d) .x) 2 rfl)) (nT 31 (.c w.g) wo.gs (A4 wo.gs (by decide)) n))
  refine this.trans ?_
  show O.next [_,_,_,_,_,_]=O.next [_,_,_,_,_,_]
  rw[List.take_zero,mN,List.flatten_nil,Ch]
  rfl
 obtain⟨σ',ef,s4,s5,rfl⟩:=dJ (P:=pg) (cl:=call pg (n+31)) (σ:=τ 0 .x .x) (t:=.t [4,5]) (b:=match hdS (drp 2 f53.body) with|.for _ _ b=>b|_=>.z) (λi σ=>∃s4 s5,σ=τ i s4 s5) (aJF (aJ 2 rfl)) ⟨_,_,rfl⟩ λi hi σ ⟨s4,s5,hσ⟩=>by
  have hi':i<w.ps.length:=by simpa using hi
  subst hσ
  have op:=wo.ps _ (Ba hi')
  have ll:=aBC hb4 wo (i+1)
  rw[fF (λp:Nat×Sm=>rdS p.2) w.ps hi',<-Cd,lA] at ll
  refine⟨τ i (.sh false (aF w.ps[i].1)) (.sh false w.ps[i].2.d),τ (i+1) (.sh false (aF w.ps[i].1)) (.sh false w.ps[i].2.d),?_,cL ?_,_,_,rfl⟩
  . rw[A5]
    exact tK _ rfl w.ps[i].2.noL
  . have:=bL (i:=3) (fA (o:=.Add) (bH (P:=pg) (cl:=call pg (n+31)) (σ:=τ i (.sh false (aF w.ps[i].1)) (.sh false w.ps[i].2.d)) 3 rfl) (cU (aJ 5 rfl) (nT 3 (.s w.ps[i].2) op.sz (A4 op.sz (by decide)) (n+28))) (rZ rfl rfl (bP cM _) (bP cM _) (by
     rw[lM,lM]
     show _+(rdS w.ps[i].2).length<=lim
     unfold lim
     omega)))
    refine this.trans ?_
    show O.next [_,_,_,_,_,_]=O.next [_,_,_,_,_,_]
    rw[fF (λp:Nat×Sm=>rdS p.2) w.ps hi',<-Cd,<-Ay]
    rfl
 have hfin:rdC w.g++((w.ps.take (w.ps.map λp=>Vl.cl (dL p)).length).map λp=>rdS p.2).flatten=w.rdl:=by
  rw[lM,B8];rfl
 let ω:Sg:=[.sh true (aQ bs g hs),.sh true (tkD h p j),.sh false w.d,.own false (w.rdl.map aF),s4,s5]
 have hω:τ (w.ps.map λp=>Vl.cl (dL p)).length s4 s5=ω:=by
  show [_,_,_,Sl.own false ((rdC w.g++((w.ps.take (w.ps.map λp=>Vl.cl (dL p)).length).map λp=>rdS p.2).flatten).map aF),_,_]=_
  rw[hfin]
 have e:evs pg (call pg (n+31)) ω (.k (.v 3) (.k (.comp 2 [] (.t [0,1]) (.seq (.idx (.v 2) (.c (.int 1)))) .z (.v 0)) .z))=.ok [⟨cS w.rdl,false,false,[3]⟩,⟨cS w.wr,true,false,[]⟩]:=by
  rw[aH,bH 3 (pa:=false) (ds:=w.rdl.map aF) rfl,aA,aH,aMp (w:=w) (aJ 2 rfl) hb4 wo,aA,bI];rfl
 have hr:ev pg (call pg (n+31)) ω (.tup (.k (.v 3) (.k (.comp 2 [] (.t [0,1]) (.seq (.idx (.v 2) (.c (.int 1)))) .z (.v 0)) .z)))=.ok ⟨bO w,false,false,[3]⟩:=by
  rw[qX,e,aA];rfl
 exact aG (F:=f53) rfl rfl (v:=⟨bO w,false,false,[3]⟩) (cs k1 (cs k2 (cs (ef.trans (congrArg O.next hω)) (aS hr))))
def aCM(w w':Way):List Nat:=(w.wr.filter λk=>decide (k∈w'.rdl++w'.wr))++(w'.wr.filter λk=>decide (k∈w.rdl))
theorem pG{as cs:List Nat}:(!(as.any λk=>decide (k∈cs)))=true↔∀k∈as,k∉cs:=by
 rw[D8,List.any_eq_false]
 simp
theorem aJI(hm:m<=4){w w':Way}(o:cX m w)(o':cX m w'):(!(w.wr.any λk=>decide (k∈w'.rds++w'.wr))&&!(w'.wr.any λk=>decide (k∈w.rds++w.wr)))=(aCM w w').isEmpty:=by
 rw[Dn,bA,pG,pG,List.isEmpty_iff]
 unfold aCM
 rw[List.append_eq_nil_iff,List.filter_eq_nil_iff,List.filter_eq_nil_iff]
 simp only[A1,Bs,pF hm o,pF hm o']
 constructor
 . rintro ⟨h1,h2⟩
   exact⟨h1,λk hk z=>h2 k hk (.inl z)⟩
 . rintro ⟨h1,h2⟩
   refine⟨h1,λk hk z=>?_⟩
   rcases z with z|z
   . exact h2 k hk z
   . exact h1 k z (.inr hk)
theorem aJJ(ks:List Nat):cG .Eq (cS ks) (.lst [])=some ks.isEmpty:=by
 cases ks <;> rfl
section
variable {P:Pg} {cl:Caller} {σ:Sg} {w:Way}
theorem aMv{i:Nat}(a:σ[i]? = some (.sh false (bO w))):ev P cl σ (.idx (.v i) (.c (.int 0)))=.ok (.cl (cS w.rdl)):=bE (aJ i a) (aC _) rfl
theorem aMw{i:Nat}(a:σ[i]? = some (.sh false (bO w))):ev P cl σ (.idx (.v i) (.c (.int 1)))=.ok (.cl (cS w.wr)):=bE (aJ i a) (aC _) rfl
theorem aMx{i:Nat}(a:σ[i]? = some (.sh false (bO w))):walk P cl σ (.seq (.idx (.v i) (.c (.int 1))))=.ok (w.wr.map (λk=>Vl.cl (aF k)),[]):=by
 rw[cE,aMw a,aA]
 show R.ok (items _ (w.wr.map aF),[])=_
 rw[cN cM]
end
theorem aFh{w:Way}(hm:m<=4)(o:cX m w):w.wr.length<=4:=by have:=nU o;unfold Way.wr;rw[lM];omega
theorem aCN(n:Nat)(hb4:bs.length<=4)(o:fE bs.length hs){h p j h' p' j':Nat}{w w':Way}(a:jS hs h p j w)(a':jS hs h' p' j' w'):call pg (n+33) 54 [aQ bs g hs,tkD h p j,tkD h' p' j']=.ok (.bl (oO h h' w w'),false,false):=by
 have wo:=a.ok o
 have wo':=a'.ok o
 let τ:Sl->Sl->Sl->Sg:=λs3 s4 s5=>[.sh true (aQ bs g hs),.sh true (tkD h p j),.sh true (tkD h' p' j'),s3,s4,s5]
 have l1:=aFh hb4 wo
 have l2:=aFh hb4 wo'
 have l3:=aBC hb4 wo' w'.ps.length
 rw[B8] at l3
 have hF:=Cv (λk=>decide (k∈w'.rdl++w'.wr)) w.wr
 have hF':=Cv (λk=>decide (k∈w.rdl)) w'.wr
 have k1:ex pg (call pg (n+32)) (τ .x .x .x) (hdS f54.body)=.next (τ (.sh false (bO w)) .x .x):=aV (eI (jR rfl) (aP 1 rfl rfl) (rO n hb4 o a))
 have k2:ex pg (call pg (n+32)) (τ (.sh false (bO w)) .x .x) (hdS (drp 1 f54.body))=.next (τ (.sh false (bO w)) (.sh false (bO w')) .x):=aV (eI (jR rfl) (aP 2 rfl rfl) (rO n hb4 o a'))
 have k3:ex pg (call pg (n+32)) (τ (.sh false (bO w)) (.sh false (bO w')) .x) (hdS (drp 2 f54.body))=.next (τ (.sh false (bO w)) (.sh false (bO w')) (.own false ((w.wr.filter λk=>decide (k∈w'.rdl++w'.wr)).map aF))):=by
  refine bL (aAC (ts:=w.wr) (al:=[]) (λk=>Vl.cl (aF k)) aF (λk=>decide (k∈w'.rdl++w'.wr)) (λ_=>rfl) (aMx rfl) (by unfold lim;omega) λk _=>⟨[.sh false (aF k),.sh false (bO w')],eY _,cA (aJ 0 rfl) (fA (o:=.Add) (aMv rfl) (aMw rfl) (rZ rfl rfl (bP cM _) (bP cM _) (by
   rw[lM,lM]
   show(rdC w'.g++_).length+_<=lim
   unfold lim
   omega))) ?_,λ_=>aJ 0 rfl⟩)
  rw[<-Ay]
  exact vU k _
 have k4:ex pg (call pg (n+32)) (τ (.sh false (bO w)) (.sh false (bO w')) (.own false ((w.wr.filter λk=>decide (k∈w'.rdl++w'.wr)).map aF))) (hdS (drp 3 f54.body))=.next (τ (.sh false (bO w)) (.sh false (bO w')) (.own false ((aCM w w').map aF))):=by
  have:=bL (i:=5) (fA (o:=.Add) (bH (P:=pg) (cl:=call pg (n+32)) (σ:=τ (.sh false (bO w)) (.sh false (bO w')) (.own false ((w.wr.filter λk=>decide (k∈w'.rdl++w'.wr)).map aF))) 5 rfl) (aAC (k:=1) (caps:=[3]) (T:=.n 0) (c:=.cmp .In (.v 0) (.idx (.v 1) (.c (.int 0)))) (elt:=.v 0) (ts:=w'.wr) (al:=[]) (λk=>Vl.cl (aF k)) aF (λk=>decide (k∈w.rdl)) (λ_=>rfl) (aMx (i:=4) rfl) (by unfold lim;omega) λk _=>⟨[.sh false (aF k),.sh false (bO w)],eY _,cA (aJ 0 rfl) (aMv rfl) (vU k _),λ_=>aJ 0 rfl⟩) (rZ rfl rfl (bP cM _) (bP cM _) (by
   rw[lM,lM]
   unfold lim
   omega)))
  refine this.trans ?_
  rw[<-Ay]
  rfl
 have e5:=kO (bH (P:=pg) (cl:=call pg (n+32)) (σ:=τ (.sh false (bO w)) (.sh false (bO w')) (.own false ((aCM w w').map aF))) 5 rfl) (dM aY) (aJJ (aCM w w'))
 refine aG (F:=f54) rfl rfl (v:=.cl (.bl (oO h h' w w'))) (cs k1 (cs k2 (cs k3 (cs k4 (aS ?_)))))
 have:=aEC (kO (aFd (aP (P:=pg) (cl:=call pg (n+32)) (σ:=τ (.sh false (bO w)) (.sh false (bO w')) (.own false ((aCM w w').map aF))) 1 rfl rfl)) (aFd (aP 2 rfl rfl)) (aFf h h')) e5
 refine this.trans ?_
 unfold oO
 rw[aJI hb4 wo wo']
theorem rP{m:Nat}{a a' b b':List Int}:∀{s:Sm},s.wf m true->(∀k∈rdS s,a.getD k 0=b.getD k 0)->s.val a a'=s.val b b'
 | .num _,_,_=>rfl
 | .box j,_,h=>h j (Av.mpr rfl)
 | .aft _,w,_=>by cases w.2
 | .two p x y,w,h=>by
  have e1:=rP (a':=a') (b':=b') (s:=x) w.1 λk hk=>h k (Bg _ hk)
  have e2:=rP (a':=a') (b':=b') (s:=y) w.2 λk hk=>h k (Aq _ hk)
  show(if p=true then _ else _)=(if p=true then _ else _)
  rw[e1,e2]
theorem mU{m:Nat}{a a' b b':List Int}:∀{s:Cn},s.wf m true->(∀k∈rdC s,a.getD k 0=b.getD k 0)->s.hold a a'=s.hold b b'
 | .yes,_,_=>rfl
 | .cmp i x y,w,h=>by
  have e1:=rP (a':=a') (b':=b') (s:=x) w.1 λk hk=>h k (Bg _ hk)
  have e2:=rP (a':=a') (b':=b') (s:=y) w.2 λk hk=>h k (Aq _ hk)
  show(if i=true then _ else _)=(if i=true then _ else _)
  rw[e1,e2]
 | .nt x,w,h=>by
  show(!x.hold a a')=(!x.hold b b')
  rw[mU (s:=x) w h]
 | .two p x y,w,h=>by
  have e1:=mU (a':=a') (b':=b') (s:=x) w.1 λk hk=>h k (Bg _ hk)
  have e2:=mU (a':=a') (b':=b') (s:=y) w.2 λk hk=>h k (Aq _ hk)
  show(if p=true then _ else _)=(if p=true then _ else _)
  rw[e1,e2]
def apl:List (Nat×Int)->List Int->List Int
 | [],acc=>acc
 | p::ps,acc=>apl ps (acc.set p.1 p.2)
def vls(st:List Int)(ps:List (Nat×Sm)):List (Nat×Int):=ps.map λp=>(p.1,p.2.val st st)
def okV(bs:List (Str×Int))(vs:List (Nat×Int)):Prop:=∀v∈vs,0<=v.2/\v.2<=fW bs v.1
theorem yU{bs:List (Str×Int)}{st:List Int}:∀{ps:List (Nat×Sm)} {acc r:List Int},putF bs st acc ps=some r↔okV bs (vls st ps)/\r=apl (vls st ps) acc
 | [],acc,r=>⟨λh=>⟨λ_ z=>absurd z Be,(Ak h).symm⟩,λh=>congrArg some h.2.symm⟩
 | p::ps,acc,r=>by
  show(if 0<=p.2.val st st/\p.2.val st st<=fW bs p.1 then putF bs st (acc.set p.1 (p.2.val st st)) ps else none)=some r↔_
  have ok:okV bs (vls st (p::ps))↔(0<=p.2.val st st/\p.2.val st st<=fW bs p.1)/\okV bs (vls st ps):=⟨λh=>⟨h _ Al,λv hv=>h v (Ag _ hv)⟩,λh v hv=>by
   rcases An.mp hv with rfl|z
   . exact h.1
   . exact h.2 v z⟩
  rw[ok]
  by_cases hc:0<=p.2.val st st/\p.2.val st st<=fW bs p.1
  . rw[if_pos hc,yU]
    exact⟨λh=>⟨⟨hc,h.1⟩,h.2⟩,λh=>⟨h.1.2,h.2⟩⟩
  . rw[if_neg hc]
    exact⟨λh=>(by cases h),λh=>absurd h.1.1 hc⟩
theorem mV{bs:List (Str×Int)}{w:Way}{st r:List Int}:behF bs w st=some r↔w.g.hold st st=true/\okV bs (vls st w.ps)/\r=apl (vls st w.ps) st:=by
 unfold behF
 by_cases h:w.g.hold st st=true
 . rw[if_pos h,yU]
   exact⟨λz=>⟨h,z⟩,λz=>z.2⟩
 . rw[if_neg h]
   exact⟨λz=>(by cases z),λz=>absurd z.1 h⟩
theorem vV(st:List Int)(w:Way):(vls st w.ps).map (·.1)=w.wr:=by unfold vls Way.wr;rw[A3];rfl
theorem vW:∀{vs:List (Nat×Int)} {acc:List Int} {k:Nat},k∉vs.map (·.1)->(apl vs acc).getD k 0=acc.getD k 0
 | [],_,_,_=>rfl
 | v::vs,acc,k,h=>by
  rw[mC,An,not_or] at h
  show(apl vs (acc.set v.1 v.2)).getD k 0=_
  rw[vW h.2,Ae,Ap (λz=>h.1 z.symm),Ae]
theorem aBD:∀{vs:List (Nat×Int)} {acc:List Int} {k:Nat} {x:Int},k∉vs.map (·.1)->apl vs (acc.set k x)=(apl vs acc).set k x
 | [],_,_,_,_=>rfl
 | v::vs,acc,k,x,h=>by
  rw[mC,An,not_or] at h
  show apl vs ((acc.set k x).set v.1 v.2)=(apl vs (acc.set v.1 v.2)).set k x
  rw[List.set_comm _ _ h.1,aBD h.2]
theorem yV:∀{us vs:List (Nat×Int)} {acc:List Int},(∀k∈us.map (·.1),k∉vs.map (·.1))->apl vs (apl us acc)=apl us (apl vs acc)
 | [],_,_,_=>rfl
 | u::us,vs,acc,h=>by
  show apl vs (apl us (acc.set u.1 u.2))=apl us ((apl vs acc).set u.1 u.2)
  rw[yV λk hk=>h k (by rw[mC];exact Ag _ hk),aBD (h u.1 (by rw[mC];exact Al))]
structure Apt (w v:Way):Prop where
 a:∀k∈w.wr,k∉v.rdl/\k∉v.wr
 b:∀k∈v.wr,k∉w.rdl/\k∉w.wr
theorem Apt.symm{w v:Way}(h:Apt w v):Apt v w:=⟨h.b,h.a⟩
variable {m:Nat}
theorem rQ(hm:m<=4){w v:Way}(o:cX m w)(o':cX m v){h h':Nat}:oO h h' w v=true↔h≠h'/\Apt w v:=by
 unfold oO
 rw[bA,bA,pG,pG]
 have e:(!(h==h'))=true↔h≠h':=by simp
 rw[e]
 simp only[Bs,pF hm o,pF hm o',not_or]
 exact⟨λz=>⟨z.1,z.2.1,z.2.2⟩,λz=>⟨z.1,z.2.a,z.2.b⟩⟩
theorem aCO(hm:m<=4){w v:Way}(o:cX m w)(o':cX m v){h h':Nat}:oO h h' w v=oO h' h v w:=by
 rw[Dn,rQ hm o o',rQ hm o' o]
 exact⟨λz=>⟨λe=>z.1 e.symm,z.2.symm⟩,λz=>⟨λe=>z.1 e.symm,z.2.symm⟩⟩
theorem aFi{w:Way}(o:cX m w){a b:List Int}(h:∀k∈w.rdl,a.getD k 0=b.getD k 0):vls a w.ps=vls b w.ps:=by
 unfold vls
 refine Cq λp hp=>?_
 rw[rP (a':=a) (b':=b) (o.ps p hp).wf λk hk=>h k (Aq _ (mT.mpr ⟨p,hp,hk⟩))]
theorem aFj{bs:List (Str×Int)}{w v:Way}(o:cX m w)(o':cX m v)(ap:Apt w v){s a b:List Int}(h1:behF bs w s=some a)(h2:behF bs v a=some b):∃c,behF bs v s=some c/\behF bs w c=some b:=by
 obtain⟨g1,k1,rfl⟩:=mV.mp h1
 obtain⟨g2,k2,rfl⟩:=mV.mp h2
 have e1:∀k∈v.rdl,(apl (vls s w.ps) s).getD k 0=s.getD k 0:=λk hk=>vW (by rw[vV];exact λz=>(ap.a k z).1 hk)
 have e2:∀k∈w.rdl,(apl (vls s v.ps) s).getD k 0=s.getD k 0:=λk hk=>vW (by rw[vV];exact λz=>(ap.b k z).1 hk)
 have q1:=aFi o' e1
 have q2:=aFi o e2
 rw[mU (b':=s) o'.g λk hk=>e1 k (Bg _ hk)] at g2
 rw[q1] at k2
 refine⟨_,mV.mpr ⟨g2,k2,rfl⟩,mV.mpr ⟨?_,?_,?_⟩⟩
 . rw[mU (b':=s) o.g λk hk=>e2 k (Bg _ hk)];exact g1
 . rw[q2];exact k1
 . rw[q1,q2]
   exact yV λk hk=>by
    rw[vV] at hk ⊢
    exact(ap.a k hk).2
variable {bs:List (Str×Int)} {g:Cn} {hs:List (List (List Way))}
theorem aFk{α:Type}{l:List α}{i:Nat}{x d:α}(h:i<l.length):(l.set i x).getD i d=x:=by
 rw[Ae,Bf h];rfl
theorem tW{α:Type}{l:List α}{i j:Nat}{x d:α}(h:i≠j):(l.set i x).getD j d=l.getD j d:=by
 rw[Ae,Ap h,Ae]
theorem aJK{l:List Int}{i:Nat}{x:Int}(h:i<l.length):l.take i++[x]++l.drop (i+1)=l.set i x:=by
 rw[List.set_eq_take_append_cons_drop,if_pos h,Cd];rfl
abbrev wyS(hs:List (List (List Way)))(s:St)(p:Nat×Nat):Way:=dX (bG hs s p.1) p.2
theorem jT{s t:St}{p:Nat×Nat}(h:p.1<s.2.length):goneF bs hs s p=some t↔p.2<(bG hs s p.1).length/\behF bs (wyS hs s p) s.1=some t.1/\t.2=s.2.set p.1 (wyS hs s p).nx:=by
 unfold goneF
 rw[aJK h]
 by_cases hc:p.2<(bG hs s p.1).length
 . rw[if_pos hc]
   constructor
   . intro e
     obtain⟨st,h1,h2⟩:=Bk.mp e
     subst h2
     exact⟨hc,h1,rfl⟩
   . rintro ⟨_,h1,h2⟩
     rw[h1]
     show some _=some t
     rw[<-h2]
 . rw[if_neg hc]
   exact⟨λe=>(by cases e),λe=>absurd e.1 hc⟩
theorem aAE{m:Nat}{s:St}(so:SOk m hs s){p:Nat×Nat}(hp:p.1<hs.length)(hr:p.2<(bG hs s p.1).length):jS hs p.1 (s.2.getD p.1 0).toNat p.2 (wyS hs s p):=by
 refine⟨hs.getD p.1 [],bG hs s p.1,dH [] hp,?_,(vM hr).2⟩
 refine dH [] ?_
 rcases Nat.lt_or_ge (s.2.getD p.1 0).toNat (hs.getD p.1 []).length with z|z
 . exact z
 . unfold bG at hr
   rw[Ae (l:=hs.getD p.1 []),Cu z] at hr
   exact absurd hr (Nat.not_lt_zero _)
theorem vX{s t:St}{h:Nat}(e:s.2.getD h 0=t.2.getD h 0):bG hs s h=bG hs t h:=by unfold bG;rw[e]
theorem aCP{m:Nat}(o:fE m hs){s a b:St}(so:SOk m hs s){p q:Nat×Nat}(hp:p.1<hs.length)(hq:q.1<hs.length)(hpq:p.1≠q.1)(h1:goneF bs hs s p=some a)(h2:goneF bs hs a q=some b)(ap:Apt (wyS hs s p) (wyS hs a q)) :
 ∃c,goneF bs hs s q=some c/\goneF bs hs c p=some b/\c.2.getD p.1 0=s.2.getD p.1 0/\a.2.getD q.1 0=s.2.getD q.1 0:=by
 have lp:p.1<s.2.length:=by rw[so.pl];exact hp
 have lq:q.1<s.2.length:=by rw[so.pl];exact hq
 obtain⟨r1,b1,e1⟩:=(jT lp).mp h1
 have ea:a.2.getD q.1 0=s.2.getD q.1 0:=by rw[e1,tW hpq]
 have ra:=vX (hs:=hs) ea
 obtain⟨r2,b2,e2⟩:=(jT (by rw[e1,Ax];exact lq)).mp h2
 have ew:wyS hs a q=wyS hs s q:=by show dX (bG hs a q.1) q.2=dX (bG hs s q.1) q.2;rw[ra]
 rw[ra] at r2
 rw[ew] at b2 e2 ap
 obtain⟨c,c1,c2⟩:=aFj ((aAE so hp r1).ok o) ((aAE so hq r2).ok o) ap b1 b2
 have ec:(s.2.set q.1 (wyS hs s q).nx).getD p.1 0=s.2.getD p.1 0:=tW λz=>hpq z.symm
 have rc:bG hs (c,s.2.set q.1 (wyS hs s q).nx) p.1=bG hs s p.1:=vX ec
 have wc:wyS hs (c,s.2.set q.1 (wyS hs s q).nx) p=wyS hs s p:=by show dX (bG hs _ p.1) p.2=dX (bG hs s p.1) p.2;rw[rc]
 refine⟨(c,s.2.set q.1 (wyS hs s q).nx),(jT lq).mpr ⟨r2,c1,rfl⟩,(jT (by rw[Ax];exact lp)).mpr ⟨by rw[rc];exact r1,by rw[wc];exact c2,?_⟩,ec,ea⟩
 rw[wc,e2,e1]
 exact List.set_comm _ _ hpq
def sw(i:Nat)(ps:List (Nat×Nat)):List (Nat×Nat):=(ps.set i (ps.getD (i+1) (0,0))).set (i+1) (ps.getD i (0,0))
theorem gW(i:Nat)(ps:List (Nat×Nat)):(sw i ps).length=ps.length:=by unfold sw;rw[Ax,Ax]
section
variable {ps:List (Nat×Nat)} {i:Nat}
theorem aFl(h:i+1<ps.length):(sw i ps).getD i (0,0)=ps.getD (i+1) (0,0):=by unfold sw;rw[tW (by omega),aFk (by omega)]
theorem aFm(h:i+1<ps.length):(sw i ps).getD (i+1) (0,0)=ps.getD i (0,0):=by unfold sw;rw[aFk (by rw[Ax];exact h)]
theorem aGI{k:Nat}(h0:i≠k)(h1:i+1≠k):(sw i ps).getD k (0,0)=ps.getD k (0,0):=by unfold sw;rw[tW h1,tW h0]
theorem aFn{α:Type}{l r:List α}(d:α)(hl:l.length=r.length)(h:∀k,k<l.length->l.getD k d=r.getD k d):l=r:=by
 refine List.ext_getElem hl λk h1 h2=>?_
 have:=h k h1
 rw[Ae,Ae,Ad h1,Ad h2] at this
 exact this
theorem aMy(h:i+1<ps.length):sw i (sw i ps)=ps:=by
 refine aFn (0,0) (by rw[gW,gW]) λk hk=>?_
 by_cases h0:i=k
 . subst h0;rw[aFl (by rw[gW];exact h),aFm h]
 . by_cases h1:i+1=k
   . subst h1;rw[aFm (by rw[gW];exact h),aFl h]
   . rw[aGI h0 h1,aGI h0 h1]
theorem aMz{β:Type}(f:Nat×Nat->β)(h:i+1<ps.length):(ps.map f).take i++[f (ps.getD (i+1) (0,0)),f (ps.getD i (0,0))]++(ps.map f).drop (i+2)=(sw i ps).map f:=by
 have e:ps.take i++[ps.getD (i+1) (0,0),ps.getD i (0,0)]++ps.drop (i+2)=sw i ps:=by
  obtain⟨A,x,y,B,rfl,rfl⟩:∃A x y B,ps=A++x::y::B/\A.length=i:=⟨ps.take i,ps[i],ps[i+1],ps.drop (i+2),by
   rw[<-Br,<-Br,List.take_append_drop],by rw[A2];omega⟩
  have g0:(A++x::y::B).getD A.length (0,0)=x:=by rw[Ae,Au (Aj _),Nat.sub_self];rfl
  have g1:(A++x::y::B).getD (A.length+1) (0,0)=y:=by rw[Ae,Au (by omega),show A.length+1-A.length=1 by omega];rfl
  unfold sw
  rw[g0,g1,List.take_left',List.set_append_right _ _ (Aj _),Nat.sub_self,List.set_append_right _ _ (by omega),show A.length+1-A.length=1 by omega,List.drop_append,List.drop_eq_nil_of_le (by omega),show A.length+2-A.length=2 by omega,Cd]
  . rfl
  . rfl
 rw[<-e]
 simp
end
def apI(hs:List (List (List Way)))(s0:St)(ps:List (Nat×Nat))(ss:List St)(i:Nat):Bool:=oO (ps.getD i (0,0)).1 (ps.getD (i+1) (0,0)).1 (wyS hs (ss.getD i s0) (ps.getD i (0,0))) (wyS hs (ss.getD (i+1) s0) (ps.getD (i+1) (0,0)))
section
variable {s0:St} {ps:List (Nat×Nat)} {ss:List St} {i:Nat}
theorem Wov.at(o:fE bs.length hs)(W:Wov bs hs s0 ps ss)(h:i<ps.length):(ps.getD i (0,0)).1<hs.length/\jS hs (ps.getD i (0,0)).1 ((ss.getD i s0).2.getD (ps.getD i (0,0)).1 0).toNat (ps.getD i (0,0)).2 (wyS hs (ss.getD i s0) (ps.getD i (0,0))):=by
 have hp:=W.hd (ps.getD i (0,0)) (mG (dH (0,0) h))
 have so:=W.ok i
 exact⟨hp,aAE so hp ((jT (by rw[so.pl];exact hp)).mp (W.go i h)).1⟩
theorem Wov.swap(hb4:bs.length<=4)(o:fE bs.length hs)(W:Wov bs hs s0 ps ss)(h:i+1<ps.length)(ha:apI hs s0 ps ss i=true):∃c,Wov bs hs s0 (sw i ps) (ss.set (i+1) c)/\apI hs s0 (sw i ps) (ss.set (i+1) c) i=true:=by
 obtain⟨hp,wp⟩:=W.at o (i:=i) (by omega)
 obtain⟨hq,wq⟩:=W.at o (i:=i+1) h
 obtain⟨hne,ap⟩:=(rQ hb4 (wp.ok o) (wq.ok o)).mp ha
 obtain⟨c,c1,c2,c3,c4⟩:=aCP o (W.ok i) hp hq hne (W.go i (by omega)) (W.go (i+1) h) ap
 have hl:=W.len
 have g0:∀k,i+1≠k->(ss.set (i+1) c).getD k s0=ss.getD k s0:=λk hk=>tW hk
 have g1:(ss.set (i+1) c).getD (i+1) s0=c:=aFk (by omega)
 have so:=(W.ok i).go o hq c1
 refine⟨c,⟨by rw[Ax,gW];exact hl,by rw[g0 0 (by omega)];exact W.z,λk hk=>?_,λp hp'=>?_,λk=>?_⟩,?_⟩
 . rw[gW] at hk
   by_cases h0:i=k
   . subst h0
     rw[aFl h,g0 i (by omega),g1];exact c1
   . by_cases h1:i+1=k
     . subst h1
       rw[aFm h,g1,g0 (i+1+1) (by omega)];exact c2
     . rw[aGI h0 h1,g0 k h1,g0 (k+1) (by omega)];exact W.go k hk
 . obtain⟨k,hk,e⟩:=List.getElem_of_mem hp'
   have e2:(sw i ps).getD k (0,0)=p:=by rw[Ae,Ad hk,e];rfl
   rw[gW] at hk
   rw[<-e2]
   by_cases h0:i=k
   . subst h0;rw[aFl h];exact hq
   . by_cases h1:i+1=k
     . subst h1;rw[aFm h];exact hp
     . rw[aGI h0 h1];exact(W.at o hk).1
 . by_cases h1:i+1=k
   . subst h1;rw[g1];exact so
   . rw[g0 k h1];exact W.ok k
 . unfold apI
   rw[aFl h,aFm h,g0 i (by omega),g1]
   have e1:wyS hs c (ps.getD i (0,0))=wyS hs (ss.getD i s0) (ps.getD i (0,0)):=by show dX (bG hs c _) _=dX (bG hs _ _) _;rw[vX c3]
   have e2:wyS hs (ss.getD i s0) (ps.getD (i+1) (0,0))=wyS hs (ss.getD (i+1) s0) (ps.getD (i+1) (0,0)):=by show dX (bG hs _ _) _=dX (bG hs _ _) _;rw[vX c4]
   rw[e1,e2,aCO hb4 (wq.ok o) (wp.ok o)]
   exact ha
end
section
variable {P:Pg} {cl:Caller} {σ:Sg}
theorem aJL{a b c:E}{x y z:Int}(h1:ev P cl σ a=.ok (.cl (.int x)))(h2:ev P cl σ b=.ok (.cl (.int y)))(h3:ev P cl σ c=.ok (.cl (.int z))):tst P cl σ (.cmp2 .LtE .Lt a b c)=.ok (decide (x<=y)&&decide (y<z)):=by
 by_cases h:x<=y
 . rw[tL h1 h2 h3 h rfl,Am h];rfl
 . rw[mD,h1,aA,h2,aA]
   show(match some (decide (x<=y)) with|some true=>_|some false=>R.ok false|none=>R.bad)=_
   rw[As h];rfl
theorem aJM{v:Vl}{ds:List D}(hv:v.d=.lst ds)(n:noLs ds=true)(lo hi:Option Int):dQ v lo hi=.ok ⟨.lst (cut ds lo hi),true,false,[]⟩:=by
 unfold dQ
 rw[hv]
 show R.ok (Vl.mk (.lst (cut ds lo hi)) true (v.pa&&!noLs ds) (if noLs ds=true then [] else v.al))=_
 rw[n,if_pos rfl,Ck,Bool.and_false]
theorem aAF{a b:E}{v:Vl}{ds:List D}{k:Nat}(h:ev P cl σ a=.ok v)(hv:v.d=.lst ds)(n:noLs ds=true)(hb:ev P cl σ b=.ok (.cl (.int (k:Int))))(hk:k<=1000000):ev P cl σ (.sli a .z (.k b .z))=.ok ⟨.lst (ds.take k),true,false,[]⟩:=by
 rw[aBg,h,aA,hb,aA]
 show R.iff (aN (k:Int)) (dQ v none (some (k:Int)))=_
 rw[fG hk,aJM hv n,aEW]
 rfl
theorem aAG{a b:E}{v:Vl}{ds:List D}{k:Nat}(h:ev P cl σ a=.ok v)(hv:v.d=.lst ds)(n:noLs ds=true)(hb:ev P cl σ b=.ok (.cl (.int (k:Int))))(hk:k<=1000000):ev P cl σ (.sli a (.k b .z) .z)=.ok ⟨.lst (ds.drop k),true,false,[]⟩:=by
 have e1:evs P cl σ (.k b .z)=.ok [.cl (.int (k:Int))]:=by rw[aH,hb];rfl
 show(ev P cl σ a >>= λx=>evs P cl σ (.k b .z) >>= λl=>evs P cl σ .z >>= λh=>_)=_
 rw[h,aA,e1,aA,bI,aA]
 show R.iff (aN (k:Int)) (dQ v (some (k:Int)) none)=_
 rw[fG hk,aJM hv n,aAy]
 rfl
theorem aJN{i j:Nat}{e:E}{v:Vl}{a b:D}(h:ev P cl σ e=.ok v)(hv:v.d=.lst [a,b])(ha:noL a=true)(hb:noL b=true):ex P cl σ (.setU [i,j] e)=.next ((σ.set i (.sh false a)).set j (.sh false b)):=by
 have n:noLs [a,b]=true:=by simp[noLs,ha,hb]
 show O.from σ (ev P cl σ e) _=_
 rw[h,bJ]
 show(match v.d with|.lst ds=>if ds.length=[i,j].length/\noLs ds=true then O.next (([i,j].zip ds).foldl (λ(σ:Sg) (p:Nat×D)=>σ.set p.1 (v.sub p.2).slot) σ) else .bad|_=>.bad)=_
 rw[hv]
 show(if [a,b].length=[i,j].length/\noLs [a,b]=true then O.next ((σ.set i (v.sub a).slot).set j (v.sub b).slot) else .bad)=_
 rw[if_pos ⟨rfl,n⟩,cC ha,cC hb,dO,dO]
end
theorem aOf{ps:List (Nat×Nat)}{i:Nat}(h:i+1<ps.length):cut (ps.map aK) (some (i:Int)) (some ((i+2:Nat):Int))=[aK (ps.getD i (0,0)),aK (ps.getD (i+1) (0,0))]:=by
 rw[aBt]
 unfold cut
 rw[aBw,aBw,Nat.min_eq_left (by omega),Nat.min_eq_left (by omega),show i+2-i=2 by omega,Br (by omega),Br h]
 rw[Ae,Ad (by omega:i<ps.length),Ae,Ad h]
 rfl
variable {bs:List (Str×Int)} {g:Cn} {hs:List (List (List Way))}
def trF(hs:List (List (List Way)))(s0:St)(ps:List (Nat×Nat))(ss:List St)(x:Int):Option (List (Nat×Nat)):=if (0<=x/\x+1<ps.length)/\apI hs s0 ps ss x.toNat=true then some (sw x.toNat ps) else none
def trD:Option (List (Nat×Nat))->D
 | none=>.non
 | some l=>.lst (l.map aK)
abbrev eP(ps:List (Nat×Nat)):D:=.lst (ps.map aK)
theorem gG(ps:List (Nat×Nat)):noLs (ps.map aK)=true:=bP (λ_=>rfl) ps
theorem kJ(ss:List St):noLs (ss.map aL)=true:=bP fZ ss
section
variable {s0:St} {ps:List (Nat×Nat)} {ss:List St}
theorem vY(W:Wov bs hs s0 ps ss){i:Nat}(h:(ps.getD i (0,0)).1<hs.length):(ss.getD i s0).2.getD (ps.getD i (0,0)).1 0=(((ss.getD i s0).2.getD (ps.getD i (0,0)).1 0).toNat:Int):=(B2 ((W.ok i).rg _ h).1).symm
theorem aFo{P:Pg}{cl:Caller}{σ:Sg}{i:Nat}(h:i+1<ps.length)(hl:ps.length<=100){a b k l m:E}{v:Vl}(hv:ev P cl σ a=.ok v)(hd:v.d=eP ps)(hk:ev P cl σ k=.ok (.cl (aF i)))(hm:ev P cl σ m=.ok (.cl (aF (i+2))))(hl2:ev P cl σ l=.ok ⟨.lst [aK (ps.getD (i+1) (0,0)),aK (ps.getD i (0,0))],true,false,[]⟩) :
 ev P cl σ (.op .Add (.op .Add (.sli a .z (.k k .z)) l) (.sli a (.k m .z) .z))=.ok ⟨eP (sw i ps),true,false,[]⟩:=by
 have n1:noLs ((ps.map aK).take i)=true:=by rw[<-Dd];exact gG _
 have n2:noLs ((ps.map aK).drop (i+2))=true:=by rw[<-Dp];exact gG _
 have n3:noLs ((ps.map aK).take i++[aK (ps.getD (i+1) (0,0)),aK (ps.getD i (0,0))])=true:=by rw[<-Dd];exact(show noLs ((ps.take i).map aK++[ps.getD (i+1) (0,0),ps.getD i (0,0)].map aK)=true by rw[<-Ay];exact gG _)
 have e1:=fA (o:=.Add) (aAF hv hd (gG ps) hk (by omega)) hl2 (rZ rfl rfl n1 rfl (by rw[A2,lM];unfold lim;simp;omega))
 have e2:=fA (o:=.Add) e1 (aAG hv hd (gG ps) hm (by omega)) (rZ rfl rfl n3 n2 (by rw[lA,A2,B7,lM];unfold lim;simp;omega))
 rw[aMz aK h] at e2
 exact e2
theorem yW{x:Int}(h:¬ (0<=x/\x+1<ps.length)):trF hs s0 ps ss x=none:=if_neg λz=>h z.1
theorem rR{i:Nat}(h:i+1<ps.length):trF hs s0 ps ss (i:Int)=if apI hs s0 ps ss i=true then some (sw i ps) else none:=by
 unfold trF
 have:(0:Int)<=(i:Int)/\(i:Int)+1<ps.length:=by omega
 by_cases ha:apI hs s0 ps ss i=true
 . rw[if_pos ⟨this,ha⟩,if_pos ha];rfl
 . rw[if_neg λz=>ha z.2,if_neg ha]
end
theorem rS(n:Nat)(hb:bs∈boxSet)(o:fE bs.length hs)(gw:g.wf bs.length true)(gz:g.sz<=31){st:List Int}(hst:st∈standsL bs)(hg:g.hold st st=true){ps:List (Nat×Nat)}{ss:List St}(W:Wov bs hs (st,cB hs) ps ss)(hp:ps.length<=100)(x:Int) :
 call pg (n+36) 55 [aQ bs g hs,aO st,eP ps,.int x]=.ok (trD (trF hs (st,cB hs) ps ss x),(trF hs (st,cB hs) ps ss x).isSome,false):=by
 obtain⟨l3,l4⟩:=fH hb
 let s0:St:=(st,cB hs)
 let τ:Sl->Sg:=λs=>[.sh true (aQ bs g hs),.sh true (aO st),.sh true (eP ps),.sh true (.int x),s]
 let T:Sl:=.own false ((List.range ps.length).map (oN ps ss s0))
 have k1:ex pg (call pg (n+35)) (τ .x) (hdS f55.body)=.next (τ T):=bL (iE (jR rfl) (aP 1 rfl (aR st)) (aM 2 rfl) (aAz n hb o gw gz hst hg W hp))
 have v3:ev pg (call pg (n+35)) (τ T) (.v 3)=.ok (.cl (.int x)):=aP 3 rfl rfl
 have v4:ev pg (call pg (n+35)) (τ T) (.v 4)=.ok ⟨.lst ((List.range ps.length).map (oN ps ss s0)),false,false,[4]⟩:=bH 4 rfl
 have ln:ev pg (call pg (n+35)) (τ T) (.op .Sub (.bi .len (.k (.v 4) .z)) (.c (.int 1)))=.ok (.cl (.int ((ps.length:Int)-1))):=by
  have:=fA (o:=.Sub) (eH v4 rfl) (aC (.int 1)) (sub_int _ 1)
  rw[lM,Cf] at this
  exact this
 have t1:=aJL (aC (P:=pg) (cl:=call pg (n+35)) (σ:=τ T) (.int 0)) v3 ln
 by_cases h:0<=x/\x+1<ps.length
 . obtain⟨i,rfl⟩:∃i:Nat,x=(i:Int):=⟨x.toNat,(B2 h.1).symm⟩
   have hi:i+1<ps.length:=by omega
   rw[rR hi]
   rw[Am h.1,Am (by omega:(i:Int)<(ps.length:Int)-1)] at t1
   obtain⟨hp0,wp⟩:=W.at o (i:=i) (by omega)
   obtain⟨hq0,wq⟩:=W.at o (i:=i+1) hi
   have x1:ev pg (call pg (n+35)) (τ T) (.op .Add (.v 3) (.c (.int 1)))=.ok (.cl (aF (i+1))):=cQ v3 (aC (.int 1))
   have x2:ev pg (call pg (n+35)) (τ T) (.op .Add (.v 3) (.c (.int 2)))=.ok (.cl (aF (i+2))):=cQ v3 (aC (.int 2))
   have tk:∀{k:Nat} {e:E},k<ps.length->ev pg (call pg (n+35)) (τ T) e=.ok (.cl (aF k))->ev pg (call pg (n+35)) (τ T) (.idx (.v 4) e)=.ok (.cl (oN ps ss s0 k)):=λ{k e} hk he=>tM (f:=oN ps ss s0) (xs:=List.range ps.length) v4 rfl he (by rw[List.getElem?_range hk]) rfl
   have d0:oN ps ss s0 i=tkD (ps.getD i (0,0)).1 ((ss.getD i s0).2.getD (ps.getD i (0,0)).1 0).toNat (ps.getD i (0,0)).2:=by unfold oN;rw[vY W hp0];rfl
   have d1:oN ps ss s0 (i+1)=tkD (ps.getD (i+1) (0,0)).1 ((ss.getD (i+1) s0).2.getD (ps.getD (i+1) (0,0)).1 0).toNat (ps.getD (i+1) (0,0)).2:=by unfold oN;rw[vY W hq0];rfl
   have t2:tst pg (call pg (n+35)) (τ T) (.call 39 (.k (.v 0) (.k (.idx (.v 4) (.v 3)) (.k (.idx (.v 4) (.op .Add (.v 3) (.c (.int 1)))) .z))))=.ok (apI hs s0 ps ss i):=iS (jR rfl) (tk (by omega) v3) (tk hi x1) (by
    rw[dE,dE,d0,d1]
    exact aFg n l4 o wp wq)
   cases ha:apI hs s0 ps ss i with
   | false=>
    rw[ha] at t2
    exact aG (F:=f55) rfl rfl (v:=.cl .non) (cs k1 (eG (eA (dF (k:=true) t1) (dF t2)) (aS (aC _))))
   | true=>
    rw[ha] at t2
    have v2:ev pg (call pg (n+35)) (τ T) (.v 2)=.ok ⟨eP ps,false,true,[]⟩:=aM 2 rfl
    have ix:∀{k:Nat} {e:E},k<ps.length->ev pg (call pg (n+35)) (τ T) e=.ok (.cl (aF k))->ev pg (call pg (n+35)) (τ T) (.idx (.v 2) e)=.ok (.cl (aK (ps.getD k (0,0)))):=λ{k e} hk he=>tM (f:=aK) v2 rfl he (dH (0,0) hk) rfl
    exact aG (F:=f55) rfl rfl (v:=⟨eP (sw i ps),true,false,[]⟩) (cs k1 (cs (bV (eA (dF (k:=true) t1) (dF (k:=true) t2))) (aS (aFo (b:=.v 2) hi hp v2 rfl v3 x2 (dM (aD (ix hi x1) (aD (ix (by omega) v3) aY)))))))
 . rw[yW h]
   have hd:(decide (0<=x)&&decide (x<(ps.length:Int)-1))=false:=aOe λz=>h ⟨z.1,by omega⟩
   rw[hd] at t1
   exact aG (F:=f55) rfl rfl (v:=.cl .non) (cs k1 (eG (aBr (dF (k:=false) t1)) (aS (aC _))))
variable {bs:List (Str×Int)} {g:Cn} {hs:List (List (List Way))}
theorem aGJ{P:Pg}{cl:Caller}{σ:Sg}{a b:E}{x y:Int}(h1:ev P cl σ a=.ok (.cl (.int x)))(h2:ev P cl σ b=.ok (.cl (.int y))):tst P cl σ (.cmp .GtE a b)=.ok (decide (y<=x)):=cA h1 h2 (aJs x y)
theorem aGK(n:Nat)(hb4:bs.length<=4)(o:fE bs.length hs){s0:St}{ps:List (Nat×Nat)}{ss:List St}(W:Wov bs hs s0 ps ss)(hp:ps.length<=100)(x:Int) :
 call pg (n+34) 56 [aQ bs g hs,.lst (ss.map aL),eP ps,.int x]=.ok (trD (trF hs s0 ps ss x),(trF hs s0 ps ss x).isSome,false):=by
 let τ:Sl->Sl->Sl->Sl->Sg:=λs4 s5 s6 s7=>[.sh true (aQ bs g hs),.sh true (.lst (ss.map aL)),.sh true (eP ps),.sh true (.int x),s4,s5,s6,s7]
 have v3:∀s4 s5 s6 s7,ev pg (call pg (n+33)) (τ s4 s5 s6 s7) (.v 3)=.ok (.cl (.int x)):=λ_ _ _ _=>aP 3 rfl rfl
 have v2:∀s4 s5 s6 s7,ev pg (call pg (n+33)) (τ s4 s5 s6 s7) (.v 2)=.ok ⟨eP ps,false,true,[]⟩:=λ_ _ _ _=>aM 2 rfl
 have v1:∀s4 s5 s6 s7,ev pg (call pg (n+33)) (τ s4 s5 s6 s7) (.v 1)=.ok ⟨.lst (ss.map aL),false,true,[]⟩:=λ_ _ _ _=>aM 1 rfl
 have ln:ev pg (call pg (n+33)) (τ .x .x .x .x) (.bi .len (.k (.v 2) .z))=.ok (.cl (.int ps.length)):=by
  have:=eH (v2 .x .x .x .x) rfl
  rw[lM] at this
  exact this
 have t1:tst pg (call pg (n+33)) (τ .x .x .x .x) (.cmp .Lt (.v 3) (.c (.int 0)))=.ok (decide (x<0)):=cA (v3 _ _ _ _) (aC (.int 0)) (aJr x 0)
 have t2:=aGJ (cQ (v3 .x .x .x .x) (aC (.int 1))) ln
 by_cases h:0<=x/\x+1<ps.length
 . obtain⟨i,rfl⟩:∃i:Nat,x=(i:Int):=⟨x.toNat,(B2 h.1).symm⟩
   have hi:i+1<ps.length:=by omega
   rw[rR hi]
   rw[As (by omega:¬ (i:Int)<0)] at t1
   rw[As (by omega:¬ (ps.length:Int)<=(i:Int)+1)] at t2
   obtain⟨hp0,wp⟩:=W.at o (i:=i) (by omega)
   obtain⟨hq0,wq⟩:=W.at o (i:=i+1) hi
   have x1:∀s4 s5 s6 s7,ev pg (call pg (n+33)) (τ s4 s5 s6 s7) (.op .Add (.v 3) (.c (.int 1)))=.ok (.cl (aF (i+1))):=λ_ _ _ _=>cQ (v3 _ _ _ _) (aC (.int 1))
   have x2:∀s4 s5 s6 s7,ev pg (call pg (n+33)) (τ s4 s5 s6 s7) (.op .Add (.v 3) (.c (.int 2)))=.ok (.cl (aF (i+2))):=λ_ _ _ _=>cQ (v3 _ _ _ _) (aC (.int 2))
   let A:Sl:=.sh false (aK (ps.getD i (0,0)))
   let B:Sl:=.sh false (aK (ps.getD (i+1) (0,0)))
   let d0:D:=tkD (ps.getD i (0,0)).1 ((ss.getD i s0).2.getD (ps.getD i (0,0)).1 0).toNat (ps.getD i (0,0)).2
   let d1:D:=tkD (ps.getD (i+1) (0,0)).1 ((ss.getD (i+1) s0).2.getD (ps.getD (i+1) (0,0)).1 0).toNat (ps.getD (i+1) (0,0)).2
   have k2:ex pg (call pg (n+33)) (τ .x .x .x .x) (hdS (drp 1 f56.body))=.next (τ A B .x .x):=by
    have e:ev pg (call pg (n+33)) (τ .x .x .x .x) (.sli (.v 2) (.k (.v 3) .z) (.k (.op .Add (.v 3) (.c (.int 2))) .z))=.ok ⟨.lst [aK (ps.getD i (0,0)),aK (ps.getD (i+1) (0,0))],true,false,[]⟩:=by
     rw[aBu (v2 _ _ _ _) (v3 _ _ _ _) (x2 _ _ _ _) (fG (by omega)) (fG (by omega)),aJM rfl (gG ps),aOf hi]
    exact aJN e rfl rfl rfl
   have st:∀{k:Nat} {e:E} {s4 s5 s6 s7},k<ps.length->ev pg (call pg (n+33)) (τ s4 s5 s6 s7) e=.ok (.cl (aF k))->ev pg (call pg (n+33)) (τ s4 s5 s6 s7) (.idx (.idx (.v 1) e) (.c (.int 1)))=.ok (.cl (aO (ss.getD k s0).2)):=λ{k e s4 s5 s6 s7} hk he=>bE (tM (f:=aL) (v1 _ _ _ _) rfl he (dH s0 (by rw[W.len];omega)) (fZ _)) (aC (.int 1)) (fV _ _ _ (aR _))
   have i0:∀{e:E} {p:Nat×Nat} {σ:Sg},ev pg (call pg (n+33)) σ e=.ok (.cl (aK p))->ev pg (call pg (n+33)) σ (.idx e (.c (.int 0)))=.ok (.cl (aF p.1))/\ev pg (call pg (n+33)) σ (.idx e (.c (.int 1)))=.ok (.cl (aF p.2)):=λ{e p σ} he=>⟨bE he (aC _) (fU _ _ rfl),bE he (aC _) (fV _ _ _ rfl)⟩
   have vA:∀s5 s6 s7,ev pg (call pg (n+33)) (τ A s5 s6 s7) (.v 4)=.ok (.cl (aK (ps.getD i (0,0)))):=λ_ _ _=>aJ 4 rfl
   have vB:∀s4 s6 s7,ev pg (call pg (n+33)) (τ s4 B s6 s7) (.v 5)=.ok (.cl (aK (ps.getD (i+1) (0,0)))):=λ_ _ _=>aJ 5 rfl
   have k3:ex pg (call pg (n+33)) (τ A B .x .x) (hdS (drp 2 f56.body))=.next (τ A B (.sh false d0) .x):=by
    have:=aV (i:=6) (vJ (i0 (vA B .x .x)).1 (bE (st (by omega) (v3 _ _ _ _)) (i0 (vA _ _ _)).1 (kF (by rw[(W.ok i).pl];exact hp0))) (i0 (vA _ _ _)).2)
    rw[vY W hp0] at this
    exact this
   have k4:ex pg (call pg (n+33)) (τ A B (.sh false d0) .x) (hdS (drp 3 f56.body))=.next (τ A B (.sh false d0) (.sh false d1)):=by
    have:=aV (i:=7) (vJ (i0 (vB A (.sh false d0) .x)).1 (bE (st hi (x1 _ _ _ _)) (i0 (vB _ _ _)).1 (kF (by rw[(W.ok (i+1)).pl];exact hq0))) (i0 (vB _ _ _)).2)
    rw[vY W hq0] at this
    exact this
   have t5:tst pg (call pg (n+33)) (τ A B (.sh false d0) (.sh false d1)) (.call 54 (.k (.v 0) (.k (.v 6) (.k (.v 7) .z))))=.ok (apI hs s0 ps ss i):=iS (jR rfl) (aJ 6 rfl) (aJ 7 rfl) (aCN n hb4 o wp wq)
   cases ha:apI hs s0 ps ss i with
   | false=>
    rw[ha] at t5
    exact aG (F:=f56) rfl rfl (v:=.cl .non) (cs (bV (eA t1 t2)) (cs k2 (cs k3 (cs k4 (eG (dF t5) (aS (aC _)))))))
   | true=>
    rw[ha] at t5
    exact aG (F:=f56) rfl rfl (v:=⟨eP (sw i ps),true,false,[]⟩) (cs (bV (eA t1 t2)) (cs k2 (cs k3 (cs k4 (cs (bV (dF (k:=true) t5)) (aS (aFo (b:=.v 2) hi hp (v2 _ _ _ _) rfl (v3 _ _ _ _) (x2 _ _ _ _) (dM (aD (vB _ _ _) (aD (vA _ _ _) aY))))))))))
 . rw[yW h]
   by_cases hx:x<0
   . rw[Am hx] at t1
     exact aG (F:=f56) rfl rfl (v:=.cl .non) (eG (aBr t1) (aS (aC _)))
   . rw[As hx] at t1
     rw[Am (by omega)] at t2
     exact aG (F:=f56) rfl rfl (v:=.cl .non) (eG (eA t1 t2) (aS (aC _)))
theorem aGL(ds:List D)(h:noLs ds=true):biD .list [⟨.lst ds,false,true,[]⟩]=.ok ⟨.lst ds,true,false,[]⟩:=by
 show R.ok (Vl.mk (.lst ds) true (true&&!noLs ds) (if noLs ds=true then [] else []))=_
 rw[h];rfl
theorem aCQ(n:Nat)(ps:List (Nat×Nat)):okE (n+3) (eP ps)=true:=by
 show(ps.map aK).all (okE (n+2))=true
 rw[List.all_map,Bu]
 intro t _
 rfl
theorem aAH(n:Nat)(ss:List St):okE (n+4) (.lst (ss.map aL))=true:=by
 show(ss.map aL).all (okE (n+3))=true
 rw[List.all_map,Bu]
 intro s _
 have e:∀l:List Int,okE (n+2) (aO l)=true:=λl=>by
  show(l.map D.int).all (okE (n+1))=true
  rw[List.all_map,Bu]
  intro _ _
  rfl
 show([aO s.1,aO s.2].all (okE (n+2)))=true
 simp[e]
theorem pH(ps:List (Nat×Nat)):eqD (eP ps) (eP ps)=some true:=rD _ _ (aCQ 117 ps)
theorem aBE(ss:List St):eqD (.lst (ss.map aL)) (.lst (ss.map aL))=some true:=rD _ _ (aAH 116 ss)
theorem aCR(n:Nat)(hb:bs∈boxSet)(o:fE bs.length hs)(gw:g.wf bs.length true)(gz:g.sz<=31){st:List Int}(hst:st∈standsL bs)(hg:g.hold st st=true){ps:List (Nat×Nat)}{ss:List St}(W:Wov bs hs (st,cB hs) ps ss)(hp:ps.length<=100)(x:Int) :
 call pg (n+37) 57 [aQ bs g hs,aO st,eP ps,.int x]=.ok (.bl true,false,false):=by
 obtain⟨l3,l4⟩:=fH hb
 let s0:St:=(st,cB hs)
 let τ:Sl->Sl->Sl->Sl->Sl->Sl->Sg:=λs4 s5 s6 s7 s8 s9=>[.sh true (aQ bs g hs),.sh true (aO st),.sh true (eP ps),.sh true (.int x),s4,s5,s6,s7,s8,s9]
 let A:Sl:=.own false (ss.map aL)
 let C:Sl:=.own false (ps.map aK)
 have v0:∀s4 s5 s6 s7 s8 s9,ev pg (call pg (n+36)) (τ s4 s5 s6 s7 s8 s9) (.v 0)=.ok ⟨aQ bs g hs,false,true,[]⟩:=λ_ _ _ _ _ _=>jR rfl
 have v1:∀s4 s5 s6 s7 s8 s9,ev pg (call pg (n+36)) (τ s4 s5 s6 s7 s8 s9) (.v 1)=.ok (.cl (aO st)):=λ_ _ _ _ _ _=>aP 1 rfl (aR st)
 have v2:∀s4 s5 s6 s7 s8 s9,ev pg (call pg (n+36)) (τ s4 s5 s6 s7 s8 s9) (.v 2)=.ok ⟨eP ps,false,true,[]⟩:=λ_ _ _ _ _ _=>aM 2 rfl
 have v3:∀s4 s5 s6 s7 s8 s9,ev pg (call pg (n+36)) (τ s4 s5 s6 s7 s8 s9) (.v 3)=.ok (.cl (.int x)):=λ_ _ _ _ _ _=>aP 3 rfl rfl
 have v4:∀s5 s6 s7 s8 s9,ev pg (call pg (n+36)) (τ A s5 s6 s7 s8 s9) (.v 4)=.ok ⟨.lst (ss.map aL),false,false,[4]⟩:=λ_ _ _ _ _=>bH 4 rfl
 have v6:∀s5 s7 s8 s9,ev pg (call pg (n+36)) (τ A s5 C s7 s8 s9) (.v 6)=.ok ⟨eP ps,false,false,[6]⟩:=λ_ _ _ _=>bH 6 rfl
 have c55:=rS n hb o gw gz hst hg W hp x
 have k1:ex pg (call pg (n+36)) (τ .x .x .x .x .x .x) (hdS f57.body)=.next (τ A .x .x .x .x .x):=bL (iE (v0 _ _ _ _ _ _) (v1 _ _ _ _ _ _) (v2 _ _ _ _ _ _) (nS (n+2) hb o gw gz hst hg W hp))
 have e5:=kH (v0 A .x .x .x .x .x) (v4 .x .x .x .x .x) (v2 A .x .x .x .x .x) (v3 A .x .x .x .x .x) (aGK (n+2) l4 o W hp x)
 have k3:∀s5,ex pg (call pg (n+36)) (τ A s5 .x .x .x .x) (hdS (drp 2 f57.body))=.next (τ A s5 C .x .x .x):=λs5=>bL (eW (v2 _ _ _ _ _ _) (aGL _ (gG ps)))
 have e7:∀s5 s7 s8 s9,ev pg (call pg (n+36)) (τ A s5 C s7 s8 s9) (.call 55 (.k (.v 0) (.k (.v 1) (.k (.v 6) (.k (.v 3) .z)))))=.ok ⟨trD (trF hs s0 ps ss x),(trF hs s0 ps ss x).isSome,false,[]⟩:=λs5 s7 s8 s9=>kH (v0 _ _ _ _ _ _) (v1 _ _ _ _ _ _) (v6 _ _ _ _) (v3 _ _ _ _ _ _) c55
 have k5:∀s5 s7,ex pg (call pg (n+36)) (τ A s5 C s7 .x .x) (hdS (drp 4 f57.body))=.next (τ A s5 C s7 .x .x):=λs5 s7=>bV (cA (v6 _ _ _ _) (v2 _ _ _ _ _ _) (yH (pH ps)))
 cases hf:trF hs s0 ps ss x with
 | none=>
  rw[hf] at e5 e7
  let N:Sl:=.sh false .non
  have k2:ex pg (call pg (n+36)) (τ A .x .x .x .x .x) (hdS (drp 1 f57.body))=.next (τ A N .x .x .x .x):=aV e5
  have k4:ex pg (call pg (n+36)) (τ A N C .x .x .x) (hdS (drp 3 f57.body))=.next (τ A N C N .x .x):=aV (e7 _ _ _ _)
  have n5:ev pg (call pg (n+36)) (τ A N C N .x .x) (.v 5)=.ok (.cl .non):=aJ 5 rfl
  have n7:ev pg (call pg (n+36)) (τ A N C N .x .x) (.v 7)=.ok (.cl .non):=aJ 7 rfl
  exact aG (F:=f57) rfl rfl (v:=.cl (.bl true)) (cs k1 (cs k2 (cs (k3 _) (cs k4 (cs (k5 _ _) (eG (aBr (cA n5 (aC .non) rfl)) (aS (aEC (x:=true) (y:=true) (kO n5 (aC .non) rfl) (kO n7 (aC .non) rfl)))))))))
 | some l=>
  have hx:(0<=x/\x+1<ps.length)/\apI hs s0 ps ss x.toNat=true:=by
   unfold trF at hf
   split at hf
   . assumption
   . cases hf
  obtain⟨i,rfl⟩:∃i:Nat,x=(i:Int):=⟨x.toNat,(B2 hx.1.1).symm⟩
  have hi:i+1<ps.length:=by omega
  have ha:apI hs s0 ps ss i=true:=hx.2
  rw[rR hi,if_pos ha] at hf
  cases hf
  obtain⟨c,W',ha'⟩:=W.swap l4 o hi ha
  have hp':(sw i ps).length<=100:=by rw[gW];exact hp
  rw[rR hi,if_pos ha] at e5 e7
  let F:Sl:=.own false ((sw i ps).map aK)
  have k2:ex pg (call pg (n+36)) (τ A .x .x .x .x .x) (hdS (drp 1 f57.body))=.next (τ A F .x .x .x .x):=bL e5
  have k4:ex pg (call pg (n+36)) (τ A F C .x .x .x) (hdS (drp 3 f57.body))=.next (τ A F C F .x .x):=bL (e7 _ _ _ _)
  have n5:∀s7 s8 s9,ev pg (call pg (n+36)) (τ A F C s7 s8 s9) (.v 5)=.ok ⟨eP (sw i ps),false,false,[5]⟩:=λ_ _ _=>bH 5 rfl
  have n7:∀s8 s9,ev pg (call pg (n+36)) (τ A F C F s8 s9) (.v 7)=.ok ⟨eP (sw i ps),false,false,[7]⟩:=λ_ _=>bH 7 rfl
  have k6:ex pg (call pg (n+36)) (τ A F C F .x .x) (hdS (drp 5 f57.body))=.next (τ A F C F .x .x):=bV (eA (cA (n5 _ _ _) (aC .non) rfl) (cA (n7 _ _) (aC .non) rfl))
  have k7:ex pg (call pg (n+36)) (τ A F C F .x .x) (hdS (drp 6 f57.body))=.next (τ A F C F .x .x):=bV (eA (dF (k:=true) (fJ (n7 _ _) rfl)) (cA (n7 _ _) (n5 _ _ _) (yH (pH _))))
  let G:Sl:=.own false ((ss.set (i+1) c).map aL)
  have k8:ex pg (call pg (n+36)) (τ A F C F .x .x) (hdS (drp 7 f57.body))=.next (τ A F C F G .x):=bL (iE (v0 _ _ _ _ _ _) (v1 _ _ _ _ _ _) (n7 _ _) (nS (n+2) hb o gw gz hst hg W' hp'))
  have v8:ev pg (call pg (n+36)) (τ A F C F G .x) (.v 8)=.ok ⟨.lst ((ss.set (i+1) c).map aL),false,false,[8]⟩:=bH 8 rfl
  have x1:ev pg (call pg (n+36)) (τ A F C F G .x) (.op .Add (.v 3) (.c (.int 1)))=.ok (.cl (aF (i+1))):=cQ (v3 _ _ _ _ _ _) (aC (.int 1))
  have x2:ev pg (call pg (n+36)) (τ A F C F G .x) (.op .Add (.v 3) (.c (.int 2)))=.ok (.cl (aF (i+2))):=cQ (v3 _ _ _ _ _ _) (aC (.int 2))
  have q1:((ss.set (i+1) c).map aL).take (i+1)=(ss.map aL).take (i+1):=by rw[<-Dd,<-Dd,List.take_set_of_le (Aj _)]
  have q2:((ss.set (i+1) c).map aL).drop (i+2)=(ss.map aL).drop (i+2):=by rw[<-Dp,<-Dp,List.drop_set_of_lt (by omega)]
  have k9:ex pg (call pg (n+36)) (τ A F C F G .x) (hdS (drp 8 f57.body))=.next (τ A F C F G .x):=bV (eA (cA (aAF v8 rfl (kJ _) x1 (by omega)) (aAF (v4 _ _ _ _ _) rfl (kJ _) x1 (by omega)) (by
   rw[q1,<-Dd]
   exact yH (aBE _))) (cA (aAG v8 rfl (kJ _) x2 (by omega)) (aAG (v4 _ _ _ _ _) rfl (kJ _) x2 (by omega)) (by
   rw[q2,<-Dp]
   exact yH (aBE _))))
  have c55':=rS n hb o gw gz hst hg W' hp' (i:Int)
  rw[rR (by rw[gW];exact hi),if_pos ha',aMy hi] at c55'
  have k10:ex pg (call pg (n+36)) (τ A F C F G .x) (hdS (drp 9 f57.body))=.next (τ A F C F G C):=bL (kH (v0 _ _ _ _ _ _) (v1 _ _ _ _ _ _) (n7 _ _) (v3 _ _ _ _ _ _) c55')
  let J:Sl:=.own false ((sw i ps).map aK++[.non])
  have k11:ex pg (call pg (n+36)) (τ A F C F G C) (hdS (drp 10 f57.body))=.next (τ A F C J G C):=gU (aC .non) rfl (by rw[lM,gW];unfold lim;omega) rfl rfl
  have k12:ex pg (call pg (n+36)) (τ A F C J G C) (hdS (drp 11 f57.body))=.next (τ A F C J G C):=bV (cA (bH 9 rfl) (v2 _ _ _ _ _ _) (yH (pH ps)))
  exact aG (F:=f57) rfl rfl (v:=.cl (.bl true)) (cs k1 (cs k2 (cs (k3 _) (cs k4 (cs (k5 _ _) (cs k6 (cs k7 (cs k8 (cs k9 (cs k10 (cs k11 (cs k12 (aS (kO (e7 _ _ _ _) (n5 _ _ _) (pH _)))))))))))))))
theorem aCS{P:Pg}{cl:Caller}{σ:Sg}{a b:E}{n:Nat}(h:ev P cl σ a=.ok (.cl (.int (-1))))(h2:ev P cl σ b=.ok (.cl (.int ((n:Int)+1))))(hn:n<=1000):walk P cl σ (.rng a b)=.ok ((List.range (n+2)).map (λ(k:Nat)=>Vl.cl (.int (-1+(k:Int)))),[]):=by
 rw[xT,h,aA,h2,aA]
 show R.iff (aN (-1)&&aN ((n:Int)+1)) (R.ok ((fM (-1) ((n:Int)+1)).map Vl.cl,[]))=_
 have s1:aN (-1)=true:=by decide
 rw[s1,aGs (by omega) (by omega)]
 show R.ok ((fM (-1) ((n:Int)+1)).map Vl.cl,[])=_
 unfold fM
 rw[show((n:Int)+1 - -1).toNat=n+2 by omega,A3]
 rfl
theorem pure(ns:List Int)(hn:ns.length<=63):∃fr pa,call pg 60 58 [.lst (ns.map D.int)]=.ok (.bl true,fr,pa):=by
 refine⟨false,false,aG (F:=f58) rfl rfl (v:=.cl (.bl true)) ?_⟩
 show exs pg (call pg 59) [.sh true (.lst (ns.map D.int)),.x,.x,.x,.x] _=_
 obtain⟨bs,hb,p,hs,o,c48⟩:=aAx 17 hn
 obtain⟨st,hst,hg,c49⟩:=aCF (hs:=hs) 26 hb hn p
 obtain⟨gw,gz⟩:=yO hb p
 obtain⟨q,hq,hq17⟩:=aCw ((nM ((ns++[0]).getD 0 0) 11).getD 10 0) (n:=17) (by decide)
 obtain⟨ps,ss,W,pl,c51⟩:=aCI (g:=cH p) 24 hb o hn hst (a:=4) (m:=4+q) (by decide) (by omega)
 have hp:ps.length<=100:=by omega
 let H:D:=aQ bs (cH p) hs
 let L:Sl->Sl->Sg:=λs3 s4=>[.sh true (.lst (ns.map D.int)),.sh false H,.sh false (aO st),s3,s4]
 let S:Sl:=.own false (ps.map aK)
 have v1:∀s3 s4,ev pg (call pg 59) (L s3 s4) (.v 1)=.ok (.cl H):=λ_ _=>aJ 1 rfl
 have v2:∀s3 s4,ev pg (call pg 59) (L s3 s4) (.v 2)=.ok (.cl (aO st)):=λ_ _=>aJ 2 rfl
 have v3:∀s4,ev pg (call pg 59) (L S s4) (.v 3)=.ok ⟨eP ps,false,false,[3]⟩:=λ_=>bH 3 rfl
 have k1:ex pg (call pg 59) [.sh true (.lst (ns.map D.int)),.x,.x,.x,.x] (hdS f58.body)=.next [.sh true (.lst (ns.map D.int)),.sh false H,.x,.x,.x]:=aV (cU (aM 0 rfl) c48)
 have k2:ex pg (call pg 59) [.sh true (.lst (ns.map D.int)),.sh false H,.x,.x,.x] (hdS (drp 1 f58.body))=.next (L .x .x):=aV (eI (aM 0 rfl) (aJ 1 rfl) c49)
 have k3:ex pg (call pg 59) (L .x .x) (hdS (drp 2 f58.body))=.next (L S .x):=by
  have e43:ev pg (call pg 59) (L .x .x) (.call 43 (.k (.idx (.op .Add (.v 0) (.lst (.k (.c (.int 0)) .z))) (.c (.int 0))) (.k (.c (.int 11)) .z)))=.ok ⟨.lst ((nM ((ns++[0]).getD 0 0) 11).map D.int),true,false,[]⟩:=dW (mQ (ms:=[0]) (k:=0) hn (by decide) rfl (aD (aC _) aY) (aC _) (by simp)) (aC (.int 11)) (fX (P:=pg) (f:=43) rfl 58 _ (m:=11) (by decide))
  have em:=cQ (aC (.int 4)) (fB (fK (k:=10) e43 rfl (aC _) (by rw[iA];decide)) (aC (.int 17)) (by decide))
  rw[show(17:Int)=((17:Nat):Int) from rfl,hq,show(4:Int)+(q:Int)=((4+q:Nat):Int) by omega] at em
  exact bL (yL (aM 0 rfl) (v1 _ _) (v2 _ _) (aC (.int 4)) em c51)
 have ln:ev pg (call pg 59) (L S .x) (.op .Add (.bi .len (.k (.v 3) .z)) (.c (.int 1)))=.ok (.cl (.int ((ps.length:Int)+1))):=by
  have:=cQ (eH (v3 .x) rfl) (aC (.int 1))
  rw[lM] at this
  exact this
 obtain⟨σ',ef,s4,rfl⟩:=dJ (P:=pg) (cl:=call pg 59) (σ:=L S .x) (t:=.n 4) (b:=match hdS (drp 3 f58.body) with|.for _ _ b=>b|_=>.z) (λi σ=>∃s4,σ=L S s4) (aCS (a:=.neg (.c (.int 1))) (n:=ps.length) rfl ln (by omega)) ⟨_,rfl⟩ λi hi σ ⟨s4,hσ⟩=>by
  subst hσ
  refine⟨L S (.sh false (.int (-1+(i:Int)))),_,?_,cL (bV (dF (k:=true) (aGz (v1 _ _) (v2 _ _) (v3 _) (aJ 4 rfl) (aCR 22 hb o gw gz hst hg W hp _)))),_,rfl⟩
  rw[A5,B0,eY];rfl
 exact cs k1 (cs k2 (cs k3 (cs ef (aS (aC _)))))
end K66
end
noncomputable section
set_option maxRecDepth 100000
set_option maxHeartbeats 0
namespace K66
open PySem PySem.W L2 Hp Hh
def ix:List (Nat×List Str):=(34,["one", "ahead", "behind", "word", "left", "right"]) ::
 (35,["cond", "ahead", "behind", "word", "left", "right"]) ::
 (51,["boxes", "way", "stand", "held", "box", "one", "amount"]) ::
 (18,["rows", "boxes"]) ::
 (19,["row"]) ::
 (20,["thing"]) ::
 (21,["boxes", "count", "name", "top"]) ::
 (22,["boxes", "found", "name", "top", "longer", "begun"]) ::
 (23,["boxes", "thing"]) ::
 (36,["boxes", "cond"]) ::
 (37,["one"]) ::
 (38,["one", "found", "inner"]) ::
 (53,["way", "found", "box", "one"]) ::
 (54,["way"]) ::
 (10,["thing"]) ::
 (11,["thing", "least", "most"]) ::
 (29,["boxes", "thing", "plain"]) ::
 (30,["boxes", "thing", "plain"]) ::
 (31,["boxes", "kind", "thing", "plain", "seen", "form", "due", "inner"]) ::
 (32,["kind", "thing", "plain", "word", "form"]) ::
 (33,["boxes", "due", "thing", "most"]) ::
 (45,["boxes", "thing"]) ::
 (46,["boxes", "thing", "end"]) ::
 (47,["boxes", "thing", "end"]) ::
 (48,["boxes", "thing"]) ::
 (49,["boxes", "thing", "least", "put"]) ::
 (50,["boxes", "thing", "least"]) ::
 (61,["boxes", "begin", "hands", "promises", "notes", "own_boxes", "own_begin", "own_hands", "own_promises", "own_notes"]) ::
 (52,["hand", "place"]) ::
 (62,["boxes", "thing", "plain"]) ::
 (63,["boxes", "thing", "count", "plain"]) ::
 (64,["boxes", "thing"]) ::
 (65,["boxes", "thing", "hands"]) ::
 (66,["hand"]) ::
 (67,["boxes", "hands", "count", "hand"]) ::
 (69,["house", "state", "step", "hand", "stand", "places", "row", "way", "further"]) ::
 (70,["house", "start", "steps", "state", "states", "number", "step"]) ::
 (71,["house", "start"]) ::
 (73,["house", "start", "steps", "states"]) ::
 (74,["house", "one", "other"]) ::
 (75,["house", "track", "way"]) ::
 (76,["one", "other"]) ::
 (77,["one", "other"]) ::
 (80,["_law_cell", "_law_many", "_law_found", "_law_number", "_law_k"]) ::
 (81,["_law_x", "_law_hand_here", "_law_shape", "_law_count"]) ::
 (82,["_law_xs", "_law_boxes", "_law_zone_here", "_law_box", "_law_number", "_law_found", "_law_other", "_law_some", "_law_more"]) ::
 (83,["_law_xs", "_law_boxes", "_law_zone_here", "_law_puts_here", "_law_k", "_law_box", "_law_top", "_law_other", "_law_some"]) ::
 (84,["_law_cell", "_law_boxes", "_law_hand_here", "_law_rows", "_law_shape", "_law_xs", "_law_zone_here", "_law_found", "_law_k", "_law_row", "_law_j", "_law_ys", "_law_place", "_law_guard_here"]) ::
 (85,["_law_script", "_law_xs", "_law_boxes", "_law_hands", "_law_hand_here", "_law_rows", "_law_cell", "_law_begin", "_law_notes"]) ::
 (86,["_law_script", "_law_house_here", "_law_some"]) ::
 (87,["_law_house_here", "_law_state", "_law_found", "_law_hand_here", "_law_way"]) ::
 (88,["_law_script", "_law_house_here", "_law_start_here", "_law_at", "_law_many", "_law_state", "_law_steps_here", "_law_k", "_law_goers_here", "_law_number", "_law_step"]) ::
 (89,["_law_part", "_law_found", "_law_one"]) ::
 (90,["_law_house_here", "_law_track", "_law_way", "_law_seen", "_law_box", "_law_one"]) ::
 (91,["_law_house_here", "_law_one", "_law_other", "_law_first", "_law_second", "_law_met"]) ::
 (78,["house", "start", "steps", "at", "told"]) ::
 (92,["_law_house_here", "_law_states", "_law_steps_here", "_law_at", "_law_one", "_law_other", "_law_first", "_law_second"]) ::
 (93,["_law_house_here", "_law_start_here", "_law_steps_here", "_law_at", "_law_states", "_law_due_here", "_law_handed", "_law_found", "_law_new", "_law_back"]) ::
 (94,["_law_script", "_law_house_here", "_law_start_here", "_law_steps_here", "_law_at"])::[]
def sn:Sn:=⟨[("MOST_BOXES",(.int 5)),("MOST_LETTERS",(.int 8)),("MOST_TOP",(.int 7)),("MOST_STANDS",(.int 24)),("LETTERS",(.str "abcdefghijklmnopqrstuvwxyz")),("MOST_PARTS",(.int 40)),("MOST_NUMBER",(.int 99)),("MOST_ROWS",(.int 8)),("MOST_WAYS",(.int 4)),("GUARD",(.int 0)),("PUTS",(.int 1)),("NEXT",(.int 2)),("MOST_HANDS",(.int 3)),("MOST_STATES",(.int 1000)),("BOXES",(.int 0)),("BEGIN",(.int 1)),("HANDS",(.int 2))],[("SUM_FORMS",[("number",["number"]),("box",["box"]),("after",["box"]),("plus",["sum", "sum"]),("minus",["sum", "sum"])]),("COND_FORMS",[("yes",[]),("is",["sum", "sum"]),("less",["sum", "sum"]),("not",["cond"]),("both",["cond", "cond"]),("either",["cond", "cond"])])]⟩
abbrev pw:=PySem.Challenge.pw_handpromise_k66_steps_traded
theorem chk:jI ⟨[],[],(ix.map (oK pw)).map (·.x),sn.cns,[],true,sn.tbs.map (·.1)⟩ pg.fns (ix.map (oK pw))=true:=by decide +kernel
theorem tw0:(pw.main.body.length != 0)=true:=by k_qdec
theorem lft:LeftO pw (tG pw) (uV pw) (λ_=>true) (λs=>kE pw sn s.heap) (λw=>nK pw sn w) 100000:=aJf (by kernel_rfl) rfl (λ_=>by kernel_rfl) λw os=>byRow2 "special-get-raises" (P:=λw=>aLS pw (tG pw) (uV pw) (λs=>kE pw sn s.heap) 100000 w os=some (true,openGood (tG pw) (uV pw),nK pw sn w)) (λw=>by
 have _:=tw0;unfold pw;rw[PySem.W.Fast.te7918516875154048157];kernel_rfl) (λw=>by
 have _:=tw0;unfold pw;rw[PySem.W.Fast.te7918516875154048157];kernel_rfl) w
end K66
end
noncomputable section
open PySem PySem.W PyProof.Rows Hh
set_option maxRecDepth 100000 in
set_option maxHeartbeats 0 in
theorem PySem.Challenge.cw_handpromise_k66_steps_traded_holds : PySem.Challenge.rw_handpromise_k66_steps_traded.Holds := by
 w_on; o_law; rename_i said
 refine aJk (l := PySem.Challenge.rw_handpromise_k66_steps_traded) (k := 59) (f := 58) (x := "_law_script") (sl := ["_law_house_here", "_law_start_here", "_law_steps_here", "_law_at"]) said K66.lft (by kernel_rfl) (by kernel_rfl) rfl rfl (by decide +kernel) ⟨rfl, rfl, rfl, rfl, rfl, by decide +kernel⟩ ?hw rfl rfl (by decide +kernel) (by decide +kernel) K66.chk rfl (by decide +kernel) ⟨rfl, rfl, by decide, by decide⟩ (by kernel_rfl) rfl K66.pure
 w_witness2
end
