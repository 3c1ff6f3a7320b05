import PyProof.Rows.All
import Wide.All
import OpenK.AllK
import Wide.FinOn
import Lean
import PyProof.EqAt
import PyProof.EqKinds
import PyProof.TupleCall
import PyProof.FactsAll.tuple_2
import PySem.Syntax
import PySem.Builtin.Str.Common
import PyProof.ReprReads
import PyProof.TupleKey
import PyProof.DictRoadsH
import PyProof.Rows.TupTab
import PyProof.RaisesMany
import PyProof.NeKinds
import PyProof.StrLaws
import PyProof.ReprRoads
import PyProof.FitsInt
import KE.KIsAll
import OpenK.KOwn
import PyProof.RulesDel
import PyProof.RulesAs
import PyProof.ExcArgsOwn
import PyProof.ExcAttrAll.ValueError
import PyProof.Rows.SetFrom
import PyProof.SetRoads
import PyProof.PureStr
import PyProof.ZipIter
import PyProof.StrWalks
import PyProof.EnumFor
import PyProof.EnumStmt
import PyProof.DictTable
import PyProof.ListNew
import PyProof.AutoListH
import PyProof.AttrMissHeap
import KE.KDictOf
import PySem.Challenge.RW_handpromise_k08_what_is_no_condition
set_option genSizeOf false
set_option genInjectivity false
set_option bootstrap.genMatcherCode false
set_option Elab.async false
set_option linter.all false
theorem nf{p:Prop}(h:false=true):p:=absurd h Bool.false_ne_true
def gS:=@List.getElem?_cons_succ.{0}
def gZ:=@List.getElem?_cons_zero.{0}
def lS:=@List.set_cons_succ.{0}
def lZ:=@List.set_cons_zero.{0}
def bF:=@Bool.false_eq_true
def lC:=@List.length_cons.{0}
def lN:=@List.length_nil.{0}
def lA:=@List.length_append.{0}
def mC:=@List.map_cons.{0,0}
def mN:=@List.map_nil.{0,0}
def lM:=@List.length_map.{0,0}
def mG:=@List.mem_of_getElem?.{0}
def bN:=@Bool.false_ne_true
def bA:=@Bool.and_eq_true
noncomputable section
set_option maxRecDepth 100000
namespace L2
open PySem PySem.Spec PyProof.Rows
abbrev Key:=Sum Int Str
def iJ:Key->Value->Bool
 | .inl k,v=>Value.isInt k v
 | .inr x,v=>Value.isStrOf x v
def aHF(w:World):Key->Int
 | .inl k=>hashInt k
 | .inr x=>hashStr w x
theorem keyIs_shape:∀{k:Key} {v:Value},iJ k v=true->(∃i t,k=Sum.inl i/\v=Value.int i t)\/(∃x t,k=Sum.inr x/\v=Value.str x t)
 | .inl i,v,h=>by
  obtain⟨t,e⟩:=Value.isInt_shape (k:=i) (v:=v) h
  exact .inl ⟨i,t,rfl,e⟩
 | .inr x,v,h=>by
  obtain⟨t,e⟩:=Value.isStrOf_shape (x:=x) (v:=v) h
  exact .inr ⟨x,t,rfl,e⟩
theorem tR(i:Int)(t:Tok):iJ (.inl i) (.int i t)=true:=by simp[iJ,Value.isInt]
theorem gL(x:Str)(t:Tok):iJ (.inr x) (.str x t)=true:=by simp[iJ,Value.isStrOf]
theorem aCC(a b:Int):decide ((Sum.inl a:Key)=Sum.inl b)=(a==b):=by
 by_cases e:a=b
 . subst e;simp
 . have h:¬ (Sum.inl a:Key)=Sum.inl b:=λq=>e (Sum.inl.inj q)
   rw[decide_eq_false h]
   exact(beq_eq_false_iff_ne.mpr e).symm
theorem aCD(a b:Str):decide ((Sum.inr a:Key)=Sum.inr b)=decide (a=b):=by
 by_cases e:a=b
 . subst e;simp
 . have h:¬ (Sum.inr a:Key)=Sum.inr b:=λq=>e (Sum.inr.inj q)
   rw[decide_eq_false h,decide_eq_false e]
theorem aCE(a:Int)(b:Str):decide ((Sum.inl a:Key)=Sum.inr b)=false:=decide_eq_false (λq=>nomatch q)
theorem aCF(a:Str)(b:Int):decide ((Sum.inr a:Key)=Sum.inl b)=false:=decide_eq_false (λq=>nomatch q)
def cA(prog:Program)(w:World):PySem.KeyKind prog w Key where
 is:=iJ
 hash:=aHF w
 inj:=λv a b ha hb=>by
  rcases keyIs_shape ha with⟨i,t,rfl,rfl⟩|⟨x,t,rfl,rfl⟩
  . rcases keyIs_shape hb with⟨j,u,rfl,e⟩|⟨y,u,rfl,e⟩
    . injection e with e1 _;rw[e1]
    . exact nomatch e
  . rcases keyIs_shape hb with⟨j,u,rfl,e⟩|⟨y,u,rfl,e⟩
    . exact nomatch e
    . injection e with e1 _;rw[e1]
 byValue:=λk v h=>by
  rcases keyIs_shape h with⟨i,t,rfl,rfl⟩|⟨x,t,rfl,rfl⟩ <;> rfl
 pyHash:=λhv h=>by
  rcases keyIs_shape hv with⟨i,t,rfl,rfl⟩|⟨x,t,rfl,rfl⟩
  . exact wpAny_pyHash_int h
  . exact wpAny_pyHash_str h
 eqBool:=λhu hv h=>by
  rcases keyIs_shape hu with⟨i,t,rfl,rfl⟩|⟨x,t,rfl,rfl⟩
  . rcases keyIs_shape hv with⟨j,u,rfl,rfl⟩|⟨y,u,rfl,rfl⟩
    . rw[aCC] at h;exact wpAny_eqBool_int h
    . rw[aCE] at h;exact SeqAt.EqAt.int_str i t y u _ _ _ _ h
  . rcases keyIs_shape hv with⟨j,u,rfl,rfl⟩|⟨y,u,rfl,rfl⟩
    . rw[aCF] at h;exact SeqAt.EqAt.str_int x t j u _ _ _ _ h
    . rw[aCD] at h;exact wpAny_eqBool_str h
 «strs»:=λk x t v h=>by
  rcases keyIs_shape h with⟨i,u,rfl,e⟩|⟨y,u,rfl,e⟩
  . exact nomatch e
  . injection e with e1 _
    subst e1
    cases v <;> rfl
end L2
namespace L2
open PySem PySem.Spec PyProof.Rows
inductive V where
 | non|bl (b:Bool)|int (i:Int)|str (x:Str)|byt (b:Array UInt8)|flt (b:UInt64)|ref (a:Addr)|ty (n:String)
 deriving DecidableEq
def aR:V->Value->Prop
 | .non,u=>u=Value.none
 | .bl b,u=>u=Value.bool b
 | .int i,u=>∃t,u=Value.int i t
 | .str x,u=>∃t,u=Value.str x t
 | .byt b,u=>∃t,u=Value.bytes b t
 | .flt b,u=>∃t,u=Value.float b t
 | .ref a,u=>u=Value.ref a
 | .ty n,u=>u=Value.type n
abbrev aJ:List V->List Value->Prop:=Paired aR
theorem aJ.length{xs:List V}{us:List Value}(r:aJ xs us):xs.length=us.length:=Paired.length r
theorem aJ.get:∀{xs:List V} {us:List Value} {i:Nat} {x:V},aJ xs us->xs[i]? = some x->∃u,us[i]? = some u/\aR x u
 | _,_,_,_,.nil,e=>by simp at e
 | _,_,0,_,.cons r _,e=>by simp at e;subst e;exact⟨_,rfl,r⟩
 | _,_,i+1,x,.cons _ t,e=>by
  obtain⟨u,h1,h2⟩:=aJ.get (i:=i) (x:=x) t (by simpa using e)
  exact⟨u,by simpa using h1,h2⟩
theorem aJ.set{x:V}{u:Value}(r:aR x u):∀{xs:List V} {us:List Value} (i:Nat),aJ xs us->aJ (xs.set i x) (us.set i u)
 | _,_,_,.nil=>.nil
 | _,_,0,.cons _ t=>.cons r t
 | _,_,i+1,.cons q t=>.cons q (aJ.set r i t)
theorem aJ.append:∀{xs ys:List V} {us ws:List Value},aJ xs us->aJ ys ws->aJ (xs++ys) (us++ws)
 | _,_,_,_,.nil,s=>s
 | _,_,_,_,.cons r t,s=>.cons r (aJ.append t s)
theorem aJ.take:∀{xs:List V} {us:List Value} (n:Nat),aJ xs us->aJ (xs.take n) (us.take n)
 | _,_,0,_=>.nil
 | _,_,_+1,.nil=>.nil
 | _,_,n+1,.cons r t=>.cons r (aJ.take n t)
theorem aJ.drop:∀{xs:List V} {us:List Value} (n:Nat),aJ xs us->aJ (xs.drop n) (us.drop n)
 | _,_,0,r=>r
 | _,_,_+1,.nil=>.nil
 | _,_,n+1,.cons _ t=>aJ.drop n t
def aEM:Option V->Option Value->Prop
 | some v,some u=>aR v u
 | none,none=>True
 | _,_=>False
def KV{κ:Type}:List (κ×V)->List (κ×Value)->Prop:=Paired λ(p:κ×V) (q:κ×Value)=>p.1=q.1/\aR p.2 q.2
def kV:Key->V
 | .inl i=>.int i
 | .inr x=>.str x
set_option genInjectivity true in
inductive HO where
 | lst (xs:List V)
 | tup (xs:List V)
 | dK (kvs:List (Key×V))|dT (kvs:List (List Key×V))
 | set (S:Int->Bool) (n:Nat)
 | ins (C dx:Addr) (fs:List (Str×V))
 | own (x:Addr)
 | xd (fs:List (Str×V))
 | met (f x:Addr)
 | rng (lo hi:Int)
 | frz (o:Obj) (u:HO)
 | tbl (ps:Array Value)
 | ext (φ:Heap->Prop)
abbrev Hp:=Addr->Option HO
def upd(H:Hp)(a:Addr)(o:HO):Hp:=λb=>if b=a then some o else H b
theorem aV{H:Hp}{a:Addr}{o:HO}:upd H a o a=some o:=by unfold upd;rw[if_pos rfl]
theorem aE{H:Hp}{a b:Addr}{o:HO}(h:b≠a):upd H a o b=H b:=by unfold upd;rw[if_neg h]
theorem aO{H:Hp}{a b:Addr}{o:HO}(h:H a=some o)(h':H b=none):a≠b:=by
 intro e;subst e;rw[h] at h';cases h'
section
variable (P:Program) (w:World)
def bW(H:Hp)(h:Heap)(a:Addr):HO->Prop
 | .lst xs=>xs.length<=sizeLine/\∃(its:List Value) (n:Nat),aJ xs its/\h.get? a=some { cls:=.type "list",data:=.seq its.toArray n }
 | .tup xs=>xs.length<=sizeLine/\∃its:List Value,aJ xs its/\IsTup h a its.toArray
 | .dK kvs=>kvs.length<=sizeLine/\(a==sysModules)=false/\∃vs,KV kvs vs/\h.DictOf (cA P w) a vs
 | .dT kvs=>kvs.length<=sizeLine/\(a==sysModules)=false/\∃xs:List (List Key×Addr×Value),
  Paired (λ(p:List Key×V) (q:List Key×Addr×Value)=>p.1=q.1/\H q.2.1=some (.tup (p.1.map kV))/\aR p.2 q.2.2) kvs xs /\
  ∃o es ep,h.get? a=some o/\o.ExactDict/\o.data=.dict es ep/\es.toList=xs.map (entryOfKey (tupleKind (cA P w)))/\(xs.map (·.1)).Nodup
 | .set S n=>h.SetOf (intKind P w) a S n
 | .ins C dx fs=>H dx=some (.own a)/\fs.length<=1000/\dx≠a/\h.get? a=some (PySem.W.instObj C dx) /\
  ∃mA,h.Ns1 dx mA/\(∀f,aEM (fs.lookup f) (mA f))/\PySem.Within mA (fs.map (·.1))
 | .own _=>∃o,h.get? a=some o
 | .xd fs=>∃mA,h.Ns1 a mA/\∀f,aEM (fs.lookup f) (mA f)
 | .rng lo hi=>∃t u v,h.get? a=some { cls:=.type "range",data:=.fields #[.int lo t,.int hi u,.int 1 v] }
 | .frz o u=>h.get? a=some o/\bW H h a u
 | .tbl ps=>h.get? a=some { cls:=.none,data:=.fields ps }
 | .met f x=>h.get? a=some (PySem.W.methodObj (.ref f) (.ref x))
 | .ext φ=>φ h/\(∃o,h.get? a=some o)/\∀h1 h2:Heap,φ h1->(∀o,h1.get? a=some o->h2.get? a=some o)->φ h2
def HOk(H:Hp)(h:Heap):Prop:=∀a o,H a=some o->bW P w H h a o
end
section
variable {P:Program} {w:World} {H H':Hp} {h h':Heap} {a:Addr} {o:HO}
theorem bW.lt(x:bW P w H h a o):a<h.objs.size:=by
 cases o with
 | lst xs=>obtain⟨_,_,_,_,e⟩:=x;exact Heap.lt_size e
 | tup xs=>obtain⟨_,_,_,p⟩:=x;exact p.lt
 | dK kvs=>obtain⟨_,_,_,_,o,_,_,e,_⟩:=x;exact Heap.lt_size e
 | dT kvs=>obtain⟨_,_,_,_,o,_,_,e,_⟩:=x;exact Heap.lt_size e
 | set S n=>obtain⟨o,_,_,_,e,_⟩:=x;exact Heap.lt_size e
 | ins C dx fs=>obtain⟨_,_,_,e,_⟩:=x;exact Heap.lt_size e
 | own y=>obtain⟨_,e⟩:=x;exact Heap.lt_size e
 | xd fs=>obtain⟨_,⟨_,_,_,e,_⟩,_⟩:=x;exact Heap.lt_size e
 | rng lo hi=>obtain⟨_,_,_,e⟩:=x;exact Heap.lt_size e
 | frz ob u=>obtain⟨e,_⟩:=x;exact Heap.lt_size e
 | tbl ps=>exact Heap.lt_size (show h.get? a=some _ from x)
 | met f y=>exact Heap.lt_size (show h.get? a=some _ from x)
 | ext φ=>obtain⟨_,⟨_,e⟩,_⟩:=x;exact Heap.lt_size e
theorem Paired.mapP{α β:Type}{F G:α->β->Prop}:∀{l₁:List α} {l₂:List β},Paired F l₁ l₂->(∀a b,F a b->G a b)->Paired G l₁ l₂
 | _,_,.nil,_=>.nil
 | _,_,.cons r t,f=>.cons (f _ _ r) (Paired.mapP t f)
theorem bW.stay(x:bW P w H h a o)(k:∀b u,(b=a\/H b=some (.own a))->h.get? b=some u->h'.get? b=some u)
 (ho:∀b,H b=some (.own a)->H' b=some (.own a)) (ht:∀b xs,H b=some (.tup xs)->H' b=some (.tup xs)):bW P w H' h' a o:=by
 induction o with
 | lst xs=>obtain⟨z,its,n,r,e⟩:=x;exact⟨z,its,n,r,k _ _ (.inl rfl) e⟩
 | tup xs=>obtain⟨z,its,r,ob,e,c⟩:=x;exact⟨z,its,r,ob,k _ _ (.inl rfl) e,c⟩
 | dK kvs=>obtain⟨z,y,vs,r,ob,es,ep,e,c⟩:=x;exact⟨z,y,vs,r,ob,es,ep,k _ _ (.inl rfl) e,c⟩
 | dT kvs=>
  obtain⟨z,y,xs,r,ob,es,ep,e,c⟩:=x
  exact⟨z,y,xs,Paired.mapP r λp q z=>⟨z.1,ht _ _ z.2.1,z.2.2⟩,ob,es,ep,k _ _ (.inl rfl) e,c⟩
 | set S n=>obtain⟨ob,es,ep,t,e,c⟩:=x;exact⟨ob,es,ep,t,k _ _ (.inl rfl) e,c⟩
 | ins C dx fs=>
  obtain⟨d,z,ne,e,mA,⟨od,es,ep,e2,c⟩,r⟩:=x
  exact⟨ho _ d,z,ne,k _ _ (.inl rfl) e,mA,⟨od,es,ep,k _ _ (.inr d) e2,c⟩,r⟩
 | own y=>obtain⟨ob,e⟩:=x;exact⟨ob,k _ _ (.inl rfl) e⟩
 | xd fs=>obtain⟨mA,⟨od,es,ep,e,c⟩,r⟩:=x;exact⟨mA,⟨od,es,ep,k _ _ (.inl rfl) e,c⟩,r⟩
 | rng lo hi=>obtain⟨t,u,v,e⟩:=x;exact⟨t,u,v,k _ _ (.inl rfl) e⟩
 | frz ob u ih=>obtain⟨e,q⟩:=x;exact⟨k _ _ (.inl rfl) e,ih q⟩
 | tbl ps=>
  have e:h.get? a=some { cls:=.none,data:=.fields ps }:=x
  show h'.get? a=some { cls:=.none,data:=.fields ps }
  exact k a _ (.inl rfl) e
 | met f y=>
  have e:h.get? a=some (PySem.W.methodObj (.ref f) (.ref y)):=x
  show h'.get? a=some (PySem.W.methodObj (.ref f) (.ref y))
  exact k a _ (.inl rfl) e
 | ext φ=>obtain⟨p,⟨o,e⟩,st⟩:=x;exact⟨st _ _ p λo q=>k _ _ (.inl rfl) q,⟨o,k _ _ (.inl rfl) e⟩,st⟩
theorem HOk.lt(x:HOk P w H h)(e:H a=some o):a<h.objs.size:=(x a o e).lt
theorem HOk.fresh(x:HOk P w H h)(e:h.objs.size<=a):H a=none:=by
 cases q:H a with
 | none=>rfl
 | some u=>exact absurd (Nat.lt_of_lt_of_le (x.lt q) e) (Nat.lt_irrefl _)
theorem HOk.kept(x:HOk P w H h)(k:∀b u,h.get? b=some u->h'.get? b=some u):HOk P w H h':=λa o e=>
 (x a o e).stay (λb u _ q=>k b u q) (λ_ q=>q) λ_ _ q=>q
theorem HOk.laid(x:HOk P w H h)(k:∀b u,h.get? b=some u->h'.get? b=some u)(hp:h.objs.size<=a)(new:bW P w (upd H a o) h' a o):HOk P w (upd H a o) h':=λb u e=>by
 have hn:=x.fresh hp
 by_cases hb:b=a
 . subst hb;rw[aV] at e;cases e;exact new
 . rw[aE hb] at e
   exact(x b u e).stay (λc v _ q=>k c v q) (λc q=>by rw[aE (aO q hn)];exact q) λc xs q=>by rw[aE (aO q hn)];exact q
end
def Rd(H:Hp)(a:Addr)(u:HO):Prop:=H a=some u\/∃o,H a=some (.frz o u)
theorem Rd.ok{P:Program}{w:World}{H:Hp}{h:Heap}{a:Addr}{u:HO}(r:Rd H a u)(x:HOk P w H h):bW P w H h a u:=by
 rcases r with r|⟨o,r⟩
 . exact x a u r
 . obtain⟨_,q⟩:=x a _ r
   exact q
def Mut:Option HO->Prop
 | some (.lst _)=>True
 | some (.dK _)=>True
 | some (.dT _)=>True
 | some (.set _ _)=>True
 | some (.ins _ _ _)=>True
 | some (.ext _)=>True
 | _=>False
section
variable {P:Program} {w:World} {H:Hp} {h h':Heap} {x e:Addr} {o':HO}
theorem HOk.write(ok:HOk P w H h)(mu:Mut (H x))(he:e=x\/H e=some (.own x))(k:∀b u,b≠e->h.get? b=some u->h'.get? b=some u)(heo:∃u,h'.get? e=some u)
 (new:bW P w (upd H x o') h' x o'):HOk P w (upd H x o') h':=λb u q=>by
 have nown:∀c y,H c=some (.own y)->c≠x:=λc y r z=>by subst z;rw[r] at mu;exact mu
 have ntup:∀c xs,H c=some (.tup xs)->c≠x:=λc xs r z=>by subst z;rw[r] at mu;exact mu
 by_cases hb:b=x
 . subst hb;rw[aV] at q;cases q;exact new
 . rw[aE hb] at q
   by_cases hbe:b=e
   . have q':H b=some (.own x):=by
      rcases he with z|z
      . exact absurd (hbe.trans z) hb
      . rw[hbe];exact z
     rw[q] at q';cases q'
     obtain⟨v,hv⟩:=heo
     exact⟨v,by rw[hbe];exact hv⟩
   . refine(ok b u q).stay (λc v hc r=>k c v ?_ r) (λc r=>by rw[aE (nown c b r)];exact r) λc xs r=>by rw[aE (ntup c xs r)];exact r
     rcases hc with rfl|hc
     . exact hbe
     . rintro rfl
       rcases he with z|z
       . exact nown c b hc z
       . rw[hc] at z;cases z;exact hb rfl
end
structure Un (fs ex:List Addr) (H H':Hp) (h h':Heap):Prop where
 keep:∀b o,h.get? b=some o->H b=none->b∉fs->b∉ex->h'.get? b=some o
 slot:∀b o,h.get? b=some o->H b=none->b∈fs->b∉ex->∃sl,h'.get? b=some { o with slots:=sl }
 free:∀b o,h.get? b=some o->H b=none->b∉ex->H' b=none
 there:∀b o,h.get? b=some o->b∉ex->∃o',h'.get? b=some o'
 tups:∀b xs,H b=some (.tup xs)->H' b=some (.tup xs)
 frzs:∀b o u,H b=some (.frz o u)->H' b=some (.frz o u)
 tbls:∀b ps,H b=some (.tbl ps)->∃more,H' b=some (.tbl (ps++more))
section
variable {fs fs' ex ex':List Addr} {H H1 H2:Hp} {h h1 h2 h':Heap} {a x e:Addr} {o:HO}
theorem Un.any(u:Un fs ex H H1 h h1){b:Addr}{ob:Obj}(q:h.get? b=some ob)(n:H b=none)(hx:b∉ex):∃sl,h1.get? b=some { ob with slots:=sl }:=by
 by_cases hb:b∈fs
 . exact u.slot b ob q n hb hx
 . exact⟨ob.slots,u.keep b ob q n hb hx⟩
theorem Un.kept(k:∀b u,h.get? b=some u->h'.get? b=some u):Un fs ex H H h h':=
 ⟨λb ob q _ _ _=>k b ob q,λb ob q _ _ _=>⟨ob.slots,k b ob q⟩,λ_ _ _ n _=>n,λb ob q _=>⟨ob,k b ob q⟩,λ_ _ q=>q,λ_ _ _ q=>q,λ_ ps q=>⟨#[],by rw[q];simp⟩⟩
theorem Un.refl:Un fs ex H H h h:=Un.kept λ_ _ q=>q
theorem Un.laid(k:∀b u,h.get? b=some u->h'.get? b=some u)(hp:h.objs.size<=a)(hn:H a=none):Un fs ex H (upd H a o) h h' where
 keep:=λb u q _ _ _=>k b u q
 slot:=λb u q _ _ _=>⟨u.slots,k b u q⟩
 free:=λb u q n _=>by rw[aE (Nat.ne_of_lt (Nat.lt_of_lt_of_le (Heap.lt_size q) hp))];exact n
 there:=λb u q _=>⟨u,k b u q⟩
 tups:=λb xs q=>by rw[aE (aO q hn)];exact q
 frzs:=λb u xs q=>by rw[aE (aO q hn)];exact q
 tbls:=λb ps q=>⟨#[],by rw[aE (aO q hn),q];simp⟩
theorem Un.write(mu:Mut (H x))(he:e=x\/H e=some (.own x))(k:∀b u,b≠e->h.get? b=some u->h'.get? b=some u)(heo:∃u,h'.get? e=some u):Un fs ex H (upd H x o) h h':=by
 have hx:∀b,H b=none->b≠x:=λb n z=>by subst z;rw[n] at mu;exact mu
 have hb:∀b,H b=none->b≠e:=λb n z=>by
  subst z
  rcases he with r|r
  . exact hx b n r
  . rw[n] at r;cases r
 have hm:∀b u,H b=some u->¬ Mut (some u)->b≠x:=λb u q nm z=>by subst z;rw[q] at mu;exact nm mu
 refine⟨λb u q n _ _=>k b u (hb b n) q,λb u q n _ _=>⟨u.slots,k b u (hb b n) q⟩,λb u q n _=>by rw[aE (hx b n)];exact n,λb u q _=>?_,
  λb xs q=>by rw[aE (hm b _ q λz=>z)];exact q,λb u xs q=>by rw[aE (hm b _ q λz=>z)];exact q,λb ps q=>⟨#[],by rw[aE (hm b _ q λz=>z),q];simp⟩⟩
 by_cases hbe:b=e
 . subst hbe;exact heo
 . exact⟨u,k b u hbe q⟩
end
def trk(h:Heap)(H:Hp):List Addr:=(List.range h.objs.size).filter λa=>(H a).isSome
def mE(h:Heap)(H:Hp):Heap:=PySem.W.hideAll h (trk h H)
theorem tS(h:Heap)(H:Hp):(mE h H).objs.size=h.objs.size:=PySem.W.hideAll_size _ _
theorem vN{h:Heap}{H:Hp}{b:Addr}{o:Obj}(e:h.get? b=some o)(n:H b=none):(mE h H).get? b=some o:=
 PySem.W.hideAll_get _ e λhm=>by
  have q:(H b).isSome=true:=(List.mem_filter.mp hm).2
  rw[n] at q;simp at q
theorem aAl{h:Heap}{H:Hp}{b:Addr}{o:Obj}(e:(mE h H).get? b=some o):h.get? b=some o/\H b=none:=by
 have e':h.get? b=some o:=PySem.W.of_hideAll (trk h H) e
 refine⟨e',?_⟩
 cases q:H b with
 | none=>rfl
 | some x=>
  have hm:b∈trk h H:=List.mem_filter.mpr ⟨List.mem_range.mpr (Heap.lt_size e'),by simp[q]⟩
  have z:(mE h H).get? b=none:=PySem.W.hideAll_none (trk h H) hm
  rw[z] at e;cases e
def aAm(g h:Heap)(L:Addr):List (Addr×Obj):=(List.range h.objs.size).filterMap λa=>if a=L\/(g.get? a).isSome=true then none else (h.get? a).map λo=>(a,o)
def rest(g h:Heap)(L d:Addr):List (Addr×Obj):=(aAm g h L).filter λp=>decide (p.1≠d)
end L2
namespace L2
open PySem PySem.Spec PyProof.Rows
structure Mod (K:PySem.W.Frag) (mg:Str->Option Value) (base:Heap):Prop where
 kin:K.In base
 glob:base.Ns mainGlobals mg
 blt:∃mb,base.Ns builtinsNs mb/\∀x:Str,x ≠ "__name__" -> mb x=bootBuiltins x
 nolimit:base.NoLimit
set_option genInjectivity true in
structure Cx where
 prog:Program
 w:World
 K:PySem.W.Frag
 mg:Str->Option Value
 base:Heap
 A:Around
 N:List Str
 s₀:Shared
 H₀:Hp
 env:Env
 outer:List Env
 stack:List Env
 ex:List Addr
 fn:Str->Bool
 calm:Bool
 pn:List (Addr×Obj)
 xe:Value->Shared->Prop
def frs(l:List Env):List Addr:=l.filterMap (·.frame)
abbrev Cx.fs(X:Cx):List Addr:=frs X.outer
def Vis(sc:Scope)(x:Str):Prop:=sc.names.lookup x=some .local\/sc.names.lookup x=some .cell\/sc.names.lookup x=some .free
def Loc(sc:Scope)(x:Str):Prop:=sc.names.lookup x=some .local\/sc.names.lookup x=some .cell
def aHG(env:Env)(h:Heap)(m:Str->Option Value)(x:Str)(u:Value):Prop:=
 (env.kindOf x=some .local/\m x=some u)\/((env.kindOf x=some .cell\/env.kindOf x=some .free)/\∃c,env.cells.lookup x=some c/\h.IsCell c (some u))
structure Cx.Ok (X:Cx):Prop where
 mod:Mod X.K X.mg X.base
 kind:X.env.scope.kind=.function
 glob:X.env.globals=mainGlobals
 blt:X.env.builtins=builtinsNs
 above:X.s₀.heap.objs.size<=X.env.locals
 inj:∀x y c,X.env.cells.lookup x=some c->X.env.cells.lookup y=some c->x=y
 has:∀x,(X.env.kindOf x=some .cell\/X.env.kindOf x=some .free)->∃c,X.env.cells.lookup x=some c
 cab:∀x c,X.fn x=true->X.env.cells.lookup x=some c->X.s₀.heap.objs.size<=c
 hd:X.calm=true->X.A.handled=none
 frames:X.A.frames=some X.stack
 stk:X.stack=X.outer\/(X.stack=X.env::X.outer/\X.env.frame=some X.env.locals)
 exf:∀b∈X.ex,b≠X.env.locals/\∀x c,X.env.cells.lookup x=some c->c≠b
 bs:∀b o,X.base.get? b=some o->X.s₀.heap.get? b=some o/\X.H₀ b=none
 bsz:X.base.objs.size<=X.s₀.heap.objs.size
 noex:∀b o,X.base.get? b=some o->b∉X.ex
 exfs:∀b∈X.ex,b∉X.fs
 funs:X.s₀.heap.FunFrames X.base X.outer
 frf:∀b∈X.fs,X.H₀ b=none
structure Inv (X:Cx) (pins:List (Addr×Obj)) (σ:List (Option V)) (H:Hp) (s:Shared):Prop where
 ok:X.Ok
 os:s.os=X.s₀.os
 bare:AllBare s.gens
 base:Un X.fs X.ex X.H₀ H X.s₀.heap s.heap
 loc:∃m,s.heap.Ns X.env.locals m/\∀(i:Nat) (x:Str) (v:V),X.N[i]? = some x->σ[i]? = some (some v)->Vis X.env.scope x->∃u,aR v u/\aHG X.env s.heap m x u
 cell:∀x c,X.env.cells.lookup x=some c->∃v,s.heap.IsCell c v
 free:H X.env.locals=none
 freeC:∀x c,X.env.cells.lookup x=some c->H c=none
 pin:∀p∈X.pn++pins,s.heap.get? p.1=some p.2/\H p.1=none/\p.1≠X.env.locals/\p.1∉X.fs/\∀v,p.2.data≠.cell v
 hok:HOk X.prog X.w H s.heap
 len:σ.length=X.N.length
section
variable {X:Cx} {pins:List (Addr×Obj)} {σ:List (Option V)} {H H':Hp} {s:Shared} {h':Heap}
theorem Cx.Ok.nofr(ok:X.Ok){b:Addr}{o:Obj}(e:X.base.get? b=some o):b∉X.fs:=λhb=>by
 have:=(ok.funs.mem hb).1
 rw[e] at this;cases this
theorem Inv.bs(I:Inv X pins σ H s):∀b o,X.base.get? b=some o->s.heap.get? b=some o/\H b=none:=λb o e=>
 ⟨I.base.keep b o (I.ok.bs b o e).1 (I.ok.bs b o e).2 (I.ok.nofr e) (I.ok.noex b o e),I.base.free b o (I.ok.bs b o e).1 (I.ok.bs b o e).2 (I.ok.noex b o e)⟩
theorem Inv.bk(I:Inv X pins σ H s):∀b o,X.base.get? b=some o->s.heap.get? b=some o:=λb o e=>(I.bs b o e).1
theorem Inv.mod(I:Inv X pins σ H s):Mod X.K X.mg X.base:=I.ok.mod
theorem Inv.kIn(I:Inv X pins σ H s):X.K.In s.heap:=I.ok.mod.kin.keeps I.bk
theorem Inv.lt(I:Inv X pins σ H s):X.env.locals<s.heap.objs.size:=let ⟨_,hn,_⟩:=I.loc;hn.lt
theorem Inv.sz(I:Inv X pins σ H s):X.s₀.heap.objs.size<=s.heap.objs.size:=Nat.le_trans I.ok.above (Nat.le_of_lt I.lt)
theorem Inv.nofs(I:Inv X pins σ H s){a:Addr}(h:s.heap.objs.size<=a):a∉X.fs:=λhb=>by
 obtain⟨_,o,ho,_⟩:=I.ok.funs.mem hb
 exact absurd (Nat.lt_of_lt_of_le (Heap.lt_size ho) (Nat.le_trans I.sz h)) (Nat.lt_irrefl _)
theorem Inv.cne(I:Inv X pins σ H s):∀x c,X.env.cells.lookup x=some c->c≠X.env.locals:=λx c e z=>by
 obtain⟨v,o,ho,hd⟩:=I.cell x c e
 obtain⟨m,⟨o',es,ep,ho',hd',_⟩,_⟩:=I.loc
 rw[z,ho'] at ho;cases ho;rw[hd'] at hd;cases hd
theorem Inv.funs(I:Inv X pins σ H s):s.heap.FunFrames X.base X.outer:=by
 have all:∀(l:List Env),(∀b∈frs l,b∈X.fs)->X.s₀.heap.FunFrames X.base l->s.heap.FunFrames X.base l:=by
  intro l
  induction l with
  | nil=>intro _ _;trivial
  | cons env r ih=>
   intro hs hl
   obtain⟨hk,⟨L,o,hf,hn,ho,hd⟩,hr⟩:=hl
   have hL:L∈X.fs:=hs L (by unfold frs;rw[List.filterMap_cons,hf];exact List.mem_cons_self)
   obtain⟨sl,e⟩:=I.base.slot L o ho (I.ok.frf L hL) hL λz=>I.ok.exfs L z hL
   exact⟨hk,⟨L,_,hf,hn,e,hd⟩,ih (λb hb=>hs b (by unfold frs;rw[List.filterMap_cons,hf];exact List.mem_cons_of_mem _ hb)) hr⟩
 exact all X.outer (λ_ hb=>hb) I.ok.funs
theorem Inv.stack(I:Inv X pins σ H s):s.heap.FunFrames X.base X.stack:=by
 rcases I.ok.stk with e|⟨e,hf⟩
 . rw[e];exact I.funs
 . rw[e]
   obtain⟨m,hn,_⟩:=I.loc
   refine .cons (by rw[I.ok.kind];decide) hf hn ?_ I.funs
   exact Heap.get?_none_of_le (Nat.le_trans I.ok.bsz I.ok.above)
theorem Inv.stkSub(I:Inv X pins σ H s):∀b∈frs X.stack,b∈X.env.locals::X.fs:=λb hb=>by
 rcases I.ok.stk with e|⟨e,hf⟩
 . rw[e] at hb;exact List.mem_cons_of_mem _ hb
 . rw[e] at hb
   unfold frs at hb
   rw[List.filterMap_cons,hf] at hb
   exact hb
theorem Inv.stkFree(I:Inv X pins σ H s):∀b∈frs X.stack,H b=none:=λb hb=>by
 rcases List.mem_cons.mp (I.stkSub b hb) with e|hb
 . rw[e];exact I.free
 . obtain⟨_,o,ho,_⟩:=I.ok.funs.mem hb
   exact I.base.free b o ho (I.ok.frf b hb) λz=>I.ok.exfs b z hb
theorem Inv.step{g':Array GenState}{t':Nat}{d':Drawn}{ch:List Addr}(I:Inv X pins σ H s)
 (hch:∀b∈ch,(b∈X.ex\/X.s₀.heap.objs.size<=b)/\b≠X.env.locals/\(∀x c,X.env.cells.lookup x=some c->c≠b)/\∀p∈X.pn++pins,p.1≠b)
 (keep:∀b o,b≠X.env.locals->b∉X.fs->b∉ch->s.heap.get? b=some o->H b=none->h'.get? b=some o)
 (slot:∀b o,b≠X.env.locals->b∈X.fs->b∉ch->s.heap.get? b=some o->H b=none->∃sl,h'.get? b=some { o with slots:=sl }) (free:∀b o,b∉ch->s.heap.get? b=some o->H b=none->H' b=none)
 (there:∀b o,b∉ch->s.heap.get? b=some o->∃o',h'.get? b=some o')
 (tups:∀b xs,H b=some (.tup xs)->H' b=some (.tup xs)) (frzs:∀b o u,H b=some (.frz o u)->H' b=some (.frz o u)) (tbls:∀b ps,H b=some (.tbl ps)->∃more,H' b=some (.tbl (ps++more)))
 (ns:∀m,s.heap.Ns X.env.locals m->h'.Ns X.env.locals m) (hok:HOk X.prog X.w H' h') (hg:AllBare g') :
 Inv X pins σ H' { s with heap:=h',gens:=g',drawn:=d',toks:=t' }:=by
 have neL:∀b o,X.s₀.heap.get? b=some o->b≠X.env.locals:=λb o e=>Nat.ne_of_lt (Nat.lt_of_lt_of_le (Heap.lt_size e) I.ok.above)
 have neC:∀b o,X.s₀.heap.get? b=some o->b∉X.ex->b∉ch:=λb o e hx hb=>by
  rcases(hch b hb).1 with z|z
  . exact hx z
  . exact absurd (Nat.lt_of_lt_of_le (Heap.lt_size e) z) (Nat.lt_irrefl _)
 have cellK:∀x c,X.env.cells.lookup x=some c->∀v,s.heap.IsCell c v->h'.IsCell c v:=λx c e v ⟨o,ho,hd⟩=>by
  have nch:c∉ch:=λz=>(hch c z).2.2.1 x c e rfl
  by_cases hc:c∈X.fs
  . obtain⟨sl,q⟩:=slot c o (I.cne x c e) hc nch ho (I.freeC x c e)
    exact⟨_,q,hd⟩
  . exact⟨o,keep c o (I.cne x c e) hc nch ho (I.freeC x c e),hd⟩
 refine⟨I.ok,I.os,hg,⟨λb o e n hb hx=>?_,λb o e n hb hx=>?_,λb o e n hx=>?_,λb o e hx=>?_,λb xs e=>tups b xs (I.base.tups b xs e),λb o xs e=>frzs b o xs (I.base.frzs b o xs e),λb ps e=>?_⟩,?_,λx c e=>?_,?_,λx c e=>?_,λp hp=>?_,hok,I.len⟩
 . exact keep b o (neL b o e) hb (neC b o e hx) (I.base.keep b o e n hb hx) (I.base.free b o e n hx)
 . obtain⟨sl,e1⟩:=I.base.slot b o e n hb hx
   obtain⟨sl',e2⟩:=slot b _ (neL b o e) hb (neC b o e hx) e1 (I.base.free b o e n hx)
   exact⟨sl',e2⟩
 . obtain⟨o',e1⟩:=I.base.there b o e hx
   exact free b o' (neC b o e hx) e1 (I.base.free b o e n hx)
 . obtain⟨o',e1⟩:=I.base.there b o e hx
   exact there b o' (neC b o e hx) e1
 . obtain⟨m1,e1⟩:=I.base.tbls b ps e
   obtain⟨m2,e2⟩:=tbls b _ e1
   exact⟨m1++m2,by rw[e2,Array.append_assoc]⟩
 . obtain⟨m,hn,hl⟩:=I.loc
   refine⟨m,ns m hn,λi x v e1 e2 e3=>?_⟩
   obtain⟨u,r,l⟩:=hl i x v e1 e2 e3
   refine⟨u,r,?_⟩
   rcases l with l|⟨k,c,e,z⟩
   . exact .inl l
   . exact .inr ⟨k,c,e,cellK x c e _ z⟩
 . obtain⟨v,z⟩:=I.cell x c e
   exact⟨v,cellK x c e v z⟩
 . obtain⟨m,⟨o,_,_,ho,_⟩,_⟩:=I.loc
   exact free _ o (λz=>(hch _ z).2.1 rfl) ho I.free
 . obtain⟨v,o,ho,hd⟩:=I.cell x c e
   exact free c o (λz=>(hch c z).2.2.1 x c e rfl) ho (I.freeC x c e)
 . obtain⟨e,n,ne,nf,d⟩:=I.pin p hp
   have nch:p.1∉ch:=λz=>(hch p.1 z).2.2.2 p hp rfl
   exact⟨keep p.1 p.2 ne nf nch e n,free p.1 p.2 nch e n,ne,nf,d⟩
theorem Inv.un{t':Nat}(I:Inv X pins σ H s)(u:Un X.fs [] H H' s.heap h')(hok:HOk X.prog X.w H' h'):Inv X pins σ H' { s with heap:=h',toks:=t' }:=by
 obtain⟨m,⟨o,es,ep,ho,r⟩,_⟩:=id I.loc
 obtain⟨sl,hL⟩:=u.any ho I.free (by simp)
 exact I.step (g':=s.gens) (d':=s.drawn) (ch:=[]) (λ_ z=>nomatch z) (λb o _ hb _ e n=>u.keep b o e n hb (by simp)) (λb o _ hb _ e n=>u.slot b o e n hb (by simp)) (λb o _ e n=>u.free b o e n (by simp)) (λb o _ e=>u.there b o e (by simp)) u.tups u.frzs u.tbls (λm' hm=>by
  obtain⟨o',es',ep',ho',r'⟩:=hm
  rw[ho] at ho';cases ho'
  exact⟨_,es',ep',hL,r'⟩) hok I.bare
theorem Inv.call{g':Array GenState}{t':Nat}{d':Drawn}{ch:List Addr}(I:Inv X pins σ H s)(u:Un (frs X.stack) ch H H' s.heap h')(hok:HOk X.prog X.w H' h')(hg:AllBare g')
 (hch:∀b∈ch,(b∈X.ex\/X.s₀.heap.objs.size<=b)/\b≠X.env.locals/\(∀x c,X.env.cells.lookup x=some c->c≠b)/\∀p∈X.pn++pins,p.1≠b) :
 Inv X pins σ H' { s with heap:=h',gens:=g',drawn:=d',toks:=t' }:=by
 obtain⟨m,⟨o,es,ep,ho,r⟩,_⟩:=id I.loc
 obtain⟨sl,hL⟩:=u.any ho I.free λz=>(hch _ z).2.1 rfl
 exact I.step (ch:=ch) hch (λb o hL hb hc e n=>u.keep b o e n (λz=>(List.mem_cons.mp (I.stkSub b z)).elim hL hb) hc) (λb o _ _ hc e n=>u.any e n hc) (λb o hc e n=>u.free b o e n hc) (λb o hc e=>u.there b o e hc) u.tups u.frzs u.tbls (λm' hm=>by
  obtain⟨o',es',ep',ho',r'⟩:=hm
  rw[ho] at ho';cases ho'
  exact⟨_,es',ep',hL,r'⟩) hok hg
theorem Inv.turned{t':Nat}{it:Addr}(I:Inv X pins σ H s)(k:∀b o,b≠it->s.heap.get? b=some o->h'.get? b=some o)(hn:H it=none)(hL:it≠X.env.locals)
 (h1:it∈X.ex\/X.s₀.heap.objs.size<=it) (h2:∀x c,X.env.cells.lookup x=some c->c≠it) (h3:∀p∈X.pn++pins,p.1≠it):Inv X pins σ H { s with heap:=h',toks:=t' }:=by
 have nit:∀b u,H b=some u->b≠it:=λb u e z=>by rw[z,hn] at e;cases e
 refine I.step (g':=s.gens) (d':=s.drawn) (ch:=[it]) (λb hb=>?_) (λb o _ _ hc e _=>k b o (λz=>hc (by simp[z])) e) (λb o _ _ hc e _=>⟨o.slots,k b o (λz=>hc (by simp[z])) e⟩) (λ_ _ _ _ n=>n)
  (λb o hc e=>⟨o,k b o (λz=>hc (by simp[z])) e⟩) (λ_ _ e=>e) (λ_ _ _ e=>e) (λb ps e=>⟨#[],by rw[e];simp⟩) (λm hm=>?_) (λb u e=>?_) I.bare
 . have e:b=it:=by simpa using hb
   subst e
   exact⟨h1,hL,h2,h3⟩
 . obtain⟨o,es,ep,ho,r⟩:=hm
   exact⟨o,es,ep,k _ o (Ne.symm hL) ho,r⟩
 . refine(I.hok b u e).stay (λc v hc q=>k c v ?_ q) (λ_ q=>q) λ_ _ q=>q
   rcases hc with z|z
   . rw[z];exact nit b u e
   . exact nit c _ z
theorem Inv.tok(I:Inv X pins σ H s)(t:Nat):Inv X pins σ H { s with toks:=t }:=I.un (h':=s.heap) (t':=t) Un.refl I.hok
theorem Inv.kept{t':Nat}(I:Inv X pins σ H s)(k:∀b u,s.heap.get? b=some u->h'.get? b=some u):Inv X pins σ H { s with heap:=h',toks:=t' }:=I.un (Un.kept k) (I.hok.kept k)
theorem Inv.laid{a:Addr}{o:HO}{t':Nat}(I:Inv X pins σ H s)(k:∀b u,s.heap.get? b=some u->h'.get? b=some u)(hp:s.heap.objs.size<=a)(new:bW X.prog X.w (upd H a o) h' a o) :
 Inv X pins σ (upd H a o) { s with heap:=h',toks:=t' }:=I.un (Un.laid k hp (I.hok.fresh hp)) (I.hok.laid k hp new)
theorem Inv.write{x e:Addr}{o:HO}{t':Nat}(I:Inv X pins σ H s)(mu:Mut (H x))(he:e=x\/H e=some (.own x))(k:∀b u,b≠e->s.heap.get? b=some u->h'.get? b=some u)(heo:∃u,h'.get? e=some u)
 (new:bW X.prog X.w (upd H x o) h' x o):Inv X pins σ (upd H x o) { s with heap:=h',toks:=t' }:=I.un (Un.write mu he k heo) (I.hok.write mu he k heo new)
theorem Inv.pins_of{pins':List (Addr×Obj)}(I:Inv X pins σ H s)(h:∀p∈pins',s.heap.get? p.1=some p.2/\H p.1=none/\p.1≠X.env.locals/\p.1∉X.fs/\∀v,p.2.data≠.cell v):Inv X pins' σ H s:=
 ⟨I.ok,I.os,I.bare,I.base,I.loc,I.cell,I.free,I.freeC,λp hp=>(List.mem_append.mp hp).elim (λz=>I.pin p (List.mem_append_left _ z)) (h p),I.hok,I.len⟩
theorem jG{N:List Str}(hN:N.Nodup){i j:Nat}{x:Str}(a:N[i]? = some x)(b:N[j]? = some x):i=j:=by
 obtain⟨h1,e1⟩:=List.getElem?_eq_some_iff.mp a
 obtain⟨h2,e2⟩:=List.getElem?_eq_some_iff.mp b
 exact(List.getElem_inj hN).mp (e1.trans e2.symm)
theorem kQ{M:Model}{A:Around}{E:Value->Shared->Prop}{i:Nat}{x:Str}{v:V}{u:Value}{Q:Unit->Shared->Prop}(I:Inv X pins σ H s)(hN:X.N.Nodup)(hi:X.N[i]? = some x)(hx:Loc X.env.scope x)(r:aR v u)
 (h:∀s',Inv X pins (σ.set i (some v)) H s'->(∃a,Heap.SameBut a s.heap s'.heap/\(a=X.env.locals\/X.env.cells.lookup x=some a))->Q () s') (hf:X.fn x=true\/X.env.scope.names.lookup x=some .local:=by first|exact .inl rfl|exact .inr rfl|assumption):wpAny M A (storeName X.env x u) Q E s:=by
 obtain⟨m,hn,hl⟩:=id I.loc
 have hcls:(X.env.scope.kind==.class||(X.env.scope.kind==.module&&X.env.locals != X.env.globals))=false:=by rw[I.ok.kind];rfl
 have hiσ:i<σ.length:=by rw[I.len];exact(List.getElem?_eq_some_iff.mp hi).1
 have cne:=I.cne
 have tracked:∀{a:Addr} {h':Heap},(∃o,s.heap.get? a=some o/\H a=none)->Heap.SameBut a s.heap h'->HOk X.prog X.w H h':=λ{a h'} ha hs b ob e=>by
  obtain⟨_,_,hfree⟩:=ha
  refine(I.hok b ob e).stay (λc w' hc q=>(hs.2 c ?_).trans q) (λ_ q=>q) λ_ _ q=>q
  rintro rfl
  rcases hc with rfl|hc
  . rw[hfree] at e;cases e
  . rw[hfree] at hc;cases hc
 rcases hx with hk|hk
 . refine wpAny_storeName_local hk hn (λh' hn' hs=>?_) hcls
   obtain⟨oL,_,_,hoL,_⟩:=id hn
   refine h _ ⟨I.ok,I.os,I.bare,⟨λb o e n hb hx=>?_,λb o e n hb hx=>?_,I.base.free,λb o e hx=>?_,I.base.tups,I.base.frzs,I.base.tbls⟩,⟨_,hn',λj y v' e1 e2 e3=>?_⟩,λy c e=>?_,I.free,I.freeC,λp hp=>?_,tracked ⟨oL,hoL,I.free⟩ hs,by simpa using I.len⟩ ⟨_,hs,.inl rfl⟩
   . exact(hs.2 b (Nat.ne_of_lt (Nat.lt_of_lt_of_le (Heap.lt_size e) I.ok.above))).trans (I.base.keep b o e n hb hx)
   . obtain⟨sl,e1⟩:=I.base.slot b o e n hb hx
     exact⟨sl,(hs.2 b (Nat.ne_of_lt (Nat.lt_of_lt_of_le (Heap.lt_size e) I.ok.above))).trans e1⟩
   . obtain⟨o',e1⟩:=I.base.there b o e hx
     exact⟨o',(hs.2 b (Nat.ne_of_lt (Nat.lt_of_lt_of_le (Heap.lt_size e) I.ok.above))).trans e1⟩
   . by_cases hj:j=i
     . subst hj
       rw[hi] at e1;cases e1
       rw[List.getElem?_set_self hiσ] at e2
       cases e2
       exact⟨u,r,.inl ⟨hk,by simp⟩⟩
     . rw[List.getElem?_set_ne (Ne.symm hj)] at e2
       obtain⟨u',r',q⟩:=hl j y v' e1 e2 e3
       refine⟨u',r',?_⟩
       rcases q with⟨k,e⟩|⟨k,c,e,z⟩
       . refine .inl ⟨k,?_⟩
         have:y≠x:=λe=>hj (jG hN e1 (e▸hi))
         simp[this,e]
       . exact .inr ⟨k,c,e,z.sameBut hs (cne y c e)⟩
   . obtain⟨w',z⟩:=I.cell y c e
     exact⟨w',z.sameBut hs (cne y c e)⟩
   . obtain⟨e,n,ne,nf,d⟩:=I.pin p hp
     exact⟨(hs.2 p.1 ne).trans e,n,ne,nf,d⟩
 . have hfn:X.fn x=true:=by
    rcases hf with z|z
    . exact z
    . rw[z] at hk;cases hk
   obtain⟨c,hc⟩:=I.ok.has x (.inl hk)
   obtain⟨w',z⟩:=I.cell x c hc
   refine wpAny_storeName_cell I.ok.kind hk hc z (λh' hc' hs=>?_)
   obtain⟨oc,hoc,hocd⟩:=id z
   refine h { s with heap:=h' } ⟨I.ok,I.os,I.bare,⟨λb o e n hb hx=>?_,λb o e n hb hx=>?_,I.base.free,λb o e hx=>?_,I.base.tups,I.base.frzs,I.base.tbls⟩,⟨m,hn.sameBut hs (Ne.symm (cne x c hc)),λj y v' e1 e2 e3=>?_⟩,λy c' e=>?_,I.free,I.freeC,λp hp=>?_,tracked ⟨oc,hoc,I.freeC x c hc⟩ hs,by simpa using I.len⟩ ⟨c,hs,.inr hc⟩
   . exact(hs.2 b (Nat.ne_of_lt (Nat.lt_of_lt_of_le (Heap.lt_size e) (I.ok.cab x c hfn hc)))).trans (I.base.keep b o e n hb hx)
   . obtain⟨sl,e1⟩:=I.base.slot b o e n hb hx
     exact⟨sl,(hs.2 b (Nat.ne_of_lt (Nat.lt_of_lt_of_le (Heap.lt_size e) (I.ok.cab x c hfn hc)))).trans e1⟩
   . obtain⟨o',e1⟩:=I.base.there b o e hx
     exact⟨o',(hs.2 b (Nat.ne_of_lt (Nat.lt_of_lt_of_le (Heap.lt_size e) (I.ok.cab x c hfn hc)))).trans e1⟩
   . by_cases hj:j=i
     . subst hj
       rw[hi] at e1;cases e1
       rw[List.getElem?_set_self hiσ] at e2
       cases e2
       exact⟨u,r,.inr ⟨.inl hk,c,hc,hc'⟩⟩
     . rw[List.getElem?_set_ne (Ne.symm hj)] at e2
       obtain⟨u',r',q⟩:=hl j y v' e1 e2 e3
       refine⟨u',r',?_⟩
       rcases q with q|⟨k,c',e,z'⟩
       . exact .inl q
       . refine .inr ⟨k,c',e,z'.sameBut hs ?_⟩
         rintro rfl
         exact hj (jG hN e1 (I.ok.inj _ _ _ e hc▸hi))
   . by_cases hcc:c'=c
     . subst hcc;exact⟨_,hc'⟩
     . obtain⟨w2,z2⟩:=I.cell y c' e
       exact⟨w2,z2.sameBut hs hcc⟩
   . obtain⟨e,n,ne,nf,d⟩:=I.pin p hp
     refine⟨(hs.2 p.1 ?_).trans e,n,ne,nf,d⟩
     intro q
     rw[q,hoc] at e
     have q':oc=p.2:=Option.some.inj e
     exact d w' (by rw[<-q'];exact hocd)
theorem fS{M:Model}{A:Around}{E:Value->Shared->Prop}{i:Nat}{x:Str}{v:V}{u:Value}{Q:Unit->Shared->Prop}(I:Inv X pins σ H s)(hN:X.N.Nodup)(hi:X.N[i]? = some x)(hx:Loc X.env.scope x)(r:aR v u)
 (h:∀s',Inv X pins (σ.set i (some v)) H s'->Q () s') (hf:X.fn x=true\/X.env.scope.names.lookup x=some .local:=by first|exact .inl rfl|exact .inr rfl|assumption):wpAny M A (storeName X.env x u) Q E s:=
 kQ I hN hi hx r (λs' I' _=>h s' I') hf
theorem Inv.call'{s':Shared}{ch:List Addr}(I:Inv X pins σ H s)(ho:s'.os=s.os)(u:Un (frs X.stack) ch H H' s.heap s'.heap)(hok:HOk X.prog X.w H' s'.heap)(hg:AllBare s'.gens)
 (hch:∀b∈ch,(b∈X.ex\/X.s₀.heap.objs.size<=b)/\b≠X.env.locals/\(∀x c,X.env.cells.lookup x=some c->c≠b)/\∀p∈X.pn++pins,p.1≠b):Inv X pins σ H' s':=by
 obtain⟨h',g',d',t',o'⟩:=s'
 have e:o'=s.os:=ho
 subst e
 exact I.call (g':=g') (t':=t') (d':=d') u hok hg hch
end
abbrev XK:=Value->Option Addr->Hp->Prop
abbrev St:=List (Option V)
abbrev VK:=V->Hp->Prop
abbrev TE:=St->Hp->VK->Prop
abbrev TT:=St->Hp->(Bool->Hp->Prop)->Prop
abbrev TA:=St->Hp->(List V->Hp->Prop)->Prop
structure Ends where
 nx:St->Hp->Prop
 rt:VK
 bk:St->Hp->Prop:=λ_ _=>False
 ct:St->Hp->Prop:=λ_ _=>False
abbrev TS:=Ends->St->Hp->Prop
def EP(X:Cx)(pins:List (Addr×Obj))(σ:St)(Q:VK)(u:Value)(s':Shared):Prop:=∃v H',Inv X pins σ H' s'/\aR v u/\Q v H'
def TP(X:Cx)(pins:List (Addr×Obj))(σ:St)(Q:Bool->Hp->Prop)(b:Bool)(s':Shared):Prop:=∃H',Inv X pins σ H' s'/\Q b H'
def AP(X:Cx)(pins:List (Addr×Obj))(σ:St)(Q:List V->Hp->Prop)(us:List Value)(s':Shared):Prop:=∃vs H',Inv X pins σ H' s'/\aJ vs us/\Q vs H'
def SP(X:Cx)(pins:List (Addr×Obj))(D:Ends)(f:Flow)(s':Shared):Prop:=
 match f with
 | .next=>∃σ' H',Inv X pins σ' H' s'/\D.nx σ' H'
 | .brk=>∃σ' H',Inv X pins σ' H' s'/\D.bk σ' H'
 | .cont=>∃σ' H',Inv X pins σ' H' s'/\D.ct σ' H'
 | .ret u=>∃v σ' H',Inv X pins σ' H' s'/\aR v u/\D.rt v H'
def PE(X:Cx)(e:Expr)(t:TE):Prop:=
 ∀(pins:List (Addr×Obj)) (s:Shared) (σ:St) (H:Hp) (Q:VK),Inv X pins σ H s->t σ H Q->wpAny (model X.prog X.w) X.A (eval e X.env) (EP X pins σ Q) X.xe s
def PT(X:Cx)(e:Expr)(t:TT):Prop:=
 ∀(pins:List (Addr×Obj)) (s:Shared) (σ:St) (H:Hp) (Q:Bool->Hp->Prop),Inv X pins σ H s->t σ H Q->wpAny (model X.prog X.w) X.A (isTrue e X.env (eval e X.env)) (TP X pins σ Q) X.xe s
def PW(X:Cx)(e:Expr)(t:TT):Prop:=
 ∀(whole:Sem Value) (pins:List (Addr×Obj)) (s:Shared) (σ:St) (H:Hp) (Q:Bool->Hp->Prop),Inv X pins σ H s->t σ H Q->wpAny (model X.prog X.w) X.A (isTrue e X.env whole) (TP X pins σ Q) X.xe s
theorem PW.pt{X:Cx}{e:Expr}{t:TT}(h:PW X e t):PT X e t:=h _
def PA(X:Cx)(es:List Expr)(t:TA):Prop:=
 ∀(pos:Pos) (pins:List (Addr×Obj)) (s:Shared) (σ:St) (H:Hp) (Q:List V->Hp->Prop),Inv X pins σ H s->t σ H Q->wpAny (model X.prog X.w) X.A (spliced (backTo pos (starEach es X.env))) (AP X pins σ Q) X.xe s
def PS(X:Cx)(st:Stmt)(t:TS):Prop:=
 ∀(pins:List (Addr×Obj)) (s:Shared) (σ:St) (H:Hp) (D:Ends),Inv X pins σ H s->t D σ H->wpAny (model X.prog X.w) X.A (exec st X.env) (SP X pins D) X.xe s
def PSs(X:Cx)(st:List Stmt)(t:TS):Prop:=
 ∀(pins:List (Addr×Obj)) (s:Shared) (σ:St) (H:Hp) (D:Ends),Inv X pins σ H s->t D σ H->wpAny (model X.prog X.w) X.A (execs st X.env) (SP X pins D) X.xe s
theorem thn{α:Type}{t:Sem α}{Q Q':α->Shared->Prop}{M:Model}{A:Around}{E:Value->Shared->Prop}{s:Shared}(h:wpAny M A t Q E s)(hQ:∀a s,Q a s->Q' a s):wpAny M A t Q' E s:=wpAny_mono h hQ λ_ _ x=>x
end L2
namespace L2
open PySem PySem.Spec PyProof.Rows
section
variable {X:Cx}
def aCG(i:Nat):TE:=λσ H Q=>∃v,σ[i]? = some (some v)/\Q v H
def tC(v:V):TE:=λ_ H Q=>Q v H
theorem mF{i:Nat}{x:Str}{pos:Pos}(hN:X.N[i]? = some x)(hv:Vis X.env.scope x)(hd:(x==("__debug__" : Str))=false:=by decide)(hcd:(x==("__classdict__" : Str))=false:=by decide):PE X (.Name x pos) (aCG i):=by
 intro pins s σ H Q I h
 obtain⟨v,e,h⟩:=h
 obtain⟨m,hn,hl⟩:=I.loc
 obtain⟨u,r,l⟩:=hl i x v hN e hv
 have fin:EP X pins σ Q u s:=⟨v,H,I,r,h⟩
 rcases l with⟨hk,hm⟩|⟨hk,c,hc,hcell⟩
 . exact wpAny_Name (wpAny_loadName_local I.ok.kind hk hn hm fin) hd
 . rcases hk with hk|hk
   . exact wpAny_Name (wpAny_loadName_cell I.ok.kind hk hc hcell fin) hd
   . exact wpAny_Name (wpAny_loadName_free I.ok.kind hk hc hcell fin hcd) hd
theorem aCH{i j pos}:PE X (.Constant (.int i) j pos) (tC (.int i)):=λ_ _ _ H _ I h=>wpAny_Constant_int ⟨.int i,H,I.tok _,⟨_,rfl⟩,h⟩
theorem aEN{b j pos}:PE X (.Constant (.bool b) j pos) (tC (.bl b)):=λ_ _ _ H _ I h=>Constant_bool ⟨.bl b,H,I,rfl,h⟩
theorem aCI{j pos}:PE X (.Constant .none j pos) (tC .non):=λ_ _ _ H _ I h=>Constant_none ⟨.non,H,I,rfl,h⟩
theorem aCJ{x j pos}:PE X (.Constant (.str x) j pos) (tC (.str x)):=λ_ _ _ H _ I h=>Calls.Constant_str ⟨.str x,H,I.tok _,⟨_,rfl⟩,h⟩
def Gl(X:Cx)(x:Str):Prop:=X.env.kindOf x=some .globalImplicit
theorem fT{E:Value->Shared->Prop}{pins:List (Addr×Obj)}{s:Shared}{σ:St}{H:Hp}{x:Str}{u:Value}{pos:Pos}{Q:Value->Shared->Prop}(I:Inv X pins σ H s)(hg:Gl X x)(hm:X.mg x=some u)(h:Q u s)
 (hd:(x==("__debug__" : Str))=false:=by decide):wpAny (model X.prog X.w) X.A (eval (.Name x pos) X.env) Q E s:=
 Calls.Name_function_global I.ok.kind hg (Calls.loadGlobal_global (by rw[I.ok.glob];exact I.mod.glob.keeps I.bk) hm h) hd
theorem dS{E:Value->Shared->Prop}{pins:List (Addr×Obj)}{s:Shared}{σ:St}{H:Hp}{x:Str}{u:Value}{pos:Pos}{Q:Value->Shared->Prop}(I:Inv X pins σ H s)(hg:Gl X x)(hm:X.mg x=none)(hv:bootBuiltins x=some u)(h:Q u s)
 (hn:x ≠ "__name__" := by decide) (hd:(x==("__debug__" : Str))=false:=by decide):wpAny (model X.prog X.w) X.A (eval (.Name x pos) X.env) Q E s:=by
 obtain⟨mb,h1,h2⟩:=I.mod.blt
 exact Calls.Name_function_global I.ok.kind hg (Calls.loadGlobal_builtin (by rw[I.ok.glob];exact I.mod.glob.keeps I.bk) hm (by rw[I.ok.blt];exact h1.keeps I.bk) ((h2 x hn).trans hv) h) hd
theorem iX{x:Str}{v:V}{u:Value}{pos:Pos}(hg:Gl X x)(hm:X.mg x=some u)(r:aR v u)(hd:(x==("__debug__" : Str))=false:=by decide):PE X (.Name x pos) (tC v):=
 λ_ _ _ H _ I h=>fT I hg hm ⟨v,H,I,r,h⟩ hd
theorem aAn{x:Str}{v:V}{u:Value}{pos:Pos}(hg:Gl X x)(hm:X.mg x=none)(hv:bootBuiltins x=some u)(r:aR v u)(hn:x ≠ "__name__" := by decide)(hd:(x==("__debug__" : Str))=false:=by decide):PE X (.Name x pos) (tC v):=
 λ_ _ _ H _ I h=>dS I hg hm hv ⟨v,H,I,r,h⟩ hn hd
variable {a b:Expr} {ta tb:TE} {pos:Pos}
variable {tA tB':TT} {rest:List Expr}
def aHH(t u:TT):TT:=λσ H Q=>t σ H λc H1=>if c=true then u σ H1 Q else Q false H1
def tOr(t u:TT):TT:=λσ H Q=>t σ H λc H1=>if c=true then Q true H1 else u σ H1 Q
def aHI(t:TT):TT:=λσ H Q=>t σ H λc H1=>Q (!c) H1
theorem aAo(ha:PT X a tA):PW X (.BoolOp .And [a] pos) tA:=by
 intro wh pins s σ H Q I h
 refine isTrue_and (thn (ha pins s σ H Q I h) λc s1 e=>?_)
 cases c with
 | true=>exact isTrue_and_nil e
 | false=>exact e
theorem aCK(ha:PT X a tA):PW X (.BoolOp .Or [a] pos) tA:=by
 intro wh pins s σ H Q I h
 refine isTrue_or (thn (ha pins s σ H Q I h) λc s1 e=>?_)
 cases c with
 | false=>exact isTrue_or_nil e
 | true=>exact e
theorem aCL(ha:PT X a tA)(hb:PW X (.BoolOp .And (b::rest) pos) tB'):PW X (.BoolOp .And (a::b::rest) pos) (aHH tA tB'):=by
 intro wh pins s σ H Q I h
 refine isTrue_and (thn (ha pins s σ H _ I h) λc s1 ⟨H1,I1,q1⟩=>?_)
 cases c with
 | true=>exact hb wh pins s1 σ H1 Q I1 q1
 | false=>exact⟨H1,I1,q1⟩
theorem aEO(ha:PT X a tA)(hb:PW X (.BoolOp .Or (b::rest) pos) tB'):PW X (.BoolOp .Or (a::b::rest) pos) (tOr tA tB'):=by
 intro wh pins s σ H Q I h
 refine isTrue_or (thn (ha pins s σ H _ I h) λc s1 ⟨H1,I1,q1⟩=>?_)
 cases c with
 | true=>exact⟨H1,I1,q1⟩
 | false=>exact hb wh pins s1 σ H1 Q I1 q1
theorem aCM(ha:PT X a tA):PT X (.UnaryOp .Not a pos) (aHI tA):=by
 intro pins s σ H Q I h
 exact isTrue_not (ha pins s σ H (λc H1=>Q (!c) H1) I h)
def aEP(ta tb:TE):TE:=λσ H Q=>ta σ H λx H1=>∃c,x=.bl c/\if c=true then tb σ H1 Q else Q (.bl false) H1
def aHJ(ta tb:TE):TE:=λσ H Q=>ta σ H λx H1=>∃c,x=.bl c/\if c=true then Q (.bl true) H1 else tb σ H1 Q
theorem vO{op}{t:TE}(h:PE X a t):PE X (.BoolOp op [a] pos) t:=λpins s σ H Q I hw=>BoolOp_one (h pins s σ H Q I hw)
theorem aCN(ha:PE X a ta)(hb:PE X (.BoolOp .And (b::rest) pos) tb):PE X (.BoolOp .And (a::b::rest) pos) (aEP ta tb):=by
 intro pins s σ H Q I h
 refine BoolOp_and (thn (ha pins s σ H _ I h) λv s1 ⟨x,H1,I1,r1,q1⟩=>?_)
 obtain⟨c,rfl,q1⟩:=q1
 cases r1
 refine wpAny_truthy_bool ?_
 cases c with
 | true=>exact hb pins s1 σ H1 Q I1 q1
 | false=>exact⟨.bl false,H1,I1,rfl,q1⟩
theorem aEQ(ha:PE X a ta)(hb:PE X (.BoolOp .Or (b::rest) pos) tb):PE X (.BoolOp .Or (a::b::rest) pos) (aHJ ta tb):=by
 intro pins s σ H Q I h
 refine BoolOp_or (thn (ha pins s σ H _ I h) λv s1 ⟨x,H1,I1,r1,q1⟩=>?_)
 obtain⟨c,rfl,q1⟩:=q1
 cases r1
 refine wpAny_truthy_bool ?_
 cases c with
 | false=>exact hb pins s1 σ H1 Q I1 q1
 | true=>exact⟨.bl true,H1,I1,rfl,q1⟩
def tIf(t:TT)(ta tb:TE):TE:=λσ H Q=>t σ H λc H1=>if c=true then ta σ H1 Q else tb σ H1 Q
theorem vP{c:Expr}(hc:PT X c tA)(ha:PE X a ta)(hb:PE X b tb):PE X (.IfExp c a b pos) (tIf tA ta tb):=by
 intro pins s σ H Q I h
 refine wpAny_IfExp (thn (hc pins s σ H _ I h) λd s1 ⟨H1,I1,q1⟩=>?_)
 cases d with
 | true=>exact ha pins s1 σ H1 Q I1 q1
 | false=>exact hb pins s1 σ H1 Q I1 q1
end
end L2
namespace L2
open PySem PySem.Spec PyProof.Rows
def SqL(K:PySem.W.Frag)(H:Hp)(a:Addr)(xs:List V):Prop:=
 Rd H a (.lst xs) \/
  ∃(o:Obj) (its:Array Value) (n:Nat),K.lookup a=some o/\o.cls=.type "list" /\ o.dict=none/\o.data=.seq its n/\its.size<=sizeLine/\aJ xs its.toList
def SqT(K:PySem.W.Frag)(H:Hp)(a:Addr)(xs:List V):Prop:=
 Rd H a (.tup xs) \/
  ∃(o:Obj) (its:Array Value) (n:Nat),K.lookup a=some o/\o.cls=.type "tuple" /\ o.data=.seq its n/\its.size<=sizeLine/\aJ xs its.toList
def aHK:Value->Option V
 | .none=>some .non
 | .bool b=>some (.bl b)
 | .int i _=>some (.int i)
 | .str x _=>some (.str x)
 | .bytes b _=>some (.byt b)
 | .float b _=>some (.flt b)
 | .ref a=>some (.ref a)
 | .type n=>some (.ty n)
 | _=>none
theorem aR.abs{x:V}{u:Value}(r:aR x u):aHK u=some x:=by
 cases x with
 | non=>cases r;rfl
 | bl _=>cases r;rfl
 | int _=>obtain⟨t,rfl⟩:=r;rfl
 | str _=>obtain⟨t,rfl⟩:=r;rfl
 | byt _=>obtain⟨t,rfl⟩:=r;rfl
 | flt _=>obtain⟨t,rfl⟩:=r;rfl
 | ref _=>cases r;rfl
 | ty _=>cases r;rfl
theorem aR.inj{x y:V}{u:Value}(r:aR x u)(q:aR y u):x=y:=Option.some.inj (r.abs.symm.trans q.abs)
theorem aJ.inj:∀{xs ys:List V} {us:List Value},aJ xs us->aJ ys us->xs=ys
 | _,_,_,.nil,.nil=>rfl
 | _,_,_,.cons r t,.cons r' t'=>by rw[r.inj r',aJ.inj t t']
section
variable {X:Cx} {pins:List (Addr×Obj)} {σ:St} {H:Hp} {s:Shared} {a:Addr} {xs ys:List V}
theorem SqL.of{K:PySem.W.Frag}(h:H a=some (.lst xs)):SqL K H a xs:=.inl (.inl h)
theorem SqT.of{K:PySem.W.Frag}(h:H a=some (.tup xs)):SqT K H a xs:=.inl (.inl h)
theorem Inv.list(I:Inv X pins σ H s)(h:SqL X.K H a xs):∃its:List Value,aJ xs its/\PlainL s.heap a its.toArray/\xs.length<=sizeLine:=by
 rcases h with h|⟨o,its,n,hk,hc,hd,hs,hz,r⟩
 . obtain⟨z,its,n,r,e⟩:=h.ok I.hok
   exact⟨its,r,⟨_,n,e,rfl,rfl,rfl⟩,z⟩
 . refine⟨its.toList,r,⟨o,n,I.kIn a o hk,hc,hd,by simpa using hs⟩,?_⟩
   have e:=r.length
   simp only[Array.length_toList] at e
   omega
theorem Inv.tuple(I:Inv X pins σ H s)(h:SqT X.K H a xs):∃its:List Value,aJ xs its/\IsTup s.heap a its.toArray/\xs.length<=sizeLine:=by
 rcases h with h|⟨o,its,n,hk,hc,hs,hz,r⟩
 . obtain⟨z,its,r,p⟩:=h.ok I.hok
   exact⟨its,r,p,z⟩
 . refine⟨its.toList,r,⟨o,I.kIn a o hk,hc,n,by simpa using hs⟩,?_⟩
   have e:=r.length
   simp only[Array.length_toList] at e
   omega
theorem Inv.list_inj(I:Inv X pins σ H s)(h:SqL X.K H a xs)(h':SqL X.K H a ys):xs=ys:=by
 obtain⟨its,r,⟨o,n,e,_,_,d⟩,_⟩:=I.list h
 obtain⟨its',r',⟨o',n',e',_,_,d'⟩,_⟩:=I.list h'
 rw[e] at e';cases e'
 rw[d] at d'
 injection d' with d1 _
 have:its=its':=by simpa using congrArg Array.toList d1
 subst this
 exact r.inj r'
theorem Inv.tuple_inj(I:Inv X pins σ H s)(h:SqT X.K H a xs)(h':SqT X.K H a ys):xs=ys:=by
 obtain⟨its,r,⟨o,e,_,n,d⟩,_⟩:=I.tuple h
 obtain⟨its',r',⟨o',e',_,n',d'⟩,_⟩:=I.tuple h'
 rw[e] at e';cases e'
 rw[d] at d'
 injection d' with d1 _
 have:its=its':=by simpa using congrArg Array.toList d1
 subst this
 exact r.inj r'
end
section
variable {X:Cx} {pins:List (Addr×Obj)} {σ:St} {H:Hp} {s:Shared} {E:Value->Shared->Prop}
end
section
variable {X:Cx} {st:Stmt} {rest:List Stmt} {t u:TS} {e:Expr} {te:TE} {pos:Pos}
def aBX:TS:=λD σ H=>D.nx σ H
def aHL(t u:TS):TS:=λD σ H=>t { D with nx:=u D } σ H
theorem aAp:PSs X [] aBX:=λ_ _ σ H _ I h=>wpAny_execs_nil ⟨σ,H,I,h⟩
theorem vQ(h1:PS X st t)(h2:PSs X rest u):PSs X (st::rest) (aHL t u):=by
 intro pins s σ H D I h
 refine wpAny_execs_cons (thn (h1 pins s σ H { D with nx:=u D } I h) λf s1 q=>?_)
 cases f with
 | next=>
  obtain⟨σ',H',I',q⟩:=q
  exact h2 pins s1 σ' H' D I' q
 | ret v=>exact q
 | brk=>exact q
 | cont=>exact q
theorem aAq(h1:PS X st t):PSs X [st] t:=by
 intro pins s σ H D I h
 refine wpAny_execs_cons (thn (h1 pins s σ H D I h) λf s1 q=>?_)
 cases f with
 | next=>exact wpAny_execs_nil q
 | ret v=>exact q
 | brk=>exact q
 | cont=>exact q
def aCO:TS:=λD σ H=>D.bk σ H
def aER:TS:=λD σ H=>D.ct σ H
theorem aAr:PS X (.Pass pos) aBX:=λ_ _ σ H _ I h=>wpAny_Pass ⟨σ,H,I,h⟩
theorem vR:PS X (.Break pos) aCO:=λ_ _ σ H _ I h=>wpAny_Break ⟨σ,H,I,h⟩
theorem nR:PS X (.Continue pos) aER:=λ_ _ σ H _ I h=>wpAny_Continue ⟨σ,H,I,h⟩
theorem Inv.quiet{pins:List (Addr×Obj)}{σ:St}{H:Hp}{s:Shared}(I:Inv X pins σ H s):interactive X.env=false:=by simp[interactive,I.ok.kind]
def aES(te:TE):TS:=λD σ H=>te σ H λ_ H1=>D.nx σ H1
theorem rP(he:PE X e te)(hs:swapsWith e none pos.line X.env=pure false:=by rfl):PS X (.Expr e pos) (aES te):=by
 intro pins s σ H D I h
 exact wpAny_Expr_any (thn (he pins s σ H _ I h) λv s1 ⟨x,H1,I1,r1,q1⟩=>⟨σ,H1,I1,q1⟩) I.quiet hs
def aHM(te:TE):TS:=λD σ H=>te σ H D.rt
theorem vT(he:PE X e te):PS X (.Return (some e) pos) (aHM te):=by
 intro pins s σ H D I h
 exact wpAny_Return_some (thn (he pins s σ H _ I h) λv s1 ⟨x,H1,I1,r1,q1⟩=>⟨x,σ,H1,I1,r1,q1⟩)
def aET:TS:=λD _ H=>D.rt .non H
theorem aAs:PS X (.Return none pos) aET:=λ_ _ σ H _ I h=>wpAny_Return_none ⟨.non,σ,H,I,rfl,h⟩
def aHN(c:TT)(t u:TS):TS:=λD σ H=>c σ H λb H1=>if b=true then t D σ H1 else u D σ H1
theorem aEU{c:Expr}{a b:List Stmt}{tc:TT}(hc:PT X c tc)(ha:PSs X a t)(hb:PSs X b u):PS X (.If c a b pos) (aHN tc t u):=by
 intro pins s σ H D I h
 refine wpAny_If (thn (hc pins s σ H _ I h) λd s1 ⟨H1,I1,q1⟩=>?_)
 cases d with
 | true=>exact ha pins s1 σ H1 D I1 q1
 | false=>exact hb pins s1 σ H1 D I1 q1
def aCP:TS:=λ_ _ _=>False
theorem vU:PS X st aCP:=λ_ _ _ _ _ _ h=>h.elim
end
abbrev TG:=V->St->Hp->(St->Hp->Prop)->Prop
abbrev TGs:=List V->St->Hp->(St->Hp->Prop)->Prop
def PG(X:Cx)(target:Expr)(t:TG):Prop:=
 ∀(pins:List (Addr×Obj)) (s:Shared) (σ:St) (H:Hp) (v:V) (u:Value) (Q:St->Hp->Prop),Inv X pins σ H s->aR v u->t v σ H Q ->
  wpAny (model X.prog X.w) X.A (assign target X.env u) (λ_ s'=>∃σ' H',Inv X pins σ' H' s'/\Q σ' H') X.xe s
def PGs(X:Cx)(ts:List Expr)(t:TGs):Prop:=
 ∀(pins:List (Addr×Obj)) (s:Shared) (σ:St) (H:Hp) (vs:List V) (us:List Value) (Q:St->Hp->Prop),Inv X pins σ H s->aJ vs us->t vs σ H Q ->
  wpAny (model X.prog X.w) X.A (assignInOrder ((assignEach ts X.env).map (·.2)) us) (λ_ s'=>∃σ' H',Inv X pins σ' H' s'/\Q σ' H') X.xe s
section
variable {X:Cx} {pos:Pos}
def kR(i:Nat):TG:=λv σ H Q=>Q (σ.set i (some v)) H
theorem rQ{i:Nat}{x:Str}(hN:X.N.Nodup)(hi:X.N[i]? = some x)(hx:Loc X.env.scope x)(hf:X.fn x=true\/X.env.scope.names.lookup x=some .local:=by first|exact .inl rfl|exact .inr rfl|assumption):PG X (.Name x pos) (kR i):=by
 intro pins s σ H v u Q I r h
 exact wpAny_assign_Name (fS I hN hi hx r (λs' I'=>⟨_,H,I',h⟩) hf)
def aEV:TGs:=λvs σ H Q=>vs=[]/\Q σ H
def aBY(t:TG)(u:TGs):TGs:=λvs σ H Q=>∃v r,vs=v::r/\t v σ H λσ' H'=>u r σ' H' Q
theorem aAt:PGs X [] aEV:=by
 intro pins s σ H vs us Q I r h
 obtain⟨e,h⟩:=h
 subst e
 cases r
 exact assignInOrder_nil ⟨σ,H,I,h⟩
theorem vV{e:Expr}{es:List Expr}{t:TG}{u:TGs}(h1:PG X e t)(h2:PGs X es u)
 (hs:(assignEach (e::es) X.env).map (·.2)=assign e X.env::(assignEach es X.env).map (·.2):=by rfl):PGs X (e::es) (aBY t u):=by
 intro pins s σ H vs us Q I r h
 obtain⟨v,vr,e1,h⟩:=h
 subst e1
 cases r with
 | cons r rr=>
  rw[hs]
  refine assignInOrder_cons (thn (h1 pins s σ H _ _ _ I r h) λ_ s1 ⟨σ1,H1,I1,q1⟩=>?_)
  exact h2 pins s1 σ1 H1 _ _ Q I1 rr q1
def aEW(K:PySem.W.Frag)(n:Nat)(t:TGs):TG:=λv σ H Q=>∃a xs,v=.ref a/\SqT K H a xs/\xs.length=n/\t xs σ H Q
theorem aCQ{es:List Expr}{k:Nat}{t:TGs}{n:Nat}(hc:X.calm=true)(h:PGs X es t)
 (hn:(assignEach es X.env).length=n:=by rfl) (hst:(assignEach es X.env).findIdx? (·.1)=none:=by rfl):PG X (.Tuple es k pos) (aEW X.K n t):=by
 intro pins s σ H v u Q I r hw
 obtain⟨a,xs,e1,hq,hl,hw⟩:=hw
 subst e1
 cases r
 obtain⟨its,rv,ht,hz⟩:=I.tuple hq
 refine assign_Tuple_tuple (I.ok.hd hc) ht (by simp[hn,<-hl,rv.length]) hst λh' hx=>?_
 have I1:Inv X pins σ H { s with heap:=h' }:=I.kept (t':=s.toks) λb o e=>hx b o (Nat.ne_of_lt (Heap.lt_size e)) e
 exact h pins _ σ H xs _ Q I1 (by simpa using rv) hw
def aCR(te:TE)(g:TG):TS:=λD σ H=>te σ H λx H1=>g x σ H1 D.nx
theorem aCS{tg e:Expr}{te:TE}{g:TG}(he:PE X e te)(hg:PG X tg g)(hs:swapsWithSole [tg] e pos.line X.env=pure false:=by rfl)(hw:swappedStores [tg] e X.env=pure none:=by rfl)
 (h1:(assignEach [tg] X.env).map (·.2)=[assign tg X.env]:=by rfl):PS X (.Assign [tg] e pos) (aCR te g):=by
 intro pins s σ H D I h
 refine wpAny_Assign_stores (thn (he pins s σ H _ I h) λv s1 ⟨x,H1,I1,r1,q1⟩=>?_) hs hw
 rw[h1]
 exact thn (hg pins s1 σ H1 x v _ I1 r1 q1) λ_ s2 q=>q
theorem mH{i:Nat}{x:Str}{e:Expr}{te:TE}{pos':Pos}(hN:X.N.Nodup)(hi:X.N[i]? = some x)(hx:Loc X.env.scope x)(he:PE X e te)(hs:swapsWith e (some (.Name x pos')) pos.line X.env=pure false:=by rfl)(hf:X.fn x=true\/X.env.scope.names.lookup x=some .local:=by first|exact .inl rfl|exact .inr rfl|assumption) :
 PS X (.Assign [.Name x pos'] e pos) (aCR te (kR i)):=by
 intro pins s σ H D I h
 refine wpAny_Assign_Name (thn (he pins s σ H _ I h) λv s1 ⟨y,H1,I1,r1,q1⟩=>?_) hs
 exact fS I1 hN hi hx r1 (λs2 I2=>⟨_,H1,I2,q1⟩) hf
end
section
variable {X:Cx} {pos:Pos}
end
structure It where
 go:Nat->Hp->Prop
 yld:Nat->Hp->V->Hp->Prop
 stop:Nat->Hp->Prop
def fU(X:Cx)(pins:List (Addr×Obj))(H:Hp)(b:Addr):Prop:=
 H b=none/\b≠X.env.locals/\b∉X.fs/\(b∈X.ex\/X.s₀.heap.objs.size<=b)/\(∀x c,X.env.cells.lookup x=some c->c≠b)/\∀p∈X.pn++pins,p.1≠b
theorem Inv.fpOk{X:Cx}{pins:List (Addr×Obj)}{σ:St}{H H':Hp}{s:Shared}{b:Addr}(I:Inv X pins σ H s)(hb:s.heap.objs.size<=b)(hn:H' b=none):fU X pins H' b:=by
 refine⟨hn,Nat.ne_of_gt (Nat.lt_of_lt_of_le I.lt hb),I.nofs hb,.inr (Nat.le_trans I.sz hb),λx c e z=>?_,λp hp z=>?_⟩
 . obtain⟨v,q⟩:=I.cell x c e
   exact absurd (Nat.lt_of_lt_of_le q.lt (by rw[z];exact hb)) (Nat.lt_irrefl _)
 . exact absurd (Nat.lt_of_lt_of_le (Heap.lt_size (I.pin p hp).1) (by rw[z];exact hb)) (Nat.lt_irrefl _)
structure pW (P:Program) (w:World) (K:PySem.W.Frag) (tg:Expr) (J:It) (fp:List Addr) (it:Addr) (tn:Nat->Heap->Prop):Prop where
 mem:it∈fp
 obj:∀i h,tn i h->∀b∈fp,∃o,h.get? b=some o/\∀v,o.data≠.cell v
 keep:∀i h h',tn i h->(∀b∈fp,∀o,h.get? b=some o->h'.get? b=some o)->tn i h'
 item:∀(X:Cx),X.prog=P->X.w=w->X.K=K->X.calm=true->∀(i:Nat) (pins:List (Addr×Obj)) (s:Shared) (σ:St) (H:Hp) (E:Value->Shared->Prop),Inv X pins σ H s->(∀b∈fp,fU X pins H b)->tn i s.heap->J.go i H ->
  wpAny (model P w) X.A (pyNext (.ref it)) (λr s1=>∃u,r=some u /\
   wpAny (model P w) X.A (letOwnedTupleGo tg (.ref it) u) (λ_ s2=>∃x H',Inv X pins σ H' s2/\aR x u/\J.yld i H x H'/\tn (i+1) s2.heap/\∀b∈fp,H' b=none) E s1) E s
 done:∀(X:Cx),X.prog=P->X.w=w->X.K=K->X.calm=true->∀(i:Nat) (pins:List (Addr×Obj)) (s:Shared) (σ:St) (H:Hp) (E:Value->Shared->Prop),Inv X pins σ H s->(∀b∈fp,fU X pins H b)->tn i s.heap->J.stop i H ->
  wpAny (model P w) X.A (pyNext (.ref it)) (λr s1=>r=none/\Inv X pins σ H s1) E s
 self:∀(A:Around) (i:Nat) (s:Shared) (Q:Value->Shared->Prop) (E:Value->Shared->Prop),tn i s.heap->Q (.ref it) s->wpAny (model P w) A (pyIter (.ref it)) Q E s
abbrev TI:=St->Hp->(It->Hp->Prop)->Prop
def PIE(X:Cx)(pins:List (Addr×Obj))(σ:St)(tg:Expr)(R:It->Hp->Prop)(itv:Value)(s2:Shared):Prop:=
 ∃(it:Addr) (fp:List Addr) (tn:Nat->Heap->Prop) (J:It) (H':Hp),itv=.ref it/\Inv X pins σ H' s2/\pW X.prog X.w X.K tg J fp it tn/\tn 0 s2.heap/\(∀b∈fp,fU X pins H' b)/\R J H'
def PI(X:Cx)(tg iter:Expr)(wi:TI):Prop:=
 ∀(pins:List (Addr×Obj)) (s:Shared) (σ:St) (H:Hp) (R:It->Hp->Prop),Inv X pins σ H s->wi σ H R ->
  wpAny (model X.prog X.w) X.A (eval iter X.env) (λv s1=>wpAny (model X.prog X.w) X.A (pyIter v) (PIE X pins σ tg R) X.xe s1) X.xe s
theorem jH{M:Model}{A:Around}{E:Value->Shared->Prop}{s:Shared}{tg:Expr}{it:Addr}{u:Value}{o:Obj}{n:String}{vs:Array Value}{Q:Unit->Shared->Prop}(ho:s.heap.get? it=some o)(hc:o.cls=.type n)(hd:o.data=.fields vs)
 (hn:["enumerate", "zip", "dict_itemiterator", "dict_reverseitemiterator", "odict_iterator", "itertools.zip_longest", "itertools.pairwise"].contains n=false) (hQ:Q () s):wpAny M A (letOwnedTupleGo tg (.ref it) u) Q E s:=by
 unfold letOwnedTupleGo
 cases tg <;> first
  | exact wpAny_pure hQ
  | (cases u <;> first
   | exact wpAny_pure hQ
   | (refine wpAny_bind (wpAny_load ho ?_)
      rw[hc,hd]
      show wpAny M A (if (["enumerate", "zip", "dict_itemiterator", "dict_reverseitemiterator", "odict_iterator", "itertools.zip_longest", "itertools.pairwise"].contains n&&vs[0]?==some (rawInt _))=true then _ else _) Q E s
      rw[if_neg (by intro h;rw[hn,Bool.false_and] at h;cases h)]
      exact wpAny_pure hQ))
def Itl(K:PySem.W.Frag)(a:Addr):It:=
 ⟨λi H=>∃xs x,SqL K H a xs/\xs[i]? = some x,λi H x H'=>H'=H/\∀xs,SqL K H a xs->xs[i]? = some x,λi H=>∃xs,SqL K H a xs/\xs.length<=i⟩
def Itt(K:PySem.W.Frag)(a:Addr):It:=
 ⟨λi H=>∃xs x,SqT K H a xs/\xs[i]? = some x,λi H x H'=>H'=H/\∀xs,SqT K H a xs->xs[i]? = some x,λi H=>∃xs,SqT K H a xs/\xs.length<=i⟩
def Itr(lo:Int)(n:Nat):It:=⟨λi _=>i<n,λi H x H'=>H'=H/\x=.int (lo+i),λi _=>n<=i⟩
theorem tU{P:Program}{w:World}{K:PySem.W.Frag}{tg:Expr}(a it:Addr):pW P w K tg (Itl K a) [it] it (λi h=>h.IsListIter it a i) where
 mem:=by simp
 obj:=λi h st b hb=>by
  have e:b=it:=by simpa using hb
  subst e
  obtain⟨o,e,c,d⟩:=st
  exact⟨o,e,λv z=>by rw[d] at z;cases z⟩
 keep:=λi h h' st k=>st.at λo e=>k it (by simp) o e
 item:=by
  intro X hP hw hK hc i pins s σ H E I hf st hg
  subst hP hw hK
  obtain⟨xs,x,hq,hx⟩:=hg
  obtain⟨its,rv,p,hz⟩:=I.list hq
  obtain⟨u,hu,ru⟩:=rv.get hx
  obtain⟨f0,f1,f2,f3,f4,f5⟩:=hf it (by simp)
  refine wpAny_pyNext_list_item st p.isList (x:=u) (by simpa using hu) λh' st' sb=>?_
  have I1:Inv X pins σ H { s with heap:=h' }:=I.turned (t':=s.toks) (λb o hb e=>(sb.2 b hb).trans e) f0 f1 f3 f4 f5
  obtain⟨o,e,c,d⟩:=id st'
  exact⟨u,rfl,jH (s:={ s with heap:=h' }) e c d (by decide) ⟨x,H,I1,ru,⟨rfl,λys hy=>by rw[I.list_inj hy hq];exact hx⟩,st',λb hb=>(hf b hb).1⟩⟩
 done:=by
  intro X hP hw hK hc i pins s σ H E I hf st hg
  subst hP hw hK
  obtain⟨xs,hq,hx⟩:=hg
  obtain⟨its,rv,p,hz⟩:=I.list hq
  obtain⟨f0,f1,f2,f3,f4,f5⟩:=hf it (by simp)
  have hl:=rv.length
  exact wpAny_pyNext_list_end (I.ok.hd hc) st p.isList (by simp;omega) λh' eb=>⟨rfl,I.turned (t':=s.toks) (λb o hb e=>eb b o hb e) f0 f1 f3 f4 f5⟩
 self:=λ_ _ _ _ _ st h=>wpAny_pyIter_listiter st h
theorem pX{P:Program}{w:World}{K:PySem.W.Frag}{tg:Expr}(a it:Addr):pW P w K tg (Itt K a) [it] it (λi h=>h.IsTupleIter it a i) where
 mem:=by simp
 obj:=λi h st b hb=>by
  have e:b=it:=by simpa using hb
  subst e
  obtain⟨o,e,c,d⟩:=st
  exact⟨o,e,λv z=>by rw[d] at z;cases z⟩
 keep:=λi h h' st k=>st.at λo e=>k it (by simp) o e
 item:=by
  intro X hP hw hK hc i pins s σ H E I hf st hg
  subst hP hw hK
  obtain⟨xs,x,hq,hx⟩:=hg
  obtain⟨its,rv,p,hz⟩:=I.tuple hq
  obtain⟨u,hu,ru⟩:=rv.get hx
  obtain⟨f0,f1,f2,f3,f4,f5⟩:=hf it (by simp)
  refine wpAny_pyNext_tuple_item st (show s.heap.IsTuple a its.toArray from p) (x:=u) (by simpa using hu) λh' st' sb=>?_
  have I1:Inv X pins σ H { s with heap:=h' }:=I.turned (t':=s.toks) (λb o hb e=>(sb.2 b hb).trans e) f0 f1 f3 f4 f5
  obtain⟨o,e,c,d⟩:=id st'
  exact⟨u,rfl,jH (s:={ s with heap:=h' }) e c d (by decide) ⟨x,H,I1,ru,⟨rfl,λys hy=>by rw[I.tuple_inj hy hq];exact hx⟩,st',λb hb=>(hf b hb).1⟩⟩
 done:=by
  intro X hP hw hK hc i pins s σ H E I hf st hg
  subst hP hw hK
  obtain⟨xs,hq,hx⟩:=hg
  obtain⟨its,rv,p,hz⟩:=I.tuple hq
  obtain⟨f0,f1,f2,f3,f4,f5⟩:=hf it (by simp)
  have hl:=rv.length
  exact wpAny_pyNext_tuple_end (I.ok.hd hc) st (show s.heap.IsTuple a its.toArray from p) (by simp;omega) λh' eb=>⟨rfl,I.turned (t':=s.toks) (λb o hb e=>eb b o hb e) f0 f1 f3 f4 f5⟩
 self:=λ_ _ _ _ _ st h=>wpAny_pyIter_tupleiter st h
theorem pY{P:Program}{w:World}{K:PySem.W.Frag}{tg:Expr}(it:Addr)(lo:Int)(n:Nat):pW P w K tg (Itr lo n) [it] it (λi h=>IsRangeIter h it (lo+(i:Nat)*1) ((n:Int)-(i:Nat)) 1) where
 mem:=by simp
 obj:=λi h st b hb=>by
  have e:b=it:=by simpa using hb
  subst e
  exact⟨_,st,λv z=>by
   have z':Data.fields _=Data.cell v:=z
   cases z'⟩
 keep:=λi h h' st k=>k it (by simp) _ st
 item:=by
  intro X hP hw hK hc i pins s σ H E I hf st hg
  subst hP hw hK
  obtain⟨f0,f1,f2,f3,f4,f5⟩:=hf it (by simp)
  have W:=Walks.range (prog:=X.prog) (w:=X.w) (I.ok.hd hc) it lo 1 n
  refine W.item i s _ _ hg st λv h' tk hv st' kk=>?_
  obtain⟨t,rfl⟩:=hv
  have I1:Inv X pins σ H { s with heap:=h',toks:=tk }:=I.turned (λb o hb e=>kk b o (by simpa using hb) e) f0 f1 f3 f4 f5
  refine⟨_,rfl,jH (s:={ s with heap:=h',toks:=tk }) (n:= "range_iterator") st' rfl rfl (by decide) ⟨.int (lo+i),H,I1,⟨t,?_⟩,⟨rfl,rfl⟩,st',λb hb=>(hf b hb).1⟩⟩
  rw[Int.mul_one]
 done:=by
  intro X hP hw hK hc i pins s σ H E I hf st hg
  subst hP hw hK
  obtain⟨f0,f1,f2,f3,f4,f5⟩:=hf it (by simp)
  exact wpAny_pyNext_range_end (I.ok.hd hc) st (by have:n<=i:=hg;omega) λh' eb=>⟨rfl,I.turned (t':=s.toks) (λb o hb e=>eb b o hb e) f0 f1 f3 f4 f5⟩
 self:=λ_ _ _ _ _ st h=>wpAny_pyIter_rangeiter st h
end L2
namespace L2
open PySem PySem.Spec PyProof.Rows
section
variable {X:Cx} {tg:Expr}
theorem nS{pins:List (Addr×Obj)}{σ:St}{H:Hp}{s:Shared}{R:It->Hp->Prop}{E:Value->Shared->Prop}{lo hi:Int}{t u v:Tok}{tk:Nat}(I:Inv X pins σ H s)(h1:-(2 ^ 62)<=lo)(h2:lo<2 ^ 62)(h3:-(2 ^ 62)<=hi)(h4:hi<2 ^ 62)
 (q:R (Itr lo (hi-lo).toNat) H):wpAny (model X.prog X.w) X.A (pyIter (.ref s.heap.objs.size)) (PIE X pins σ tg R) E { s with heap:=s.heap.push { cls:=.type "range",data:=.fields #[.int lo t,.int hi u,.int 1 v] },toks:=tk }:=by
 refine wpAny_pyIter_range (IsRange.new ..) (small_one h1 h2 h3 h4) ?_
 have I1:Inv X pins σ H { s with heap:=s.heap.push { cls:=.type "range",data:=.fields #[.int lo t,.int hi u,.int 1 v] },toks:=tk }:=I.kept λb o e=>Heap.get?_push_of_some _ e
 refine⟨(s.heap.push { cls:=.type "range",data:=.fields #[.int lo t,.int hi u,.int 1 v] }).objs.size,[(s.heap.push { cls:=.type "range",data:=.fields #[.int lo t,.int hi u,.int 1 v] }).objs.size],_,_,H,rfl,
  I1.kept (t':=tk) λb o e=>Heap.get?_push_of_some _ e,pY _ lo (hi-lo).toNat,?_,λb hb=>?_,q⟩
 . have e1:lo+((0:Nat):Int)*1=lo:=by simp
   have e2:(((hi-lo).toNat:Nat):Int)-((0:Nat):Int)=Builtin.Range.rangeSize lo hi 1:=by rw[rangeSize_one];split <;> omega
   show IsRangeIter _ _ (lo+((0:Nat):Int)*1) ((((hi-lo).toNat:Nat):Int)-((0:Nat):Int)) 1
   rw[e1,e2]
   exact Heap.get?_push_size _ rfl
 . have e:b=(s.heap.push { cls:=.type "range",data:=.fields #[.int lo t,.int hi u,.int 1 v] }).objs.size:=by simpa using hb
   subst e
   exact I1.fpOk (Nat.le_refl _) (I1.hok.fresh (Nat.le_refl _))
def aEX(ta:TA):TI:=λσ H R=>ta σ H λvs H1=>∃j:Int,vs=[.int j]/\-(2 ^ 62)<=j/\j<2 ^ 62/\R (Itr 0 j.toNat) H1
def aEY(ta:TA):TI:=λσ H R=>ta σ H λvs H1=>∃i j:Int,vs=[.int i,.int j]/\(-(2 ^ 62)<=i/\i<2 ^ 62/\-(2 ^ 62)<=j/\j<2 ^ 62)/\R (Itr i (j-i).toNat) H1
theorem tV{a:Expr}{ta:TA}{p pos:Pos}(hg:Gl X "range")(hm:X.mg "range" = none)(ha:PA X [a] ta)(hs:starEach [a] X.env=[(false,eval a X.env)]:=by rfl):PI X tg (.Call (.Name "range" p) [a] [] pos) (aEX ta):=by
 intro pins s σ H R I h
 refine Call_ (dS I hg hm boot_range (PyProof.Rows.callWith_type1 (thn (ha pos pins s σ H _ I h) λus s1 ⟨vs,H1,I1,r1,q1⟩=>?_) hs rfl))
 obtain⟨j,e,q1,q2,q⟩:=q1
 subst e
 cases r1 with
 | cons r rr=>
  cases rr
  obtain⟨t,rfl⟩:=r
  exact call_range_1 (nS I1 (by omega) (by omega) q1 q2 (by simpa using q))
theorem tW{a b:Expr}{ta:TA}{p pos:Pos}(hg:Gl X "range")(hm:X.mg "range" = none)(ha:PA X [a,b] ta)(hs:starEach [a,b] X.env=[(false,eval a X.env),(false,eval b X.env)]:=by rfl)(hs2:starEach [b] X.env=[(false,eval b X.env)]:=by rfl) :
 PI X tg (.Call (.Name "range" p) [a,b] [] pos) (aEY ta):=by
 intro pins s σ H R I h
 refine Call_ (dS I hg hm boot_range (PyProof.Rows.callWith_type1 (thn (ha pos pins s σ H _ I h) λus s1 ⟨vs,H1,I1,r1,q1⟩=>?_) (by rw[hs,hs2]) (by rw[hs2];rfl)))
 obtain⟨i,j,e,⟨q1,q2,q3,q4⟩,q⟩:=q1
 subst e
 cases r1 with
 | cons r rr=>
  cases rr with
  | cons r' rr=>
   cases rr
   obtain⟨t,rfl⟩:=r
   obtain⟨t',rfl⟩:=r'
   exact call_range_2 (nS I1 q1 q2 q3 q4 q)
def aHO(wi:TI)(g:TG)(tb:TS):TS:=λD σ H=>wi σ H λJ H1=>∃W:Nat->Nat->St->Hp->Prop,(∃m,W 0 m σ H1)/\∀i m σ H,W i m σ H ->
 (J.stop i H/\D.nx σ H)\/(J.go i H/\∃N:St->Hp->Prop,(∀σ' H',N σ' H'->∃m',m'<m/\W (i+1) m' σ' H')/\∀x H',J.yld i H x H'->g x σ H' λσ2 H2=>tb { D with nx:=N,ct:=N,bk:=D.nx } σ2 H2)
def gM(fp:List Addr)(h:Heap):List (Addr×Obj):=fp.filterMap λb=>(h.get? b).map λo=>(b,o)
theorem cX{fp:List Addr}{h:Heap}{b:Addr}{o:Obj}(hb:b∈fp)(e:h.get? b=some o):(b,o)∈gM fp h:=List.mem_filterMap.mpr ⟨b,hb,by rw[e];rfl⟩
theorem tX{fp:List Addr}{h:Heap}{p:Addr×Obj}(hp:p∈gM fp h):p.1∈fp/\h.get? p.1=some p.2:=by
 obtain⟨b,hb,e⟩:=List.mem_filterMap.mp hp
 cases q:h.get? b with
 | none=>rw[q] at e;cases e
 | some o=>
  rw[q] at e
  have e':(b,o)=p:=Option.some.inj e
  subst e'
  exact⟨hb,q⟩
theorem Inv.pinned{pins:List (Addr×Obj)}{σ:St}{H:Hp}{s:Shared}{fp:List Addr}(I:Inv X pins σ H s)(hf:∀b∈fp,fU X pins H b)(ho:∀b∈fp,∃o,s.heap.get? b=some o/\∀v,o.data≠.cell v):Inv X (pins++gM fp s.heap) σ H s:=
 I.pins_of λp hp=>(List.mem_append.mp hp).elim (λz=>I.pin p (List.mem_append_right _ z)) λz=>by
  obtain⟨hb,e⟩:=tX z
  obtain⟨f0,f1,f2,_⟩:=hf p.1 hb
  obtain⟨o,e',d⟩:=ho p.1 hb
  rw[e] at e';cases e'
  exact⟨e,f0,f1,f2,d⟩
theorem Inv.unpinned{pins pl:List (Addr×Obj)}{σ:St}{H:Hp}{s:Shared}(I:Inv X (pins++pl) σ H s):Inv X pins σ H s:=I.pins_of λp hp=>I.pin p (List.mem_append_right _ (List.mem_append_left _ hp))
theorem aCT{iter:Expr}{body:List Stmt}{wi:TI}{g:TG}{tb:TS}{pos:Pos}(hp:PassesOwn (model X.prog X.w) X.A X.env X.xe)(hc:X.calm=true)(hi:PI X tg iter wi)(hg:PG X tg g)(hb:PSs X body tb)
 (hs:∀x,foldedSetIterable iter X.env x=pure x:=by intro _;rfl):PS X (.For tg iter body [] pos) (aHO wi g tb):=by
 intro pins s σ H D I h
 refine wpAny_For (thn (hi pins s σ H _ I h) λv s1 h1=>thn h1 λitv s2 h2=>?_) hs
 obtain⟨it,fp,tn,J,H2,e,I2,T,st2,f2,W,⟨m0,w0⟩,turn⟩:=h2
 subst e
 have stat:∀{H':Hp},(∀b∈fp,H' b=none)->∀b∈fp,fU X pins H' b:=λhn b hb=>⟨hn b hb,(f2 b hb).2⟩
 refine codeAny_forLoop_any (λn s'=>∃i σ' H',Inv X pins σ' H' s'/\tn i s'.heap/\(∀b∈fp,H' b=none)/\W i n σ' H') ?_ m0 ⟨0,σ,H2,I2,st2,λb hb=>(f2 b hb).1,w0⟩
 rintro n s3 ⟨i,σ3,H3,I3,st3,fr3,w3⟩
 rcases turn i n σ3 H3 w3 with⟨stop,qn⟩|⟨go,N,hN,step⟩
 . refine wpAny_passesOwn hp (thn (T.done X rfl rfl rfl hc i pins s3 σ3 H3 X.xe I3 (stat fr3) st3 stop) λr s4 ⟨hr,I4⟩=>?_)
   subst hr
   exact wpAny_execs_nil ⟨σ3,H3,I4,qn⟩
 . refine wpAny_passesOwn hp (thn (T.item X rfl rfl rfl hc i pins s3 σ3 H3 X.xe I3 (stat fr3) st3 go) λr s4 ⟨u,hr,h4⟩=>?_)
   subst hr
   refine wpAny_passesOwn hp (thn h4 λ_ s5 ⟨x,H5,I5,r5,y5,st5,fr5⟩=>?_)
   have I5':=I5.pinned (stat fr5) (T.obj _ _ st5)
   refine wpAny_passesOwn hp (thn (hg _ s5 σ3 H5 x u _ I5' r5 (step x H5 y5)) λ_ s6 ⟨σ6,H6,I6,q6⟩=>?_)
   refine wpAny_passesOwn hp (thn (hb _ s6 σ6 H6 _ I6 q6) λf s7 q7=>?_)
   have again:∀{σ7:St} {H7:Hp},Inv X (pins++gM fp s5.heap) σ7 H7 s7->N σ7 H7->∃m,m<n/\∃i σ' H',Inv X pins σ' H' s7/\tn i s7.heap/\(∀b∈fp,H' b=none)/\W i m σ' H':=λ{σ7 H7} I7 n7=>by
    obtain⟨m',hm,w7⟩:=hN σ7 H7 n7
    refine⟨m',hm,i+1,σ7,H7,I7.unpinned,T.keep _ _ _ st5 λb hb o e=>(I7.pin (b,o) (List.mem_append_right _ (List.mem_append_right _ (cX hb e)))).1,λb hb=>?_,w7⟩
    obtain⟨o,e,d⟩:=T.obj _ _ st5 b hb
    exact(I7.pin (b,o) (List.mem_append_right _ (List.mem_append_right _ (cX hb e)))).2.1
   cases f with
   | next=>obtain⟨σ7,H7,I7,n7⟩:=q7;exact again I7 n7
   | cont=>obtain⟨σ7,H7,I7,n7⟩:=q7;exact again I7 n7
   | brk=>obtain⟨σ7,H7,I7,q7⟩:=q7;exact⟨σ7,H7,I7.unpinned,q7⟩
   | ret v=>obtain⟨x7,σ7,H7,I7,r7,q7⟩:=q7;exact⟨x7,σ7,H7,I7.unpinned,r7,q7⟩
end
end L2
namespace L2
open PySem PySem.Spec PyProof.Rows
abbrev R2:=V->V->Hp->VK->Prop
def OpR(X:Cx)(f:Value->Value->Sem Value)(r:R2):Prop:=
 ∀(pins:List (Addr×Obj)) (s:Shared) (σ:St) (H:Hp) (x y:V) (v u:Value) (Q:VK),Inv X pins σ H s->aR x v->aR y u->r x y H Q ->
  wpAny (model X.prog X.w) X.A (f v u) (EP X pins σ Q) X.xe s
def UnR(X:Cx)(f:Value->Sem Value)(r:V->Hp->VK->Prop):Prop:=
 ∀(pins:List (Addr×Obj)) (s:Shared) (σ:St) (H:Hp) (x:V) (v:Value) (Q:VK),Inv X pins σ H s->aR x v->r x H Q ->
  wpAny (model X.prog X.w) X.A (f v) (EP X pins σ Q) X.xe s
def eG(X:Cx)(f:Value)(r:List V->Hp->VK->Prop):Prop:=
 ∀(pins:List (Addr×Obj)) (s:Shared) (σ:St) (H:Hp) (xs:List V) (us:List Value) (Q:VK),Inv X pins σ H s->aJ xs us->r xs H Q ->
  wpAny (model X.prog X.w) X.A (call f us) (EP X pins σ Q) X.xe s
def aHP(X:Cx)(r:V->Hp->(Bool->Hp->Prop)->Prop):Prop:=
 ∀(pins:List (Addr×Obj)) (s:Shared) (σ:St) (H:Hp) (x:V) (v:Value) (Q:Bool->Hp->Prop),Inv X pins σ H s->aR x v->r x H Q ->
  wpAny (model X.prog X.w) X.A (truthy v) (TP X pins σ Q) X.xe s
def tOp(r:R2)(ta tb:TE):TE:=λσ H Q=>ta σ H λx H1=>tb σ H1 λy H2=>r x y H2 Q
def tUn(r:V->Hp->VK->Prop)(ta:TE):TE:=λσ H Q=>ta σ H λx H1=>r x H1 Q
def rI(C:Int->Int->Prop)(g:Int->Int->V):R2:=λx y H Q=>∃i j,x=.int i/\y=.int j/\C i j/\Q (g i j) H
def rI0(g:Int->Int->V):R2:=λx y H Q=>∃i j,x=.int i/\y=.int j/\Q (g i j) H
def rU(g:Int->V):V->Hp->VK->Prop:=λx H Q=>∃i,x=.int i/\Q (g i) H
section
variable {X:Cx} {a b c:Expr} {ta tb tc:TE} {pos:Pos}
theorem aEZ(ha:PE X a ta)(hb:PE X b tb){pins:List (Addr×Obj)}{s:Shared}{σ:St}{H:Hp}{R:V->V->Hp->Prop}(I:Inv X pins σ H s)
 (h:ta σ H λx H1=>tb σ H1 λy H2=>R x y H2) {Q:Value->Shared->Prop} {f:Value->Value->Sem Value}
 (hf:∀v u s2 x y H2,Inv X pins σ H2 s2->aR x v->aR y u->R x y H2->wpAny (model X.prog X.w) X.A (f v u) Q X.xe s2) :
 wpAny (model X.prog X.w) X.A (eval a X.env) (λv s₁=>wpAny (model X.prog X.w) X.A (eval b X.env) (λu s₂=>wpAny (model X.prog X.w) X.A (f v u) Q X.xe s₂) X.xe s₁) X.xe s:=by
 refine thn (ha pins s σ H _ I h) λv s1 ⟨x,H1,I1,r1,q1⟩=>?_
 refine thn (hb pins s1 σ H1 _ I1 q1) λu s2 ⟨y,H2,I2,r2,q2⟩=>?_
 exact hf v u s2 x y H2 I2 r1 r2 q2
theorem aFa{op:UnaryOp}{r:V->Hp->VK->Prop}(ho:UnR X (unaryOp op) r)(ha:PE X a ta):PE X (.UnaryOp op a pos) (tUn r ta):=by
 intro pins s σ H Q I h
 exact UnaryOp_ (thn (ha pins s σ H _ I h) λv s1 ⟨x,H1,I1,r1,q1⟩=>ho pins s1 σ H1 x v Q I1 r1 q1)
theorem opI{f:Value->Value->Sem Value}{C:Int->Int->Prop}{g:Int->Int->Int}
 (rule:∀(i j:Int) (t u:Tok) (s:Shared) (Q:Value->Shared->Prop) (E:Value->Shared->Prop),C i j->Q (.int (g i j) s.toks) { s with toks:=s.toks+1 }->wpAny (model X.prog X.w) X.A (f (.int i t) (.int j u)) Q E s) :
 OpR X f (rI C λi j=>.int (g i j)):=by
 intro pins s σ H x y v u Q I rx ry h
 obtain⟨i,j,rfl,rfl,hc,q⟩:=h
 obtain⟨t,rfl⟩:=rx
 obtain⟨t',rfl⟩:=ry
 exact rule i j t t' s _ _ hc ⟨.int (g i j),H,I.tok _,⟨_,rfl⟩,q⟩
theorem aFb{f:Value->Value->Sem Value}{g:Int->Int->Int}
 (rule:∀(i j:Int) (t u:Tok) (s:Shared) (Q:Value->Shared->Prop) (E:Value->Shared->Prop),Q (.int (g i j) s.toks) { s with toks:=s.toks+1 }->wpAny (model X.prog X.w) X.A (f (.int i t) (.int j u)) Q E s) :
 OpR X f (rI0 λi j=>.int (g i j)):=by
 intro pins s σ H x y v u Q I rx ry h
 obtain⟨i,j,rfl,rfl,q⟩:=h
 obtain⟨t,rfl⟩:=rx
 obtain⟨t',rfl⟩:=ry
 exact rule i j t t' s _ _ ⟨.int (g i j),H,I.tok _,⟨_,rfl⟩,q⟩
theorem aAu{f:Value->Value->Sem Value}{g:Int->Int->Bool}
 (rule:∀(i j:Int) (t u:Tok) (s:Shared) (Q:Value->Shared->Prop) (E:Value->Shared->Prop),Q (.bool (g i j)) s->wpAny (model X.prog X.w) X.A (f (.int i t) (.int j u)) Q E s) :
 OpR X f (rI0 λi j=>.bl (g i j)):=by
 intro pins s σ H x y v u Q I rx ry h
 obtain⟨i,j,rfl,rfl,q⟩:=h
 obtain⟨t,rfl⟩:=rx
 obtain⟨t',rfl⟩:=ry
 exact rule i j t t' s _ _ ⟨.bl (g i j),H,I,rfl,q⟩
def aHQ(i j:Int):Prop:=0<j/\j<1073741824
def aHR(i j:Int):Prop:=0<=j/\j<=1000000/\i.natAbs<2 ^ 64
def aCU(i j:Int):Prop:=(-(2 ^ 64)<i/\i<2 ^ 64)\/(-(2 ^ 64)<j/\j<2 ^ 64)
theorem aCU.ok{i j:Int}(h:aCU i j):IntMulOk i j:=by
 rcases h with⟨h1,h2⟩|⟨h1,h2⟩
 . exact .of_left (intBits_le_64 h1 h2)
 . exact .of_right (intBits_le_64 h1 h2)
theorem aCV:OpR X (binaryOp .Add) (rI0 λi j=>.int (i+j)):=aFb λ_ _ _ _ _ _ _ q=>add_int q
theorem aCW:OpR X (binaryOp .Sub) (rI0 λi j=>.int (i-j)):=aFb λ_ _ _ _ _ _ _ q=>sub_int q
theorem aCX:OpR X (binaryOp .Mult) (rI aCU λi j=>.int (i*j)):=opI λ_ _ _ _ _ _ _ hc q=>mul_int q hc.ok
theorem aAv:OpR X (binaryOp .FloorDiv) (rI aHQ λi j=>.int (i / j)):=opI λi j _ _ _ _ _ hc q=>by
 have h1:(0:Int)<j:=hc.1
 have h2:j<1073741824:=hc.2
 exact floordiv_int (by omega) (by rw[Int.fdiv_eq_ediv_of_nonneg i (by omega)];exact q) (.inl (PyProof.noPylong_small (by omega)))
theorem aCY:OpR X (binaryOp .Mod) (rI (λ_ j=>0<j) λi j=>.int (i % j)):=opI λi j _ _ _ _ _ hc q=>by
 have h1:(0:Int)<j:=hc
 exact mod_int' (by omega) (by rw[Int.fmod_eq_emod_of_nonneg i (by omega)];exact q)
theorem aCZ:OpR X (binaryOp .Pow) (rI aHR λi j=>.int (i ^ j.toNat)):=opI λ_ _ _ _ _ _ _ hc q=>pow_int_small hc.1 hc.2.1 hc.2.2 q
theorem unI{f:Value->Sem Value}{g:Int->Int}
 (rule:∀(i:Int) (t:Tok) (s:Shared) (Q:Value->Shared->Prop) (E:Value->Shared->Prop),Q (.int (g i) s.toks) { s with toks:=s.toks+1 }->wpAny (model X.prog X.w) X.A (f (.int i t)) Q E s) :
 UnR X f (rU λi=>.int (g i)):=by
 intro pins s σ H x v Q I rx h
 obtain⟨i,rfl,q⟩:=h
 obtain⟨t,rfl⟩:=rx
 exact rule i t s _ _ ⟨.int (g i),H,I.tok _,⟨_,rfl⟩,q⟩
theorem aDa:UnR X (unaryOp .USub) (rU λi=>.int (-i)):=unI λ_ _ _ _ _ q=>neg_int q
end
section
variable {X:Cx} {a b c:Expr} {ta tb tc:TE} {pos:Pos}
theorem pZ{pins:List (Addr×Obj)}{σ:St}{H:Hp}{s:Shared}{Q:VK}{k k':Bool}(I:Inv X pins σ H s)(q:Q (.bl k) H)(e:k=k'):EP X pins σ Q (.bool k') s:=by
 subst e
 exact⟨.bl k,H,I,rfl,q⟩
theorem aFc:OpR X (compareOp .Lt) (rI0 λi j=>.bl (decide (i<j))):=aAu λ_ _ _ _ _ _ _ q=>lt_int q
theorem aFd:OpR X (compareOp .LtE) (rI0 λi j=>.bl (decide (i<=j))):=aAu λ_ _ _ _ _ _ _ q=>le_int q
theorem aFe:OpR X (compareOp .Gt) (rI0 λi j=>.bl (decide (j<i))):=aAu λ_ _ _ _ _ _ _ q=>gt_int q
theorem aFf:OpR X (compareOp .GtE) (rI0 λi j=>.bl (decide (j<=i))):=aAu λ_ _ _ _ _ _ _ q=>ge_int q
theorem tY:OpR X (compareOp .In) (λx y H Q=>∃i j,x=.str i/\y=.str j/\Q (.bl (!(Builtin.Str.occurrences j i 0 j.length 1).isEmpty)) H):=by
 intro pins s σ H x y v u Q I rx ry h
 obtain⟨i,j,rfl,rfl,q⟩:=h
 obtain⟨t,rfl⟩:=rx
 obtain⟨t',rfl⟩:=ry
 exact in_str (pZ I q rfl)
theorem aDb:OpR X (compareOp .Is) (λx y H Q=>y=.non/\Q (.bl (decide (x=.non))) H):=by
 intro pins s σ H x y v u Q I rx ry h
 obtain⟨rfl,q⟩:=h
 cases ry
 refine is_none_gen (pZ I q ?_)
 cases x <;> first
  | (cases rx;rfl)
  | (obtain⟨t,rfl⟩:=rx;rfl)
theorem aAw:OpR X (compareOp .IsNot) (λx y H Q=>y=.non/\Q (.bl (!decide (x=.non))) H):=by
 intro pins s σ H x y v u Q I rx ry h
 obtain⟨rfl,q⟩:=h
 cases ry
 refine isnot_none_gen (pZ I q ?_)
 cases x <;> first
  | (cases rx;rfl)
  | (obtain⟨t,rfl⟩:=rx;rfl)
theorem aAx{op:CmpOp}{r:R2}(ho:OpR X (compareOp op) r)(ha:PE X a ta)(hb:PE X b tb)(hm:behindInMarks op b=false):PE X (.Compare a [op] [b] pos) (tOp r ta tb):=by
 intro pins s σ H Q I h
 exact wpAny_Compare1 (aEZ ha hb I h λv u s2 x y H2 I2 rx ry q=>ho pins s2 σ H2 x y v u Q I2 rx ry q) hm
def aBZ(t:TE):TT:=λσ H Q=>t σ H λx H'=>∃k,x=.bl k/\Q k H'
theorem aAy{op:CmpOp}{r:R2}(ho:OpR X (compareOp op) r)(ha:PE X a ta)(hb:PE X b tb)(hm:behindInMarks op b=false):PT X (.Compare a [op] [b] pos) (aBZ (tOp r ta tb)):=by
 intro pins s σ H Q I h
 refine wpAny_isTrue_Compare1 (thn (ha pins s σ H _ I h) λv s1 ⟨x,H1,I1,r1,q1⟩=>thn (hb pins s1 σ H1 _ I1 q1) λu s2 ⟨y,H2,I2,r2,q2⟩=>
  thn (ho pins s2 σ H2 x y v u _ I2 r1 r2 q2) λc s3 ⟨z,H3,I3,r3,k,e,q3⟩=>?_) hm
 subst e
 cases r3
 exact wpAny_truthy_bool ⟨H3,I3,q3⟩
def vW(r r':R2)(ta tb tc:TE):TE:=λσ H Q=>ta σ H λx H1=>tb σ H1 λy H2=>r x y H2 λz H3=>∃k,z=.bl k /\
 (if k=true then tc σ H3 λw' H4=>r' y w' H4 Q else Q (.bl false) H3)
theorem vX{op op':CmpOp}{r r':R2}(ho:OpR X (compareOp op) r)(ho':OpR X (compareOp op') r')(ha:PE X a ta)(hb:PE X b tb)(hc:PE X c tc)
 (hm:lastMarks [op,op'] [b,c]=false:=by with_unfolding_all rfl):PE X (.Compare a [op,op'] [b,c] pos) (vW r r' ta tb tc):=by
 intro pins s σ H Q I h
 refine Compare_chain (thn (ha pins s σ H _ I h) λv s1 ⟨x,H1,I1,r1,q1⟩=>chain_link (thn (hb pins s1 σ H1 _ I1 q1) λu s2 ⟨y,H2,I2,r2,q2⟩=>
  thn (ho pins s2 σ H2 x y v u _ I2 r1 r2 q2) λd s3 ⟨z,H3,I3,r3,k,e,q3⟩=>?_)) hm
 subst e
 cases r3
 refine wpAny_truthy_bool ?_
 cases k with
 | false=>exact ite_ff ⟨.bl false,H3,I3,rfl,q3⟩
 | true=>exact ite_tt (chain_last (thn (hc pins s3 σ H3 _ I3 q3) λw' s4 ⟨z',H4,I4,r4,q4⟩=>ho' pins s4 σ H4 y z' u w' Q I4 r2 r4 q4))
theorem vY{op op':CmpOp}{r r':R2}(ho:OpR X (compareOp op) r)(ho':OpR X (compareOp op') r')(ha:PE X a ta)(hb:PE X b tb)(hc:PE X c tc)
 (hm:lastMarks [op,op'] [b,c]=false:=by with_unfolding_all rfl):PT X (.Compare a [op,op'] [b,c] pos) (aBZ (vW r r' ta tb tc)):=by
 intro pins s σ H Q I h
 refine isTrue_chain (thn (ha pins s σ H _ I h) λv s1 ⟨x,H1,I1,r1,q1⟩=>test_link (thn (hb pins s1 σ H1 _ I1 q1) λu s2 ⟨y,H2,I2,r2,q2⟩=>
  thn (ho pins s2 σ H2 x y v u _ I2 r1 r2 q2) λd s3 ⟨z,H3,I3,r3,k,e,q3⟩=>?_)) hm
 subst e
 cases r3
 refine wpAny_truthy_bool ?_
 cases k with
 | false=>
  obtain⟨k',e',q'⟩:=q3
  cases e'
  exact ite_ff ⟨H3,I3,q'⟩
 | true=>
  refine ite_tt (test_last (thn (hc pins s3 σ H3 _ I3 q3) λw' s4 ⟨z',H4,I4,r4,q4⟩=>thn (ho' pins s4 σ H4 y z' u w' _ I4 r2 r4 q4) λd' s5 ⟨z2,H5,I5,r5,k2,e2,q5⟩=>?_))
  subst e2
  cases r5
  exact wpAny_truthy_bool ⟨H5,I5,q5⟩
def aAz(K:PySem.W.Frag)(x:V)(H:Hp)(k:Bool):Prop:=
 match x with
 | .non=>k=false
 | .bl b=>k=b
 | .int i=>k=(i != 0)
 | .str y=>y.length<=sizeLine/\k=((y.length:Int) != 0)
 | .byt y=>y.size<=sizeLine/\k=((y.size:Int) != 0)
 | .ref p=>(∃xs,SqL K H p xs/\k=!xs.isEmpty)\/(∃xs,SqT K H p xs/\k=!xs.isEmpty)\/∃kvs,H p=some (.dK kvs)/\k=!kvs.isEmpty
 | _=>False
theorem qB{κ:Type}{kvs:List (κ×V)}{vs:List (κ×Value)}(r:KV kvs vs):(!vs.isEmpty)=!kvs.isEmpty:=by
 cases r <;> rfl
theorem jI{xs:List V}{its:List Value}(r:aJ xs its):(!its.toArray.isEmpty)=!xs.isEmpty:=by
 cases r <;> simp
theorem gN:(sizeLine:Nat)<2 ^ 63:=by rw[sizeLine_eq];decide
theorem vZ:aHP X (λx H Q=>∃k,aAz X.K x H k/\Q k H):=by
 intro pins s σ H x v Q I rx h
 obtain⟨k,e,q⟩:=h
 have hl:=gN
 have hs:sizeLine=16777216:=sizeLine_eq
 cases x with
 | non=>
  cases rx
  have e':k=false:=e
  subst e'
  exact truthy_none ⟨H,I,q⟩
 | bl b=>
  cases rx
  have e':k=b:=e
  subst e'
  exact wpAny_truthy_bool ⟨H,I,q⟩
 | int i=>
  obtain⟨t,rfl⟩:=rx
  have e':k=(i != 0):=e
  subst e'
  exact PySem.P.truthy_int ⟨H,I,q⟩
 | str y=>
  obtain⟨t,rfl⟩:=rx
  obtain⟨hy,e'⟩:y.length<=sizeLine/\k=((y.length:Int) != 0):=e
  subst e'
  exact PySem.P.truthy_str (by omega) ⟨H,I.tok _,q⟩
 | byt y=>
  obtain⟨t,rfl⟩:=rx
  obtain⟨hy,e'⟩:y.size<=sizeLine/\k=((y.size:Int) != 0):=e
  subst e'
  exact PySem.W.truthy_bytes (by omega) ⟨H,I.tok _,q⟩
 | ref p=>
  cases rx
  have e':(∃xs,SqL X.K H p xs/\k=!xs.isEmpty)\/(∃xs,SqT X.K H p xs/\k=!xs.isEmpty)\/∃kvs,H p=some (.dK kvs)/\k=!kvs.isEmpty:=e
  rcases e' with⟨xs,hx,e'⟩|⟨xs,hx,e'⟩|⟨kvs,hx,e'⟩
  . subst e'
    obtain⟨its,r,pl,hz⟩:=I.list hx
    have hlen:=r.length
    exact wpAny_truthy_list pl.isList (by simp only[List.size_toArray];omega) ⟨H,I.tok _,by rw[jI r];exact q⟩
  . subst e'
    obtain⟨its,r,pl,hz⟩:=I.tuple hx
    have hlen:=r.length
    exact truthy_tuple pl (by simp only[List.size_toArray];omega) ⟨H,I.tok _,by rw[jI r];exact q⟩
  . subst e'
    obtain⟨hz,hS,vs,r,m⟩:kvs.length<=sizeLine/\(p==sysModules)=false/\∃vs,KV kvs vs/\s.heap.DictOf (cA X.prog X.w) p vs:=I.hok p _ hx
    have hlen:kvs.length=vs.length:=Paired.length r
    exact wpAny_truthy_dict hS m (by omega) ⟨H,I.tok _,by rw[qB r];exact q⟩
 | _=>exact(show False from e).elim
theorem wB(ha:PE X a ta)(he:∀whole,isTrue a X.env whole=(do let v<-whole;standAt a.pos;holding [v] (truthy v))) :
 PT X a (λσ H Q=>ta σ H λx H'=>∃k,aAz X.K x H' k/\Q k H'):=by
 intro pins s σ H Q I h
 exact isTrue_plain (thn (ha pins s σ H _ I h) λv s1 ⟨x,H1,I1,r1,q1⟩=>vZ pins s1 σ H1 x v Q I1 r1 q1) (he _)
theorem qD:OpR X (binaryOp .Add) (λx y H Q=>∃i j,x=.str i/\y=.str j/\i.length+j.length<=sizeLine/\Q (.str (i++j)) H):=by
 intro pins s σ H x y v u Q I rx ry h
 obtain⟨i,j,rfl,rfl,hz,q⟩:=h
 obtain⟨t,rfl⟩:=rx
 obtain⟨t',rfl⟩:=ry
 exact add_str (λt' tk=>⟨.str (i++j),H,I.tok _,⟨_,rfl⟩,q⟩) hz
theorem nT{x:V}{us:List Value}(r:aJ [x] us):∃u,us=[u]/\aR x u:=by
 cases r with
 | cons r1 r2=>cases r2;exact⟨_,rfl,r1⟩
theorem tZ:eG X (.type "int") (λxs H Q=>(∃i,xs=[.int i]/\Q (.int i) H)\/∃k,xs=[.bl k]/\Q (.int (if k then 1 else 0)) H):=by
 intro pins s σ H xs us Q I r h
 rcases h with⟨i,rfl,q⟩|⟨k,rfl,q⟩
 . obtain⟨u,rfl,t,rfl⟩:=nT r
   exact call_int_int ⟨.int i,H,I,⟨_,rfl⟩,q⟩
 . obtain⟨u,rfl,r1⟩:=nT r
   cases r1
   exact call_int_bool ⟨.int (if k then 1 else 0),H,I.tok _,⟨_,rfl⟩,q⟩
end
end L2
namespace L2
open PySem PySem.Spec PyProof.Rows
section
variable {prog:Program} {w:World} {A:Around} {E:Value->Shared->Prop} {s:Shared} {K:PySem.W.Frag} {x dx C f:Addr} {mA:Str->Option Value} {name:Str} {v:Value}
end
section
variable {P:Program} {w:World} {H H':Hp} {h h':Heap} {a C dx:Addr} {fs fs':List (Str×V)}
end
section
variable {X:Cx} {pins:List (Addr×Obj)} {σ:St} {H:Hp} {s:Shared} {a C dx:Addr} {fs:List (Str×V)} {f:Str} {v:V} {A:Around} {E:Value->Shared->Prop}
end
section
variable {X:Cx} {o e value:Expr} {f:Str} {pos pos' tpos:Pos} {ta tv:TE}
end
section
variable {X:Cx} {pins:List (Addr×Obj)} {σ:St} {H:Hp} {s:Shared} {A:Around} {E:Value->Shared->Prop} {Q:Value->Shared->Prop} {c:Value} {b:Bool}
end
end L2
namespace L2
open PySem PySem.Spec PyProof.Rows
structure iR (k:Nat) (A:Around):Prop where
 hd:A.handled=none
 gd:A.guards=some []
 dp:A.depth+3*k+5<recursionLimit
 un:A.units+16*k+200<cLine
theorem iR.deeper{k:Nat}{A:Around}(r:iR (k+1) A)(env:Env):iR k (A.deeper env):=
 ⟨r.hd,r.gd,by have:=r.dp;show A.depth+1+3*k+5<_;omega,by have:=r.un;show A.units+3+16*k+200<_;omega⟩
theorem iR.depth{k:Nat}{A:Around}(r:iR k A):A.depth<recursionLimit:=by have:=r.dp;omega
def aHS:TA:=λ_ H Q=>Q [] H
def aFg(ta:TE)(tr:TA):TA:=λσ H Q=>ta σ H λx H1=>tr σ H1 λxs H2=>Q (x::xs) H2
section
variable {X:Cx} {e:Expr} {es:List Expr} {te:TE} {t:TA} {pos:Pos}
theorem jJ:PA X [] aHS:=λ_ _ _ _ H Q I h=>Calls.spliced_nil ⟨[],H,I,.nil,h⟩
theorem fV(ha:PE X e te)(hr:PA X es t)(hs:starEach (e::es) X.env=(false,eval e X.env)::starEach es X.env:=by rfl):PA X (e::es) (aFg te t):=by
 intro pos pins s σ H Q I h
 rw[hs]
 show wpAny _ _ (spliced ((false,eval e X.env)::backTo pos (starEach es X.env))) _ _ s
 refine Calls.spliced_cons (thn (ha pins s σ H _ I h) λu s1 ⟨x,H1,I1,r1,q1⟩=>?_)
 exact thn (hr pos pins s1 σ H1 _ I1 q1) λus s2 ⟨xs,H2,I2,r2,q2⟩=>⟨x::xs,H2,I2,.cons r1 r2,q2⟩
def aHT(t:TA):TE:=λσ H Q=>t σ H λxs H1=>xs.length<=sizeLine/\∀p,H1 p=none->Q (.ref p) (upd H1 p (.tup xs))
def aHU(t:TA):TE:=λσ H Q=>t σ H λxs H1=>xs.length<=sizeLine/\∀p,H1 p=none->Q (.ref p) (upd H1 p (.lst xs))
theorem wC{x1}(h:PA X es t):PE X (.Tuple es x1 pos) (aHT t):=by
 intro pins s σ H Q I hq
 refine wpAny_Tuple_spliced (thn (h pos pins s σ H _ I hq) λus s1 ⟨xs,H1,I1,r,z,q⟩=>⟨by rw[<-r.length];exact z,?_⟩)
 have hf:H1 s1.heap.objs.size=none:=I1.hok.fresh (Nat.le_refl _)
 refine⟨.ref s1.heap.objs.size,upd H1 s1.heap.objs.size (.tup xs),I1.laid (t':=s1.toks) (λb u e=>Heap.get?_push_of_some _ e) (Nat.le_refl _) ?_,rfl,q _ hf⟩
 exact⟨z,us,r,⟨_,Heap.get?_push_size _ rfl,rfl,_,rfl⟩⟩
theorem aDc(h:PA X es t):PE X (.List es pos) (aHU t):=by
 intro pins s σ H Q I hq
 refine wpAny_List_spliced (thn (h pos pins s σ H _ I hq) λus s1 ⟨xs,H1,I1,r,z,q⟩=>⟨by rw[<-r.length];exact z,?_⟩)
 have hf:H1 s1.heap.objs.size=none:=I1.hok.fresh (Nat.le_refl _)
 refine⟨.ref s1.heap.objs.size,upd H1 s1.heap.objs.size (.lst xs),I1.laid (t':=s1.toks) (λb u e=>Heap.get?_push_of_some _ e) (Nat.le_refl _) ?_,rfl,q _ hf⟩
 exact⟨z,us,0,r,Heap.get?_push_size _ rfl⟩
end
abbrev Sp:=List V->Hp->VK->XK->Prop
abbrev CXT:=List Env->Hp->Shared->XK->Value->Shared->Prop
structure aAA (P:Program) (w:World) (K:PySem.W.Frag) (mg:Str->Option Value) (base:Heap) (A:Around) (outer:List Env) (s:Shared) (H:Hp):Prop where
 frames:A.frames=some outer
 mod:Mod K mg base
 bs:∀b o,base.get? b=some o->s.heap.get? b=some o/\H b=none
 bsz:base.objs.size<=s.heap.objs.size
 funs:s.heap.FunFrames base outer
 frf:∀b∈frs outer,H b=none
 hok:HOk P w H s.heap
 bare:AllBare s.gens
def CE(outer:List Env)(P:Program)(w:World)(H:Hp)(s:Shared)(Q:VK)(u:Value)(s':Shared):Prop:=
 ∃v H',s'.os=s.os/\AllBare s'.gens/\Un (frs outer) [] H H' s.heap s'.heap/\HOk P w H' s'.heap/\aR v u/\Q v H'
def CR(CX:CXT)(outer:List Env)(P:Program)(w:World)(H:Hp)(s:Shared)(Q:VK)(E:XK)(r:Result)(s':Shared):Prop:=
 match r with
 | .ok (.ret u)=>CE outer P w H s Q u s'
 | .ok _=>False
 | .error e=>CX outer H s E e s'
structure mI (P:Program) (w:World) (K:PySem.W.Frag) (mg:Str->Option Value) (base:Heap) (CX:CXT) (k:Nat) (f:Addr) (fd:FuncData) (ps:List Str) (sp:Sp):Prop where
 len:∀vs H Q E,sp vs H Q E->vs.length=ps.length
 run:∀(A:Around) (outer:List Env) (s:Shared) (H:Hp) (args:Args) (us:List Value) (vs:List V) (Q:VK) (E:XK),iR k A->aAA P w K mg base A outer s H->BindsTo s fd args (ps.zip us)->aJ vs us->sp vs H Q E ->
  codeAny (model P w) A (.call (.ref f) args) (CR CX outer P w H s Q E) s
section
variable {X:Cx} {pins:List (Addr×Obj)} {σ:St} {H:Hp} {s s':Shared}
theorem Inv.env0(I:Inv X pins σ H s):aAA X.prog X.w X.K X.mg X.base X.A X.stack s H:=
 ⟨I.ok.frames,I.ok.mod,I.bs,Nat.le_trans I.ok.bsz I.sz,I.stack,I.stkFree,I.hok,I.bare⟩
theorem Inv.after{Q:VK}{u:Value}(I:Inv X pins σ H s)(h:CE X.stack X.prog X.w H s Q u s'):EP X pins σ Q u s':=by
 obtain⟨v,H',os,bare,un,hok,r,q⟩:=h
 obtain⟨hh,g,d,t,os'⟩:=s'
 obtain rfl:os'=s.os:=os
 exact⟨v,H',I.call (h':=hh) (g':=g) (d':=d) (t':=t) (ch:=[]) un hok bare (λb z=>absurd z (by simp)),r,q⟩
end
def iK(K:PySem.W.Frag)(fd:FuncData)(ps:List Str)(ds:List Value):Prop:=
 ∀(s:Shared) (us:List Value),K.In s.heap->(us++ds).length=ps.length->BindsTo s fd ⟨us,[]⟩ (ps.zip (us++ds))
theorem iK.all{K:PySem.W.Frag}{fd:FuncData}{ps:List Str}(h:∀us:List Value,us.length=ps.length->bindArgs fd ⟨us,[]⟩=pure (ps.zip us)):iK K fd ps []:=λs us _ hl=>by
 rw[List.append_nil] at hl ⊢
 exact .of_eq (h us hl)
section
variable {X:Cx} {CX:CXT} {k:Nat} {f C:Addr} {fd:FuncData} {ps:List Str} {sp:Sp} {dvs:List V} {ds:List Value} {E:XK} {x m:Str} {p pos apos:Pos} {e o:Expr} {es:List Expr} {ta:TE} {t:TA}
end
section
variable {X:Cx} {CX:CXT} {k:Nat} {f C:Addr} {fd:FuncData} {ps ks:List Str} {sp:Sp} {E:XK} {x m:Str} {p pos apos kpos:Pos} {e o:Expr} {es:List Expr} {kws:List Keyword} {te ta:TE} {t tk:TA} {nm:Option Str}
variable {g:List Value->List Value->List Value} {gV:List V->List V->List V}
end
structure mJ (N P:List Str) (sc:Scope):Prop where
 kind:sc.kind=.function
 co:sc.isCoroutine=false
 gen:sc.isGenerator=false
 nd:N.Nodup
 pre:N.take P.length=P
 par:∀x∈P,sc.names.lookup x=some .local\/sc.names.lookup x=some .cell
 nofree:∀y∈sc.names,y.2≠.free
theorem kT{kindOf:Str->Option NameKind}{x:Str}:∀{binds:List (Str×Value)} {m:Str->Option Value},(∀v,(x,v)∉binds)->bindL kindOf binds m x=m x
 | [],_,_=>rfl
 | (n,v)::r,m,h=>by
  unfold bindL
  rw[kT λw hw=>h w (List.mem_cons_of_mem _ hw)]
  split
  . have:x≠n:=by rintro rfl;exact h v List.mem_cons_self
    simp[this]
  . rfl
theorem kU{kindOf:Str->Option NameKind}{x:Str}:∀{binds:List (Str×Value)} {m:Str->Option Value},(∀v,(x,v)∉binds)->bindC kindOf binds m x=m x
 | [],_,_=>rfl
 | (n,v)::r,m,h=>by
  unfold bindC
  rw[kU λw hw=>h w (List.mem_cons_of_mem _ hw)]
  split
  . rfl
  . have:x≠n:=by rintro rfl;exact h v List.mem_cons_self
    simp[this]
theorem kW{kindOf:Str->Option NameKind}{x:Str}{v:Value}:∀{P:List Str} {vs:List Value} {i:Nat} {m:Str->Option Value},P.Nodup->P[i]? = some x->vs[i]? = some v->kindOf x=some .local ->
 bindL kindOf (P.zip vs) m x=some v
 | [],_,_,_,_,h,_,_=>by simp at h
 | _::_,[],_,_,_,_,h,_=>by simp at h
 | p::P,w::vs,0,m,nd,h1,h2,hk=>by
  simp at h1 h2;subst h1;subst h2
  show bindL kindOf ((p,w)::P.zip vs) m p=_
  unfold bindL
  rw[kT λv hv=>(List.nodup_cons.mp nd).1 (List.of_mem_zip hv).1,if_pos hk]
  simp
 | p::P,w::vs,i+1,m,nd,h1,h2,hk=>by
  show bindL kindOf ((p,w)::P.zip vs) m x=_
  unfold bindL
  exact kW (i:=i) (List.nodup_cons.mp nd).2 (by simpa using h1) (by simpa using h2) hk
theorem kX{kindOf:Str->Option NameKind}{x:Str}{v:Value}:∀{P:List Str} {vs:List Value} {i:Nat} {m:Str->Option Value},P.Nodup->P[i]? = some x->vs[i]? = some v->kindOf x≠some .local ->
 bindC kindOf (P.zip vs) m x=some v
 | [],_,_,_,_,h,_,_=>by simp at h
 | _::_,[],_,_,_,_,h,_=>by simp at h
 | p::P,w::vs,0,m,nd,h1,h2,hk=>by
  simp at h1 h2;subst h1;subst h2
  show bindC kindOf ((p,w)::P.zip vs) m p=_
  unfold bindC
  rw[kU λv hv=>(List.nodup_cons.mp nd).1 (List.of_mem_zip hv).1,if_neg hk]
  simp
 | p::P,w::vs,i+1,m,nd,h1,h2,hk=>by
  show bindC kindOf ((p,w)::P.zip vs) m x=_
  unfold bindC
  exact kX (i:=i) (List.nodup_cons.mp nd).2 (by simpa using h1) (by simpa using h2) hk
def start(N:List Str)(vs:List V):St:=vs.map some++List.replicate (N.length-vs.length) none
def mK(CX:CXT)(P:Program)(w:World)(K:PySem.W.Frag)(mg:Str->Option Value)(base:Heap)(N:List Str)(qual:Str)(scope:Scope)(f:Addr)(cd:Value)(A:Around)(outer:List Env)(s:Shared)(H:Hp)(E:XK):Cx where
 prog:=P
 w:=w
 K:=K
 mg:=mg
 base:=base
 A:=A.deeper (envOfC qual scope s.heap.objs.size f cd)
 N:=N
 s₀:=s
 H₀:=H
 env:=envOfC qual scope s.heap.objs.size f cd
 outer:=outer
 stack:=envOfC qual scope s.heap.objs.size f cd::outer
 ex:=[]
 calm:=true
 fn:=λ_=>true
 pn:=[]
 xe:=λe s'=>wpAny (model P w) (A.deeper (envOfC qual scope s.heap.objs.size f cd)) (leaving (envOfC qual scope s.heap.objs.size f cd) e) (λ_ s''=>CX outer H s E e s'') (λe' s''=>CX outer H s E e' s'') s'
theorem nU{sc:Scope}{n:Nat}{x:Str}(h:sc.names.lookup x=some .cell):∃c,(cellsFrom n sc.names []).lookup x=some c:=by
 have q:=PySem.W.cellsFrom_some sc.names n [] (.inl h)
 exact Option.isSome_iff_exists.mp q
theorem uA{CX:CXT}{P:Program}{w:World}{K:PySem.W.Frag}{mg:Str->Option Value}{base:Heap}{N ps:List Str}{qual:Str}{scope:Scope}{f:Addr}{cd:Value}{A:Around}{outer:List Env}{s s1:Shared}{H:Hp}{E:XK}{us:List Value}{vs:List V}
 (S:mJ N ps scope) (hd:A.handled=none) (e0:aAA P w K mg base A outer s H) (hl:vs.length=ps.length) (r:aJ vs us)
 (x:InCallC s s.heap.objs.size (bindL (envOfC qual scope s.heap.objs.size f cd).kindOf (ps.zip us) λ_=>none) (cellsFrom (s.heap.objs.size+1) scope.names []) (bindC (envOfC qual scope s.heap.objs.size f cd).kindOf (ps.zip us) λ_=>none) s1) :
 Inv (mK CX P w K mg base N qual scope f cd A outer s H E) [] (start N vs) H s1:=by
 have hpl:ps.length<=N.length:=by have:=congrArg List.length S.pre;rw[List.length_take] at this;omega
 obtain⟨h1,tk,rfl,hk⟩:=x.done
 have noA:∀b:Addr,b∉(mK CX P w K mg base N qual scope f cd A outer s H E).ex:=λb z=>absurd (show b∈([]:List Addr) from z) (by simp)
 refine⟨⟨e0.mod,S.kind,rfl,rfl,Nat.le_refl _,λy z c h1 h2=>?_,λy hy=>?_,λy c _ h=>?_,λ_=>hd,Around.frames_deeper e0.frames,.inr ⟨rfl,rfl⟩,λb z=>absurd z (noA b),e0.bs,e0.bsz,λb _ _=>noA b,λb z=>absurd z (noA b),e0.funs,e0.frf⟩,
  rfl,e0.bare,Un.kept hk,⟨_,x.toInCall.ns,λi y v h1 h2 h3=>?_⟩,λy c h=>⟨_,x.cell y c h⟩,e0.hok.fresh (Nat.le_refl _),λy c h=>?_,λp hp=>absurd (show p∈([]:List (Addr×Obj)) from hp) (by simp),e0.hok.kept hk,?_⟩
 . exact name_of_addr x.apart (PySem.mem_of_lookup h1) (PySem.mem_of_lookup h2)
 . have hy:scope.names.lookup y=some .cell\/scope.names.lookup y=some .free:=hy
   rcases hy with hy|hy
   . exact nU hy
   . exact absurd rfl (S.nofree _ (PySem.mem_of_lookup hy))
 . exact Nat.le_of_lt (x.above y c (PySem.mem_of_lookup h))
 . have hi:i<vs.length:=by
    unfold start at h2
    by_cases hi:i<vs.length
    . exact hi
    . rw[List.getElem?_append_right (by simpa using hi)] at h2
      rw[List.getElem?_replicate] at h2
      split at h2 <;> cases h2
   have ha:vs[i]? = some v:=by
    unfold start at h2
    rw[List.getElem?_append_left (by simpa using hi),List.getElem?_map] at h2
    cases e:vs[i]? with
    | none=>rw[e] at h2;cases h2
    | some a=>rw[e] at h2;cases h2;rfl
   obtain⟨u,hu,rv⟩:=r.get ha
   have hp:ps[i]? = some y:=by
    rw[<-S.pre,List.getElem?_take_of_lt (by omega)];exact h1
   have ndP:ps.Nodup:=by rw[<-S.pre];exact S.nd.sublist (List.take_sublist _ _)
   refine⟨u,rv,?_⟩
   rcases S.par y (List.mem_of_getElem? hp) with k|k
   . exact .inl ⟨k,kW ndP hp hu k⟩
   . obtain⟨c,e⟩:=nU (n:=s.heap.objs.size+1) k
     refine .inr ⟨.inl k,c,e,?_⟩
     have q:=x.cell y c e
     rw[kX ndP hp hu (by show scope.names.lookup y≠_;rw[k];decide)] at q
     exact q
 . exact e0.hok.fresh (Nat.le_of_lt (x.above y c (PySem.mem_of_lookup h)))
 . unfold start
   show _=N.length
   rw[List.length_append,List.length_map,List.length_replicate]
   omega
theorem aFh{CX:CXT}{P:Program}{w:World}{K:PySem.W.Frag}{mg:Str->Option Value}{base:Heap}{k:Nat}{f:Addr}{name qual:Str}{params:Arguments}{body:List Stmt}{scope:Scope}{dV kV doc pm cdv ct oc:Value}{an od:Option Addr}
 {osl:Array (Option Value)} {N ps:List Str} {sp:Sp} (lk:K.lookup f=some ⟨oc,od,.func (PySem.W.fnOf name qual params body scope dV kV doc pm an cdv ct),osl⟩) (hcd:PySem.W.codeIn K cdv qual=true) (S:mJ N ps scope)
 (len:∀vs H Q E,sp vs H Q E->vs.length=ps.length)
 (hbody:∀(A:Around) (outer:List Env) (s:Shared) (H:Hp) (vs:List V) (Q:VK) (E:XK),iR k (A.deeper (envOfC qual scope s.heap.objs.size f cdv))->sp vs H Q E ->
  ∃t,PSs (mK CX P w K mg base N qual scope f cdv A outer s H E) body t/\t { nx:=λ_ H'=>Q .non H',rt:=Q } (start N vs) H) :
 mI P w K mg base CX (k+1) f (PySem.W.fnOf name qual params body scope dV kV doc pm an cdv ct) ps sp:=by
 refine⟨len,λA outer s H args us vs Q E hr e0 hb r hsp=>?_⟩
 have hl:=len _ _ _ _ hsp
 have KX:K.In s.heap:=e0.mod.kin.keeps λb o e=>(e0.bs b o e).1
 have lim:s.heap.NoLimit:=e0.mod.nolimit.keeps λb o e=>(e0.bs b o e).1
 have hkind:∀y∈ps.zip us,scope.names.lookup y.1=some .local\/(scope.names.lookup y.1=some .cell/\((cellsFrom (s.heap.objs.size+1) scope.names []).lookup y.1).isSome=true):=λ⟨n,v⟩ hy=>by
  rcases S.par n (List.of_mem_zip hy).1 with q|q
  . exact .inl q
  . exact .inr ⟨q,PySem.W.cellsFrom_some _ _ _ (.inl q)⟩
 refine codeAny_call_function hr.depth (KX _ _ lk) rfl S.co S.gen rfl (PySem.W.codeRec_of KX hcd) (hb _ _ _ _ ?_)
 refine wpAny_newFunctionEnv_cells S.kind hkind λenv he s1 x=>?_
 subst he
 refine⟨lim.keeps x.toInCall.keep,codeAny_func ?_⟩
 obtain⟨t,ht,hq⟩:=hbody A outer s H vs Q E (hr.deeper _) hsp
 have I:Inv (mK CX P w K mg base N qual scope f cdv A outer s H E) [] (start N vs) H s1:=uA S hr.hd e0 hl r x
 refine wpAny_mono (ht [] s1 (start N vs) H _ I hq) (λfl s' hs=>?_) λe s' hs=>hs
 have fin:∀{σ':St} {H':Hp} {v:V} {u:Value},Inv (mK CX P w K mg base N qual scope f cdv A outer s H E) [] σ' H' s'->aR v u->Q v H'->CE outer P w H s Q u s':=
  λ{σ' H' v u} J rv q=>⟨v,H',J.os,J.bare,J.base,J.hok,rv,q⟩
 cases fl with
 | ret u=>
  obtain⟨v,σ',H',J,rv,q⟩:=hs
  exact fin J rv q
 | next=>
  obtain⟨σ',H',J,q⟩:=hs
  exact fin (v:=V.non) (u:=Value.none) J rfl q
 | brk=>
  obtain⟨_,_,_,q⟩:=hs
  exact False.elim q
 | cont=>
  obtain⟨_,_,_,q⟩:=hs
  exact False.elim q
end L2
namespace L2
open PySem PySem.Spec PyProof.Rows
section
variable {X:Cx} {x:Str} {p pos:Pos} {e:Expr} {es:List Expr} {t:TA} {id T:String} {r:List V->Hp->VK->Prop}
def tCB(r:List V->Hp->VK->Prop)(t:TA):TE:=λσ H Q=>t σ H λvs H1=>r vs H1 Q
theorem wD(hc:eG X (.builtin id) r)(hg:Gl X x)(hm:X.mg x=none)(hv:bootBuiltins x=some (.builtin id))(ha:PA X (e::es) t)(hn:x ≠ "__name__" := by decide)(hdb:(x==("__debug__" : Str))=false:=by decide)
 (he:starEach (e::es) X.env=(false,eval e X.env)::starEach es X.env:=by rfl) (hpl:(backTo pos (starEach es X.env)).any (·.1)=false:=by rfl):PE X (.Call (.Name x p) (e::es) [] pos) (tCB r t):=by
 intro pins s σ H Q I h
 refine wpAny_Call_Name_kw (dS I hg hm hv ?_ hn hdb)
 exact PyProof.Rows.callWith_builtin1 (thn (ha pos pins s σ H _ I h) λus s1 ⟨vs,H1,I1,r1,q1⟩=>hc pins s1 σ H1 vs us Q I1 r1 q1) he hpl
theorem kY(hc:eG X (.type T) r)(hg:Gl X x)(hm:X.mg x=none)(hv:bootBuiltins x=some (.type T))(ha:PA X (e::es) t)(hn:x ≠ "__name__" := by decide)(hdb:(x==("__debug__" : Str))=false:=by decide)
 (he:starEach (e::es) X.env=(false,eval e X.env)::starEach es X.env:=by rfl) (hpl:(backTo pos (starEach es X.env)).any (·.1)=false:=by rfl):PE X (.Call (.Name x p) (e::es) [] pos) (tCB r t):=by
 intro pins s σ H Q I h
 refine wpAny_Call_Name_kw (dS I hg hm hv ?_ hn hdb)
 exact PyProof.Rows.callWith_type1 (thn (ha pos pins s σ H _ I h) λus s1 ⟨vs,H1,I1,r1,q1⟩=>hc pins s1 σ H1 vs us Q I1 r1 q1) he hpl
end
end L2
namespace HT
open PySem PyProof.Rows
section
open PySem.SeqAt
open PySem.AutoSeq1 (wpAny_loadPart')
open PySem.MeetsSeq PySem.MeetsSeq2 PySem.MeetsSeq3
end
section
variable {prog:Program} {w:World} {A:Around} {E:Value->Shared->Prop} {s:Shared}
theorem cat_tup{t b:Addr}{vs ws:List Value}{Q:Value->Shared->Prop}(ht:IsTup s.heap t vs.toArray)(hb:IsTup s.heap b ws.toArray)(hv:vs≠[])
 (h1:ws=[]->Q (.ref t) s) (h2:ws≠[]->Q (.ref s.heap.objs.size) { s with heap:=s.heap.push { cls:=.type "tuple",data:=.seq (vs++ws).toArray } })
 (hsz:vs.length+ws.length<=sizeLine):wpAny (model prog w) A (binaryOp .Add (.ref t) (.ref b)) Q E s:=by
 obtain⟨⟨cls,dd,data,sl⟩,ho,hc,n,hd⟩:=id ht
 obtain⟨⟨cls2,dd2,data2,sl2⟩,ho2,hc2,n2,hd2⟩:=id hb
 simp only at hc hd hc2 hd2
 subst hc hd hc2 hd2
 have e:vs.toArray++ws.toArray=(vs++ws).toArray:=by simp
 by_cases hw:ws=[]
 . exact concat_meets ⟨_,ho,rfl⟩ ⟨_,ho2,rfl⟩ noFill_tuple_add seq_tuple_add PySem.F.slot_tuple_add PySem.F.entry_tuple_add (PySem.F.args_tuple_add_2 _ _)
    (tuple_addW1 t b vs.toArray ws.toArray n n2 dd dd2 sl sl2 (by simpa using hv) (by simp[hw])) ⟨ho,ho2,h1 hw⟩
 . refine concat_meets ⟨_,ho,rfl⟩ ⟨_,ho2,rfl⟩ noFill_tuple_add seq_tuple_add PySem.F.slot_tuple_add PySem.F.entry_tuple_add (PySem.F.args_tuple_add_2 _ _)
    (tuple_addW2 t b vs.toArray ws.toArray n n2 dd dd2 sl sl2 (by simpa using hv) (by simpa using hw) (by rw[List.size_toArray,List.size_toArray];exact hsz)) ⟨ho,ho2,?_⟩
   rw[e]
   exact h2 hw
def sIx(n d:Nat):Option Int->Nat
 | none=>d
 | some v=>if v<0 then (v+(n:Int)).toNat else min v.toNat n
theorem aDd(n d:Nat)(hd:d<=n)(o:Option Int):sIx n d o<=n:=by
 cases o with
 | none=>exact hd
 | some v=>
  show(if v<0 then (v+(n:Int)).toNat else min v.toNat n)<=n
  by_cases hv:v<0
  . rw[if_pos hv];omega
  . rw[if_neg hv];exact Nat.min_le_right _ _
theorem rR(v:Int)(n d:Nat):(if v<0 then max (v+(n:Int)) 0 else min v (n:Int))=((sIx n d (some v):Nat):Int):=by
 show(if v<0 then max (v+(n:Int)) 0 else min v (n:Int))=(((if v<0 then (v+(n:Int)).toNat else min v.toNat n):Nat):Int)
 by_cases hv:v<0
 . simp only[if_pos hv];omega
 . simp only[if_neg hv];omega
theorem qF(lo hi:Option Int)(n:Nat):Builtin.Slice.sliceAdjust lo hi 1 (n:Int)=(((sIx n 0 lo:Nat):Int),((sIx n n hi:Nat):Int)):=by
 have h1:¬ ((1:Int)<0):=by omega
 unfold Builtin.Slice.sliceAdjust
 simp only[h1,if_false]
 refine Prod.ext ?_ ?_
 . cases lo with
   | none=>rfl
   | some v=>exact rR v n 0
 . cases hi with
   | none=>rfl
   | some v=>exact rR v n n
theorem qG(i j:Nat):Builtin.Slice.slicePlaces (i:Int) (j:Int) 1=j-i:=by
 unfold Builtin.Slice.slicePlaces
 have h1:(1:Int)>0:=by omega
 simp only[h1,if_true,Int.ediv_one]
 split <;> omega
theorem jK{v:Value}{o:Option Int}{Q:Option Int->Shared->Prop}(p:IsPart v o)(h:Q o s):wpAny (model prog w) A (Builtin.Slice.slicePartIndex v) Q E s:=by
 cases p with
 | none=>exact slicePart_none h
 | int i t=>exact slicePart_int h
theorem sliceApplied_gen{sl:Addr}{vl vu:Value}{lo hi:Option Int}{n:Nat}{Q:Int×Int×Nat->Shared->Prop}(hs:s.heap.IsSliceOf sl vl vu .none)(pl:IsPart vl lo)(pu:IsPart vu hi)
 (h:Q (((sIx n 0 lo:Nat):Int),1,sIx n n hi-sIx n 0 lo) s):wpAny (model prog w) A (Builtin.Slice.sliceApplied (.ref sl) (pure (n:Int))) Q E s:=by
 obtain⟨os,hos,hcs,hds⟩:=id hs
 unfold Builtin.Slice.sliceApplied Builtin.Slice.sliceFields
 refine wpAny_bind (wpAny_bind (wpAny_field hos hds (x:=vl) rfl (wpAny_bind (wpAny_field hos hds (x:=vu) rfl (wpAny_bind (wpAny_field hos hds (x:=.none) rfl (wpAny_pure ?_)))))))
 refine wpAny_bind (slicePart_none ?_)
 show wpAny _ _ (if ((1:Int)==0)=true then _ else _) _ _ s
 rw[if_neg (by decide)]
 refine wpAny_bind (jK pl (wpAny_bind (jK pu (wpAny_bind (wpAny_pure ?_)))))
 show wpAny _ _ (match Builtin.Slice.sliceAdjust lo hi 1 (n:Int) with|(lo,hi)=>pure (lo,(1:Int),Builtin.Slice.slicePlaces lo hi 1)) _ _ s
 rw[qF lo hi n]
 show wpAny _ _ (pure (((sIx n 0 lo:Nat):Int),(1:Int),Builtin.Slice.slicePlaces ((sIx n 0 lo:Nat):Int) ((sIx n n hi:Nat):Int) 1)) _ _ s
 rw[qG]
 exact wpAny_pure h
theorem wF(xs:Array Value)(i k:Nat):((List.range k).filterMap λ(m:Nat)=>xs[((i:Int)+(m:Int)*1).toNat]?).toArray=((xs.toList.drop i).take k).toArray:=by
 have e:(λ(m:Nat)=>xs[((i:Int)+(m:Int)*1).toNat]?)=λm=>xs[i+m]? := by
  funext m
  have:((i:Int)+(m:Int)*1).toNat=i+m:=by omega
  rw[this]
 rw[e]
 have:=pick_run xs i k
 rw[List.filterMap_map] at this
 have e2:((λx=>xs[x]?)∘λx=>i+x)=λm=>xs[i+m]? := rfl
 rw[e2] at this
 rw[this]
theorem getItem_tuple_cut{t sl:Addr}{items:Array Value}{vl vu:Value}{lo hi:Option Int}{Q:Value->Shared->Prop}(ht:IsTup s.heap t items)(hs:s.heap.IsSliceOf sl vl vu .none)(pl:IsPart vl lo)(pu:IsPart vu hi)
 (hw:¬ (sIx items.size 0 lo=0/\sIx items.size items.size hi=items.size))
 (h:Q (.ref s.heap.objs.size) { s with heap:=s.heap.push { cls:=.type "tuple",data:=.seq ((items.toList.drop (sIx items.size 0 lo)).take (sIx items.size items.size hi-sIx items.size 0 lo)).toArray } })
 (hsz:items.size<=sizeLine):wpAny (model prog w) A (getItem (.ref t) (.ref sl)) Q E s:=by
 have htake:sizeOk (.seq ((items.toList.drop (sIx items.size 0 lo)).take (sIx items.size items.size hi-sIx items.size 0 lo)).toArray):=by
  show((items.toList.drop (sIx items.size 0 lo)).take (sIx items.size items.size hi-sIx items.size 0 lo)).toArray.size<=sizeLine
  rw[List.size_toArray,List.length_take,List.length_drop,Array.length_toList]
  omega
 have hj:sIx items.size items.size hi<=items.size:=aDd _ _ (Nat.le_refl _) hi
 obtain⟨os,hos,hcs,hds⟩:=id hs
 have hTs:s.TypeIs (.ref sl) "slice" := ⟨os,hos,hcs⟩
 unfold getItem
 try with_reducible refine wpAny_holding ?_
 first|refine wpAny_bind (wpAny_pure ?_)|skip
 refine wpAny_bind (wpAny_sequenceKey ht.typeIs (by decide) ?_)
 refine wpAny_bind (wpAny_callSpecial?_slot (name:=Str.ofString "__getitem__") ht.typeIs PyProof.Rows.slot_tuple_getitem
  (wpAny_call_entry PyProof.Rows.slot_tuple_getitem ht.typeIs entry_tuple_getitem ?_ (args_tuple_getitem _ _)))
 show wpAny _ _ (Builtin.Tuple.tupleItemsOf (.ref t) >>= _) _ _ s
 refine wpAny_bind (tupleItemsOf_ ht ?_)
 refine wpAny_bind (wpAny_typeOf hTs ?_)
 rw[if_pos (by decide)]
 refine wpAny_bind (sliceApplied_gen hs pl pu ?_)
 have hno:¬ ((((sIx items.size 0 lo:Nat):Int)==0&&(1:Int)==1&&(sIx items.size items.size hi-sIx items.size 0 lo)==items.size)=true):=by
  intro q
  rw[Bool.and_eq_true,Bool.and_eq_true] at q
  have q1:((sIx items.size 0 lo:Nat):Int)=0:=eq_of_beq q.1.1
  have q2:sIx items.size items.size hi-sIx items.size 0 lo=items.size:=eq_of_beq q.2
  exact hw ⟨by omega,by omega⟩
 show wpAny _ _ (if (((sIx items.size 0 lo:Nat):Int)==0&&(1:Int)==1&&(sIx items.size items.size hi-sIx items.size 0 lo)==items.size)=true then _ else _) _ _ s
 rw[if_neg hno,wF]
 first
  | exact wpAny_bind (m:=Builtin.Tuple.tupleExact _) (wpAny_newObj_type (wpAny_pure ⟨_,rfl,wpAny_pure h⟩) htake)
  | exact wpAny_bind (m:=Builtin.Tuple.tupleExact _) (wpAny_newObj_type (wpAny_bind (wpAny_pure (wpAny_pure ⟨_,rfl,wpAny_pure h⟩))) htake)
  | exact wpAny_bind (wpAny_bind (m:=Builtin.Tuple.tupleExact _) (wpAny_newObj_type (wpAny_pure (wpAny_pure ⟨_,rfl,wpAny_pure h⟩)) htake))
  | exact wpAny_bind (wpAny_bind (m:=Builtin.Tuple.tupleExact _) (wpAny_newObj_type (wpAny_pure ⟨_,rfl,wpAny_pure h⟩) htake))
end
end HT
namespace L2
open PySem PySem.Spec PyProof.Rows
abbrev TO:=St->Hp->(Option Int->Hp->Prop)->Prop
def PO(X:Cx)(e:Option Expr)(t:TO):Prop:=
 ∀(pins:List (Addr×Obj)) (s:Shared) (σ:St) (H:Hp) (Q:Option Int->Hp->Prop),Inv X pins σ H s->t σ H Q ->
  wpAny (model X.prog X.w) X.A (evalPart e X.env) (λu s'=>∃o H',Inv X pins σ H' s'/\IsPart u o/\Q o H') X.xe s
def aAB:TO:=λ_ H Q=>Q none H
def aFi(t:TE):TO:=λσ H Q=>t σ H λx H1=>∃i,x=.int i/\Q (some i) H1
section
variable {X:Cx} {e:Expr} {te:TE} {lo hi:Option Expr} {tl th:TO} {pos p2:Pos}
theorem aAC:PO X none aAB:=by
 intro pins s σ H Q I h
 rw[evalPart_none]
 exact wpAny_pure ⟨none,H,I,.none,h⟩
theorem aAD(h:PE X e te):PO X (some e) (aFi te):=by
 intro pins s σ H Q I hw
 rw[evalPart_some]
 refine thn (h pins s σ H _ I hw) λu s1 ⟨x,H1,I1,r1,q1⟩=>?_
 obtain⟨i,rfl,q⟩:=q1
 obtain⟨t,rfl⟩:=r1
 exact⟨some i,H1,I1,.int i t,q⟩
def SlR(X:Cx)(r:V->Option Int->Option Int->Hp->VK->Prop):Prop:=
 ∀(pins:List (Addr×Obj)) (s:Shared) (σ:St) (H:Hp) (x:V) (v vl vu:Value) (lo hi:Option Int) (sl:Addr) (Q:VK),Inv X pins σ H s->aR x v->s.heap.IsSliceOf sl vl vu .none->IsPart vl lo->IsPart vu hi->r x lo hi H Q ->
  ∃T id,typeLookup (.type T) "__getitem__" = pure (some (.builtin id))/\s.TypeIs v T/\wpAny (model X.prog X.w) X.A (getItem v (.ref sl)) (EP X pins σ Q) X.xe s
theorem SlR.or{r r':V->Option Int->Option Int->Hp->VK->Prop}(h:SlR X r)(h':SlR X r'):SlR X (λx lo hi H Q=>r x lo hi H Q\/r' x lo hi H Q):=by
 intro pins s σ H x v vl vu lo hi sl Q I rx hs pl pu q
 rcases q with q|q
 . exact h pins s σ H x v vl vu lo hi sl Q I rx hs pl pu q
 . exact h' pins s σ H x v vl vu lo hi sl Q I rx hs pl pu q
def tSl(r:V->Option Int->Option Int->Hp->VK->Prop)(te:TE)(tl th:TO):TE:=λσ H Q=>te σ H λx H1=>tl σ H1 λl H2=>th σ H2 λu H3=>r x l u H3 Q
theorem wG{r:V->Option Int->Option Int->Hp->VK->Prop}(hr:SlR X r)(he:PE X e te)(hl:PO X lo tl)(hu:PO X hi th):PE X (.Subscript e (.Slice lo hi none p2) pos) (tSl r te tl th):=by
 intro pins s σ H Q I h
 refine Subscript_ (thn (he pins s σ H _ I h) λv s1 ⟨x,H1,I1,r1,q1⟩=>?_)
 refine wpAny_Slice (thn (hl pins s1 σ H1 _ I1 q1) λvl s2 ⟨l,H2,I2,pl,q2⟩=>thn (hu pins s2 σ H2 _ I2 q2) λvu s3 ⟨u,H3,I3,pu,q3⟩=>?_)
 rw[evalPart_none]
 refine wpAny_pure ?_
 have I4:Inv X pins σ H3 { s3 with heap:=s3.heap.push { cls:=.type "slice",data:=.fields #[vl,vu,.none] } }:=I3.kept (t':=s3.toks) λb ob q=>Heap.get?_push_of_some _ q
 obtain⟨T,id,hT,ht,hg⟩:=hr pins { s3 with heap:=s3.heap.push { cls:=.type "slice",data:=.fields #[vl,vu,.none] } } σ H3 x v vl vu l u s3.heap.objs.size Q I4 r1 (Heap.IsSliceOf.new ..) pl pu q3
 show wpAny (model X.prog X.w) X.A (subscriptTail e (.Slice lo hi none p2) v (.ref s3.heap.objs.size)) (EP X pins σ Q) X.xe { s3 with heap:=s3.heap.push { cls:=.type "slice",data:=.fields #[vl,vu,.none] } }
 exact tail_any (ops:=[.ref s3.heap.objs.size,v]) ht hT hg (by with_unfolding_all rfl)
def nV(xs:List V)(lo hi:Option Int):List V:=(xs.drop (HT.sIx xs.length 0 lo)).take (HT.sIx xs.length xs.length hi-HT.sIx xs.length 0 lo)
theorem iL(xs:List V)(lo hi:Option Int):(nV xs lo hi).length<=xs.length:=by
 unfold nV
 rw[List.length_take,List.length_drop]
 omega
def wH(K:PySem.W.Frag):V->Option Int->Option Int->Hp->VK->Prop:=λx lo hi H Q=>∃a xs,x=.ref a/\SqT K H a xs /\
 ¬ (HT.sIx xs.length 0 lo=0/\HT.sIx xs.length xs.length hi=xs.length)/\∀p,H p=none->Q (.ref p) (upd H p (.tup (nV xs lo hi)))
theorem aDe:SlR X (wH X.K):=by
 intro pins s σ H x v vl vu lo hi sl Q I rx hs pl pu h
 obtain⟨a,xs,rfl,hx,hw,q⟩:=h
 cases rx
 obtain⟨its,r,ht,hz⟩:=I.tuple hx
 have hlen:its.toArray.size=xs.length:=by rw[List.size_toArray];exact r.length.symm
 refine⟨"tuple",_,PyProof.Rows.slot_tuple_getitem.lookup,ht.typeIs,?_⟩
 refine HT.getItem_tuple_cut ht hs pl pu (by rw[hlen];exact hw) ?_ (by rw[hlen];exact hz)
 rw[hlen]
 refine⟨.ref s.heap.objs.size,_,I.laid (t':=s.toks) (o:=.tup (nV xs lo hi)) (λb ob q=>Heap.get?_push_of_some _ q) (Nat.le_refl _) ?_,rfl,q _ (I.hok.fresh (Nat.le_refl _))⟩
 exact⟨Nat.le_trans (iL xs lo hi) hz,_,(r.drop (HT.sIx xs.length 0 lo)).take (HT.sIx xs.length xs.length hi-HT.sIx xs.length 0 lo),IsTup.new _ _⟩
def aFj(K:PySem.W.Frag):R2:=λx y H Q=>∃a b xs ys,x=.ref a/\y=.ref b/\SqT K H a xs/\SqT K H b ys/\xs≠[]/\xs.length+ys.length<=sizeLine /\
 (ys=[]->Q (.ref a) H)/\(ys≠[]->∀p,H p=none->Q (.ref p) (upd H p (.tup (xs++ys))))
theorem aJ.nil_iff{xs:List V}{us:List Value}(r:aJ xs us):us=[]↔xs=[]:=by
 cases r with
 | nil=>simp
 | cons _ _=>simp
theorem aAE:OpR X (binaryOp .Add) (aFj X.K):=by
 intro pins s σ H x y v u Q I rx ry h
 obtain⟨a,b,xs,ys,rfl,rfl,ha,hb,hx,hz,q1,q2⟩:=h
 cases rx
 cases ry
 obtain⟨its,r1,p1,_⟩:=I.tuple ha
 obtain⟨its2,r2,p2,_⟩:=I.tuple hb
 refine HT.cat_tup p1 p2 (λz=>hx (r1.nil_iff.mp z)) (λz=>⟨.ref a,H,I,rfl,q1 (r2.nil_iff.mp z)⟩) (λz=>?_) (by rw[<-r1.length,<-r2.length];exact hz)
 refine⟨.ref s.heap.objs.size,_,I.laid (t':=s.toks) (o:=.tup (xs++ys)) (λb ob q=>Heap.get?_push_of_some _ q) (Nat.le_refl _) ?_,rfl,q2 (λw=>z (r2.nil_iff.mpr w)) _ (I.hok.fresh (Nat.le_refl _))⟩
 exact⟨by rw[List.length_append];exact hz,_,r1.append r2,IsTup.new _ _⟩
end
end L2
namespace L2
open PySem PySem.Spec PyProof.Rows
def ixN(n:Nat)(i:Int):Option Nat:=if 0<=i then (if i<n then some i.toNat else none) else if -(n:Int)<=i then some (i+n).toNat else none
def atI{α:Type}(xs:List α)(i:Int):Option α:=(ixN xs.length i).bind λj=>xs[j]?
theorem aAF{n:Nat}{i:Int}{j:Nat}(h:ixN n i=some j):seqIndex? i n=some j/\j<n/\-(n:Int)<=i/\i<n:=by
 unfold ixN at h
 by_cases h0:0<=i
 . rw[if_pos h0] at h
   by_cases h1:i<n
   . rw[if_pos h1] at h
     have e:i.toNat=j:=Option.some.inj h
     exact⟨by rw[seqIndex_of h0 h1,e],by omega,by omega,h1⟩
   . rw[if_neg h1] at h;cases h
 . rw[if_neg h0] at h
   by_cases h1:-(n:Int)<=i
   . rw[if_pos h1] at h
     have e:(i+n).toNat=j:=Option.some.inj h
     exact⟨by rw[seqIndex_neg (by omega) h1,e],by omega,h1,by omega⟩
   . rw[if_neg h1] at h;cases h
theorem mL{α:Type}{xs:List α}{i:Int}{v:α}(h:atI xs i=some v):∃j,seqIndex? i xs.length=some j/\xs[j]? = some v/\j<xs.length/\-(xs.length:Int)<=i/\i<xs.length:=by
 unfold atI at h
 cases e:ixN xs.length i with
 | none=>rw[e] at h;cases h
 | some j=>
  rw[e] at h
  obtain⟨h1,h2,h3,h4⟩:=aAF e
  exact⟨j,h1,h,h2,h3,h4⟩
def rT(b:Expr):Prop:=∀o i,subscripted b false o i=operate [o,i] (getItem o i)
def IxR(X:Cx)(r:R2):Prop:=
 ∀(value slice:Expr) (pins:List (Addr×Obj)) (s:Shared) (σ:St) (H:Hp) (x y:V) (v u:Value) (Q:VK),Inv X pins σ H s->aR x v->aR y u->r x y H Q ->
  subscripted slice false v u=operate [v,u] (getItem v u)->wpAny (model X.prog X.w) X.A (subscriptTail value slice v u) (EP X pins σ Q) X.xe s
def MtR(X:Cx)(id:String)(r:V->List V->Hp->VK->Prop):Prop:=
 ∀(pins:List (Addr×Obj)) (s:Shared) (σ:St) (H:Hp) (x:V) (xs:List V) (v:Value) (us:List Value) (Q:VK),Inv X pins σ H s->aR x v->aJ xs us->r x xs H Q ->
  wpAny (model X.prog X.w) X.A (call (.builtin id) (v::us)) (EP X pins σ Q) X.xe s
section
variable {X:Cx} {a b:Expr} {ta tb:TE} {pos:Pos}
theorem IxR.or{r r':R2}(h:IxR X r)(h':IxR X r'):IxR X (λx y H Q=>r x y H Q\/r' x y H Q):=by
 intro value slice pins s σ H x y v u Q I rx ry q hs
 rcases q with q|q
 . exact h value slice pins s σ H x y v u Q I rx ry q hs
 . exact h' value slice pins s σ H x y v u Q I rx ry q hs
theorem aFk{r:R2}(hr:IxR X r)(ha:PE X a ta)(hb:PE X b tb)(hs:rT b):PE X (.Subscript a b pos) (tOp r ta tb):=by
 intro pins s σ H Q I h
 exact Subscript_ (aEZ ha hb I h λv u s2 x y H2 I2 rx ry q=>hr a b pins s2 σ H2 x y v u Q I2 rx ry q (hs _ _))
def aFl(K:PySem.W.Frag):R2:=λx y H Q=>∃p xs i v,x=.ref p/\y=.int i/\SqL K H p xs/\atI xs i=some v/\Q v H
def aFm(K:PySem.W.Frag):R2:=λx y H Q=>∃p xs i v,x=.ref p/\y=.int i/\SqT K H p xs/\atI xs i=some v/\Q v H
def aFn:R2:=λx y H Q=>∃z i c,x=.str z/\y=.int i/\z.length<=sizeLine/\atI z.cps.toList i=some c/\Q (.str ⟨#[c]⟩) H
theorem aAG:IxR X (aFl X.K):=by
 intro value slice pins s σ H x y v u Q I rx ry h hs
 obtain⟨p,xs,i,z,rfl,rfl,hq,he,q⟩:=h
 cases rx
 obtain⟨t,rfl⟩:=ry
 obtain⟨its,r,pl,hz⟩:=I.list hq
 obtain⟨j,h1,h2,h3,h4,h5⟩:=mL he
 obtain⟨w,ew,rw'⟩:=r.get h2
 have hl:=r.length
 have hn:=gN
 have fin:EP X pins σ Q w s:=⟨z,H,I,rw',q⟩
 by_cases h0:0<=i
 . have hj:i.toNat=j:=by
    rw[seqIndex_of h0 h5] at h1
    exact Option.some.inj h1
   exact item_listR pl.isList h0 (by omega) (by rw[hj];simpa using ew) fin hs
 . have hj:(i+(its.toArray.size:Int)).toNat=j:=by
    rw[seqIndex_neg (by omega) h4] at h1
    rw[List.size_toArray,<-hl]
    exact Option.some.inj h1
   exact subscriptTail_builtinR (x:=w) pl.isList.typeIs slot_list_getitem.lookup
    (wpAny_getItem_list_neg (Q:=λr s'=>r=w/\EP X pins σ Q r s') pl.isList (by omega) (by rw[List.size_toArray] <;> omega) (by omega) (by rw[hj];simpa using ew) ⟨rfl,fin⟩) hs
theorem aDf:IxR X (aFm X.K):=by
 intro value slice pins s σ H x y v u Q I rx ry h hs
 obtain⟨p,xs,i,z,rfl,rfl,hq,he,q⟩:=h
 cases rx
 obtain⟨t,rfl⟩:=ry
 obtain⟨its,r,pl,hz⟩:=I.tuple hq
 obtain⟨j,h1,h2,h3,h4,h5⟩:=mL he
 obtain⟨w,ew,rw'⟩:=r.get h2
 have hl:=r.length
 have hn:=gN
 have fin:EP X pins σ Q w s:=⟨z,H,I,rw',q⟩
 exact subscriptTail_builtinR (x:=w) pl.typeIs slot_tuple_getitem.lookup
  (getItem_tuple (j:=j) (Q:=λr s'=>r=w/\EP X pins σ Q r s') pl (by omega) (by omega) (by rw[List.size_toArray,<-hl];exact h1) (by simpa using ew) ⟨rfl,fin⟩) hs
theorem aDg:IxR X aFn:=by
 intro value slice pins s σ H x y v u Q I rx ry h hs
 obtain⟨z,i,c,rfl,rfl,hz,he,q⟩:=h
 obtain⟨t,rfl⟩:=rx
 obtain⟨t',rfl⟩:=ry
 obtain⟨j,h1,h2,h3,h4,h5⟩:=mL he
 have hl:z.cps.toList.length=z.length:=by simp[Str.length]
 rw[hl] at h1 h4 h5
 have hn:=gN
 exact tail_any (typeIs_str s z t) slot_str_getitem.lookup (getItem_str (c:=c) (by
  have e1:decide (i < -(2 ^ 63:Int))=false:=decide_eq_false (by omega)
  have e2:decide (i ≥ 2 ^ 63)=false:=decide_eq_false (by omega)
  rw[e1,e2,Bool.or_false]) (by rw[h1];simpa using h2) ⟨.str ⟨#[c]⟩,H,I.tok _,⟨_,rfl⟩,q⟩) hs
def rIx(K:PySem.W.Frag):R2:=λx y H Q=>aFl K x y H Q\/aFm K x y H Q\/aFn x y H Q
theorem aDh:IxR X (rIx X.K):=aAG.or (aDf.or aDg)
theorem Inv.lst{pins:List (Addr×Obj)}{σ:St}{H:Hp}{s:Shared}{p:Addr}{xs:List V}(I:Inv X pins σ H s)(h:H p=some (.lst xs)) :
 ∃(its:List Value) (n:Nat),aJ xs its/\s.heap.get? p=some { cls:=.type "list",data:=.seq its.toArray n }/\xs.length<=sizeLine:=by
 obtain⟨z,its,n,r,e⟩:=I.hok p _ h
 exact⟨its,n,r,e,z⟩
theorem mM(lo hi:Option Int)(n:Nat):(sliceBounds lo hi none n).1=((HT.sIx n 0 lo:Nat):Int)/\(sliceBounds lo hi none n).2.1=((HT.sIx n n hi:Nat):Int)/\(sliceBounds lo hi none n).2.2=1:=by
 refine⟨?_,?_,rfl⟩
 . cases lo with
   | none=>simp[sliceBounds,HT.sIx]
   | some i=>
    simp only[sliceBounds,HT.sIx,Option.getD_none,show(1:Int)>0 by decide,if_true]
    by_cases h:i<0
    . simp only[h,if_true] <;> omega
    . simp only[h,if_false] <;> omega
 . cases hi with
   | none=>simp[sliceBounds,HT.sIx]
   | some i=>
    simp only[sliceBounds,HT.sIx,Option.getD_none,show(1:Int)>0 by decide,if_true]
    by_cases h:i<0
    . simp only[h,if_true] <;> omega
    . simp only[h,if_false] <;> omega
theorem kM(its:List Value)(lo hi:Option Int):slicePick its.toArray lo hi none=((its.drop (HT.sIx its.length 0 lo)).take (HT.sIx its.length its.length hi-HT.sIx its.length 0 lo)).toArray:=by
 obtain⟨h1,h2,h3⟩:=mM lo hi its.toArray.size
 unfold slicePick
 rw[h1,h2,h3]
 simp only[sliceRange_one,pick_run,List.size_toArray] <;> rfl
def wJ(K:PySem.W.Frag):V->Option Int->Option Int->Hp->VK->Prop:=λx lo hi H Q=>∃a xs,x=.ref a/\SqL K H a xs/\∀p,H p=none->Q (.ref p) (upd H p (.lst (nV xs lo hi)))
theorem aAH:SlR X (wJ X.K):=by
 intro pins s σ H x v vl vu lo hi sl Q I rx hs pl pu h
 obtain⟨a,xs,rfl,hx,q⟩:=h
 cases rx
 obtain⟨its,r,ht,hz⟩:=I.list hx
 have hlen:=r.length
 refine⟨"list",_,slot_list_getitem.lookup,ht.isList.typeIs,?_⟩
 refine wpAny_getItem_list_slice ht.isList hs pl pu .none (by simp) ?_ (by rw[List.size_toArray] <;> omega)
 rw[kM,<-hlen]
 refine⟨.ref s.heap.objs.size,_,I.laid (t':=s.toks) (o:=.lst (nV xs lo hi)) (λb ob q=>Heap.get?_push_of_some _ q) (Nat.le_refl _) ?_,rfl,q _ (I.hok.fresh (Nat.le_refl _))⟩
 exact⟨Nat.le_trans (iL xs lo hi) hz,_,0,(r.drop (HT.sIx xs.length 0 lo)).take (HT.sIx xs.length xs.length hi-HT.sIx xs.length 0 lo),Heap.get?_push_size _ rfl⟩
theorem mO:OpR X (compareOp .NotIn) (λx y H Q=>∃i j,x=.str i/\y=.str j/\Q (.bl (!(!(Builtin.Str.occurrences j i 0 j.length 1).isEmpty))) H):=by
 intro pins s σ H x y v u Q I rx ry h
 obtain⟨i,j,rfl,rfl,q⟩:=h
 obtain⟨t,rfl⟩:=rx
 obtain⟨t',rfl⟩:=ry
 exact notIn_str ⟨.bl _,H,I,rfl,q⟩
theorem mP:eG X (.builtin "len") (λxs H Q=>∃p ys,xs=[.ref p]/\(SqL X.K H p ys\/SqT X.K H p ys)/\Q (.int ys.length) H):=by
 intro pins s σ H xs us Q I r h
 obtain⟨p,ys,rfl,hq,q⟩:=h
 obtain⟨u,rfl,rx⟩:=nT r
 cases rx
 have hn:=gN
 rcases hq with hq|hq
 . obtain⟨its,r',pl,hz⟩:=I.list hq
   have hlen:=r'.length
   exact Calls.call_len_list pl.isList (by simp only[List.size_toArray] <;> omega) ⟨.int ys.length,H,I.tok _,⟨s.toks+1,by rw[List.size_toArray,hlen]⟩,q⟩
 . obtain⟨its,r',pl,hz⟩:=I.tuple hq
   have hlen:=r'.length
   exact len_tuple pl (by simp only[List.size_toArray] <;> omega) ⟨.int ys.length,H,I.tok _,⟨s.toks+1,by rw[List.size_toArray,hlen]⟩,q⟩
theorem mQ:eG X (.builtin "len") (λxs H Q=>∃z,xs=[.str z]/\z.length<=sizeLine/\Q (.int z.length) H):=by
 intro pins s σ H xs us Q I r h
 obtain⟨z,rfl,hz,q⟩:=h
 obtain⟨u,rfl,t,rfl⟩:=nT r
 have hn:=gN
 exact len_str (by omega) ⟨.int z.length,H,I.tok _,⟨_,rfl⟩,q⟩
theorem eG.or{f:Value}{r r':List V->Hp->VK->Prop}(h:eG X f r)(h':eG X f r'):eG X f (λxs H Q=>r xs H Q\/r' xs H Q):=by
 intro pins s σ H xs us Q I rs q
 rcases q with q|q
 . exact h pins s σ H xs us Q I rs q
 . exact h' pins s σ H xs us Q I rs q
theorem mR:eG X (.type "list") (λxs H Q=>∃p ys,xs=[.ref p]/\(SqL X.K H p ys\/SqT X.K H p ys)/\∀l,H l=none->Q (.ref l) (upd H l (.lst ys))):=by
 intro pins s σ H xs us Q I r h
 obtain⟨p,ys,rfl,hq,q⟩:=h
 obtain⟨u,rfl,rx⟩:=nT r
 cases rx
 have fin:∀(its:List Value),aJ ys its->ys.length<=sizeLine->∀(h':Heap) (c':Nat),(∀b o',s.heap.get? b=some o'->h'.get? b=some o') ->
  h'.get? s.heap.objs.size=some { cls:=.type "list",dict:=none,data:=.seq its.toArray c',slots:=#[] }->EP X pins σ Q (.ref s.heap.objs.size) { s with heap:=h' }:=λits r' hz h' c' kp e=>
  ⟨.ref s.heap.objs.size,_,I.laid (t':=s.toks) kp (Nat.le_refl _) (show bW X.prog X.w _ h' _ (.lst ys) from⟨hz,its,c',r',e⟩),rfl,q _ (I.hok.fresh (Nat.le_refl _))⟩
 rcases hq with hq|hq
 . obtain⟨its,r',pl,hz⟩:=I.list hq
   have hlen:=r'.length
   obtain⟨o,ho,hc,n,hd⟩:=pl.isList
   exact call_list_seq p (.inl rfl) ho hc hd (λh' c' kp e=>fin its r' hz h' c' kp e) (by simp only[List.size_toArray] <;> omega)
 . obtain⟨its,r',pl,hz⟩:=I.tuple hq
   have hlen:=r'.length
   obtain⟨o,ho,hc,n,hd⟩:=pl
   exact call_list_seq p (.inr rfl) ho hc hd (λh' c' kp e=>fin its r' hz h' c' kp e) (by simp only[List.size_toArray] <;> omega)
def tyV(K:PySem.W.Frag)(T:String)(x:V)(H:Hp):Prop:=match x with
 | .str _=>T = "str"
 | .int _=>T = "int"
 | .ref p=>(T = "list" /\ ∃xs,SqL K H p xs)\/(T = "tuple" /\ ∃o,K.lookup p=some o/\o.cls=.type "tuple" /\ o.dict=none) \/
  (T = "dict" /\ ((∃kvs,H p=some (.dK kvs))\/∃kvs,H p=some (.dT kvs)))\/(T = "set" /\ ∃S n,H p=some (.set S n))
 | _=>False
theorem aDi{pins:List (Addr×Obj)}{σ:St}{H:Hp}{s:Shared}{T:String}{x:V}{v:Value}(I:Inv X pins σ H s)(r:aR x v)(ty:tyV X.K T x H) :
 s.TypeIs v T/\∀a,v=.ref a->∃ob,s.heap.get? a=some ob/\ob.dict=none:=by
 cases x with
 | str z=>
  obtain⟨t,rfl⟩:=r
  cases(show T = "str" from ty)
  exact⟨typeIs_str s z t,λ_ e=>nomatch e⟩
 | int i=>
  obtain⟨t,rfl⟩:=r
  cases(show T = "int" from ty)
  exact⟨typeIs_int s i t,λ_ e=>nomatch e⟩
 | ref p=>
  cases r
  rcases ty with⟨rfl,xs,hq⟩|⟨rfl,o,hk,hc,hd⟩|⟨rfl,hk⟩|⟨rfl,S,n,hk⟩
  . obtain⟨its,_,pl,_⟩:=I.list hq
    refine⟨pl.isList.typeIs,λa e=>?_⟩
    cases e
    obtain⟨o,n,e,c,hd,_⟩:=pl
    exact⟨o,e,hd⟩
  . refine⟨⟨o,I.kIn p o hk,hc⟩,λa e=>?_⟩
    cases e
    exact⟨o,I.kIn _ o hk,hd⟩
  . have z:∃o,s.heap.get? p=some o/\o.ExactDict:=by
     rcases hk with⟨kvs,hk⟩|⟨kvs,hk⟩
     . obtain⟨_,_,_,_,o,_,_,e,ex,_⟩:=I.hok p _ hk
       exact⟨o,e,ex⟩
     . obtain⟨_,_,_,_,o,_,_,e,ex,_⟩:=I.hok p _ hk
       exact⟨o,e,ex⟩
    obtain⟨o,e,ex⟩:=z
    refine⟨⟨o,e,ex.1⟩,λa e2=>?_⟩
    cases e2
    exact⟨o,e,ex.2.1⟩
  . obtain⟨o,_,_,_,e,ex,_⟩:=I.hok p _ hk
    refine⟨⟨o,e,ex.1⟩,λa e2=>?_⟩
    cases e2
    exact⟨o,e,ex.2.1⟩
 | _=>exact False.elim ty
def tBM(K:PySem.W.Frag)(T:String)(r:V->List V->Hp->VK->Prop)(to:TE)(t:TA):TE:=λσ H Q=>to σ H λx H1=>tyV K T x H1/\t σ H1 λxs H2=>r x xs H2 Q
variable {o e:Expr} {es:List Expr} {to:TE} {t:TA} {name:Str} {apos cpos:Pos} {T id:String} {r:V->List V->Hp->VK->Prop}
theorem aFo(pa:PlainAttrs T)(slot:Slot T name id)(hty:typeOf (.builtin id)=pure (.type "method_descriptor"))(hm:MtR X id r)(ho:PE X o to)(ha:PA X (e::es) t)
 (hbase:attributeBase o name X.env (eval o X.env)=eval o X.env:=by rfl)
 (hfew:((backTo cpos (starEach (e::es) X.env)).all (λx=>!x.1)&&(backToKw cpos (keywordEach [] X.env)).all (λx=>x.1.isSome)
  && decide ((e::es).length+([]:List Keyword).length+(if ([]:List Keyword).isEmpty then 0 else 1)<30))=true:=by rfl)
 (hline:(apos.endLine==cpos.line)=true:=by rfl) (hs:starEach (e::es) X.env=(false,eval e X.env)::starEach es X.env:=by rfl) (hplain:(backTo cpos (starEach es X.env)).any (·.1)=false:=by rfl) :
 PE X (.Call (.Attribute o name apos) (e::es) [] cpos) (tBM X.K T r to t):=by
 intro pins s σ H Q I h
 refine wpAny_Call_method_late hbase hfew hline rfl (thn (ho pins s σ H _ I h) λv s1 ⟨x,H1,I1,r1,ty,q1⟩=>?_)
 obtain⟨h1,h2⟩:=aDi I1 r1 ty
 refine⟨T,id,pa,slot,hty,h1,h2,?_⟩
 have hA:=ha cpos pins s1 σ H1 _ I1 q1
 rw[hs] at hA ⊢
 refine Calls.callWith_builtin (by show(false||(backTo cpos (starEach es X.env)).any (·.1))=false;rw[hplain] <;> rfl) (Calls.evalArgs_plain ?_)
 exact thn hA λus s2 ⟨vs,H2,I2,r2,q2⟩=>hm pins s2 σ H2 x vs v us Q I2 r1 r2 q2
end
end L2
namespace L2
open PySem PySem.Spec PyProof.Rows
def MtM(X:Cx)(id:String)(r:V->List V->Hp->VK->Prop):Prop:=
 ∀(pins:List (Addr×Obj)) (s:Shared) (σ:St) (H:Hp) (x:V) (xs:List V) (v:Value) (us:List Value) (Q:VK),Inv X pins σ H s->aR x v->aJ xs us->r x xs H Q ->
  wpAny (model X.prog X.w) X.A (call (.builtin id) (v::us)) (EP X pins σ Q) X.xe s
theorem aJ.one:∀{x:V} {us:List Value},aJ [x] us->∃u,us=[u]/\aR x u:=by
 intro x us h
 cases h with|cons r t=>cases t;exact⟨_,rfl,r⟩
theorem aJ.two:∀{x y:V} {us:List Value},aJ [x,y] us->∃u v,us=[u,v]/\aR x u/\aR y v:=by
 intro x y us h
 cases h with|cons r t=>cases t with|cons q t=>cases t;exact⟨_,_,rfl,r,q⟩
theorem aJ.zero:∀{us:List Value},aJ [] us->us=[]
 | _,.nil=>rfl
theorem aJ.eraseIdx:∀{xs:List V} {us:List Value} (i:Nat),aJ xs us->aJ (xs.eraseIdx i) (us.eraseIdx i)
 | _,_,_,.nil=>.nil
 | _,_,0,.cons _ t=>t
 | _,_,i+1,.cons r t=>.cons r (aJ.eraseIdx i t)
theorem aJ.reverse{xs:List V}{us:List Value}(h:aJ xs us):aJ xs.reverse us.reverse:=by
 induction h with
 | nil=>exact .nil
 | cons r t ih=>rw[List.reverse_cons,List.reverse_cons];exact aJ.append ih (.cons r .nil)
theorem aJ.rep{xs:List V}{us:List Value}(h:aJ xs us):∀k:Nat,aJ (List.replicate k xs).flatten (List.replicate k us).flatten
 | 0=>.nil
 | k+1=>by
  rw[List.replicate_succ,List.replicate_succ,List.flatten_cons,List.flatten_cons]
  exact aJ.append h (aJ.rep h k)
theorem gO(its:List Value):∀(k:Nat) (acc:List Value),
 List.foldl (λx1 x2=>x1++x2) acc.toArray (List.replicate k its.toArray)=(acc++(List.replicate k its).flatten).toArray
 | 0,acc=>by simp
 | k+1,acc=>by
  have e:acc.toArray++its.toArray=(acc++its).toArray:=by simp
  have e2:(acc++its)++(List.replicate k its).flatten=acc++(List.replicate (k+1) its).flatten:=by
   rw[List.replicate_succ,List.flatten_cons,List.append_assoc]
  rw[<-e2,<-gO its k (acc++its),<-e,List.replicate_succ,List.foldl_cons]
section
variable {X:Cx} {pins:List (Addr×Obj)} {σ:St} {H:Hp} {s:Shared} {l b:Addr} {xs ys zs:List V}
theorem Inv.lset{its its':List Value}{n:Nat}{f:Array Value->Array Value}{t':Nat}(I:Inv X pins σ H s)(hH:H l=some (.lst xs))
 (e:s.heap.get? l=some { cls:=.type "list",data:=.seq its.toArray n }) (hf:f its.toArray=its'.toArray) (hv:aJ ys its') (hz:ys.length<=sizeLine) :
 Inv X pins σ (upd H l (.lst ys)) { s with heap:=s.heap.update l (Obj.mapSeq f),toks:=t' }:=by
 have q:=PySem.IsL.update e f
 rw[hf] at q
 refine I.write (x:=l) (e:=l) (by rw[hH];exact trivial) (.inl rfl) (λb' u hb hu=>(Heap.get?_update_other s.heap (Obj.mapSeq f) (Ne.symm hb)).trans hu) ⟨_,q⟩ ?_
 exact⟨hz,its',_,hv,q⟩
theorem Inv.lnew{its:List Value}{t':Nat}(I:Inv X pins σ H s)(hv:aJ ys its)(hz:ys.length<=sizeLine) :
 Inv X pins σ (upd H s.heap.objs.size (.lst ys)) { s with heap:=s.heap.push { cls:=.type "list",data:=.seq its.toArray },toks:=t' }:=
 I.laid (λ_ _ q=>Heap.get?_push_of_some _ q) (Nat.le_refl _) ⟨hz,its,0,hv,Heap.get?_push_size _ rfl⟩
theorem Inv.fresh(I:Inv X pins σ H s):H s.heap.objs.size=none:=I.hok.fresh (Nat.le_refl _)
theorem Inv.lstM(I:Inv X pins σ H s)(hH:H l=some (.lst xs)):xs.length<=sizeLine/\∃(its:List Value) (n:Nat),aJ xs its/\xs.length=its.length/\s.heap.get? l=some { cls:=.type "list",data:=.seq its.toArray n }:=by
 obtain⟨z,its,n,r,e⟩:=I.hok l _ hH
 exact⟨z,its,n,r,r.length,e⟩
theorem wK{n:Nat}(h:n<=sizeLine):Builtin.List.listTooLong n=false:=by
 unfold Builtin.List.listTooLong
 exact decide_eq_false (by omega)
end
section
variable {X:Cx}
def aAI:V->List V->Hp->VK->Prop:=λx vs H Q=>∃l xs y,x=.ref l/\vs=[y]/\H l=some (.lst xs)/\xs.length<sizeLine/\Q .non (upd H l (.lst (xs++[y])))
theorem uB:MtM X "list.append" aAI:=by
 intro pins s σ H x vs v us Q I rx rv h
 obtain⟨l,xs,y,rfl,rfl,hH,hz,q⟩:=h
 cases rx
 obtain⟨u,rfl,ru⟩:=rv.one
 obtain⟨z,its,n,r,hl,e⟩:=I.lstM hH
 refine call_meets F.slot_list_append ⟨_,e,rfl⟩ F.entry_list_append (F.args_list_append_2 _ _) (PySem.list_append l its.toArray n u (by rw[List.size_toArray];omega)) ⟨e,?_⟩
 refine⟨.non,_,I.lset (its':=its++[u]) hH e (by simp) (r.append (.cons ru .nil)) ?_,rfl,q⟩
 rw[List.length_append,List.length_singleton]
 omega
def aHV:R2:=λx y H Q=>∃l k xs,x=.ref l/\y=.int k/\H l=some (.lst xs)/\-(2 ^ 63)<=k/\k<2 ^ 63/\xs.length*k.toNat<=sizeLine /\
 ∀p,H p=none->Q (.ref p) (upd H p (.lst (List.replicate k.toNat xs).flatten))
theorem mS{α:Type}(xs:List α)(k:Nat):(List.replicate k xs).flatten.length=k*xs.length:=by
 induction k with
 | zero=>simp
 | succ k ih=>rw[List.replicate_succ,List.flatten_cons,List.length_append,ih,Nat.succ_mul,Nat.add_comm]
theorem aDj:OpR X (binaryOp .Mult) aHV:=by
 intro pins s σ H x y v u Q I rx ry h
 obtain⟨l,k,xs,rfl,rfl,hH,h1,h2,hz,q⟩:=h
 cases rx
 obtain⟨t,rfl⟩:=ry
 obtain⟨z,its,n,r,hl,e⟩:=I.lstM hH
 have hlen:its.toArray.size*k.toNat<=sizeLine:=by rw[List.size_toArray,<-hl];exact hz
 have hcap:¬ its.toArray.size*k.toNat>(2 ^ 63-1) / 8:=by
  have:(sizeLine:Nat)<=(2 ^ 63-1) / 8:=by decide
  omega
 have hfit:¬ (!Builtin.List.listFitsIndex k)=true:=by
  rw[fitsIndex_both h1 h2]
  exact Bool.false_ne_true
 have hlong:¬ Builtin.List.listTooLong (its.toArray.size*k.toNat)=true:=by
  rw[wK hlen]
  exact Bool.false_ne_true
 have hnew:List.foldl (λx1 x2=>x1++x2) #[] (List.replicate (if its.toArray.isEmpty=true then 0 else k.toNat) its.toArray)=(List.replicate k.toNat its).flatten.toArray:=by
  have f0:∀m:Nat,List.foldl (λx1 x2=>x1++x2) #[] (List.replicate m its.toArray)=(List.replicate m its).flatten.toArray:=λm=>by
   have:=gO its m []
   rw[List.nil_append] at this
   exact this
  rw[f0]
  cases its with
  | nil=>simp
  | cons a r'=>rw[if_neg (by simp)]
 refine wpAny_binaryOp_repeat_ref (T:= "list") (U:= "int") (by decide) ⟨_,e,rfl⟩ (λs'=>typeIs_int s' k t) noFill_list_mul F.fills_int_mul F.slot_int_rmul repeat_list F.slot_int_index.lookup
  (call_meets F.slot_int_rmul (typeIs_int s k t) F.entry_int_rmul (F.args_int_rmul_2 _ _) (int___rmul___int_list k t l its.toArray n)
   ⟨e,rfl,⟨_,e,rfl⟩,call_meets F.slot_list_mul ⟨_,e,rfl⟩ F.entry_list_mul (F.args_list_mul_2 _ _) (AutoListH.list___mul___list_int_3 l its.toArray n k t hfit hcap hlong) ⟨e,?_⟩⟩)
 rw[hnew]
 exact⟨.ref _,_,I.lnew (t':=s.toks) (r.rep k.toNat) (by rw[mS,Nat.mul_comm];exact hz),rfl,q _ I.fresh⟩
end
section
variable {prog:Program} {w:World} {A:Around} {E:Value->Shared->Prop} {s:Shared}
end
section
variable {X:Cx}
end
end L2
namespace Att
open PySem PySem.W PySem.Calls PyProof.Rows
theorem iS{P:Params}{h:Heap}:∀(ns:List Int) (vs:List Value),WellAll P h vs (ns.map WData.int)->IntsAre vs ns:=by
 intro ns
 induction ns with
 | nil=>
  intro vs w
  rw[List.map_nil] at w
  cases w
  exact .nil
 | cons n ns ih=>
  intro vs w
  rw[List.map_cons] at w
  cases w with
  | cons a b=>
   cases a
   exact .cons _ _ (ih _ b)
theorem uC{l:OpenLaw}{n:Nat}(hn:l.most=some n){P:Params}{h:Heap}{args:List WData}{vals:List Value}
 (hpre:l.row.toRowW.claim.pre args=true) (hwl:WellAll P h vals args) :
 ∃a vs ns,vals=[Value.ref a]/\args=[WData.list (ns.map WData.int)]/\h.get? a=some { cls:=.type "list",data:=.seq vs.toArray }/\IntsAre vs ns/\ns.length<=n:=by
 have hsh:WShape.hasAll [] args [.list .int]=true:=(pre_splitW hpre).1
 have hc:l.pre.holds [] { args:=args }=true:=(pre_splitW hpre).2
 obtain⟨d,r,rfl,h1,h2⟩:=hasAllW_cons hsh
 obtain rfl:=hasAllW_nil h2
 obtain⟨xs,rfl,h3⟩:=hasW_list h1
 obtain⟨ns,rfl⟩:=items_int h3
 have hlen:ns.length<=n:=by
  unfold OpenLaw.pre at hc
  have h4:(WTm.not (.lt (.lit (.int (n:Int))) (.len (.arg 0)))).holds [] { args:=[.list (ns.map .int)] }=true:=by
   have h4:=(holds_andW hc).1
   rw[hn] at h4
   exact h4
  have h5:=condW_of h4 (w_not (w_lt w_lit (w_len_list (w_arg rfl))))
  rw[List.length_map] at h5
  refine Nat.le_of_not_lt λq=>?_
  have q':(n:Int)<((ns.length:Nat):Int):=by omega
  first
   | (rw[decide_eq_true q'] at h5;exact absurd h5 (by decide))
   | (simp at h5;omega)
 cases hwl with
 | cons w1 w2=>
  cases w2
  cases w1 with
  | list ho hall=>exact⟨_,_,ns,rfl,rfl,ho,iS ns _ hall,hlen⟩
theorem uD(l:OpenLaw)(args:List WData):l.row.toRowW.claim.post args (.bool true) args=true:=
 postW_of (r:=l.row.toRowW) (X:=(true==true))
  (show WShape.has [] (.bool true) .bool=true by first|rfl|decide|simp[WShape.has,WShape.arms,WShape.armsAll])
  (show(WTm.eq .res (.lit (.bool true))).value [] { args:=args,res:=some (.bool true),after:=args }=some (.bool (true==true)) from w_eq_bool (w_res rfl) w_lit) rfl
theorem attach_call{l:OpenLaw}{n:Nat}{q:Program}{loose:List Str}{XP:(Str->Option Value)->Heap->Prop}{YP:World->Heap->Prop}{d:DefRec}
 (hn:l.most=some n) (hdf:d.params.defaults=[])
 (call:∀(w:World) (s₀ s₁:Shared) (mg mb:Str->Option Value) (fa:Addr) (o:Obj) (pm cd doc:Value) (a:Addr) (vs:List Value) (ns:List Int),
  Ground q loose [] XP w s₀ mg mb s₁.heap->YP w s₁.heap ->
  s₁.heap.get? fa=some o->o.data=.func (docDef d.name d.params d.body d.scope pm cd doc)->s₁.heap.CodeRec cd d.name->mg d.name=some (.ref fa) ->
  s₁.heap.get? a=some { cls:=.type "list",data:=.seq vs.toArray }->IntsAre vs ns->ns.length<=n->s₁.gens=#[] ->
  codeAny (model l.prog w) callerA (.call (.ref fa) ⟨[.ref a],[]⟩) (λr s'=>r=.ok (.ret (.bool true))/\OldK s₁.heap s'.heap/\s'.os=s₁.os/\AllBare s'.gens) s₁) :
 WalkO q loose XP YP l.row.toRowW d [] (λf vs=>PySem.call f vs):=by
 intro w s₀ s₁ mg mb G Y fa o pm cd doc dV kV ho hd hcd hD hmg hg args vals as hpre hlay hrd hwl hlo
 obtain rfl:dV=.none:=Dflts.none hD hdf
 obtain rfl:kV=.none:=Dflts.noKw hD
 obtain⟨a,vs,ns,rfl,rfl,hobj,hints,hlen⟩:=uC hn hpre hwl
 refine enter_call (codeAny_mono (call w s₀ s₁ mg mb fa o pm cd doc a vs ns G Y ho (fd_plain hd) hcd hmg hobj hints hlen hg) λr s' hq=>?_)
 obtain⟨rfl,h2,h3,h4⟩:=hq
 exact⟨.inl ⟨.bool true,.bool true,[],rfl,λ_=>rfl,.bool true,uD l _,λ_=>⟨List.Pairwise.nil,λ_ hm=>(nomatch hm)⟩⟩,h2,h3,h4⟩
section
variable {prog:Program} {w:World} {A:Around} {E:Value->Shared->Prop} {s:Shared} {K:Frag}
end
end Att
namespace L2
open PySem PySem.Spec PyProof.Rows
theorem kZ:∀{vs:List Value} {ns:List Int},IntsAre vs ns->aJ (ns.map V.int) vs
 | _,_,.nil=>.nil
 | _,_,.cons n t h=>.cons ⟨t,rfl⟩ (kZ h)
def aAJ(H:Hp):Prop:=∀b,H b=none\/∃o xs,H b=some (.frz o (.lst xs))
theorem wL{P:Program}{w:World}{K:PySem.W.Frag}{mg mb:Str->Option Value}{CX:CXT}{k:Nat}{fa a:Addr}{fd:FuncData}{x:Str}{sp:Sp}{s₁:Shared}{vs:List Value}{ns:List Int}
 (KX:K.In s₁.heap) (hns:s₁.heap.Ns mainGlobals mg) (hb:s₁.heap.Ns builtinsNs mb) (hbb:∀x:Str,x ≠ "__name__" -> mb x=bootBuiltins x) (hlim:s₁.heap.NoLimit) (hg:s₁.gens=#[])
 (ha:s₁.heap.get? a=some { cls:=.type "list",data:=.seq vs.toArray }) (hi:IntsAre vs ns) (hl:ns.length<=sizeLine) (hr:iR k callerA)
 (F:∀base:Heap,K.In base->base.Ns mainGlobals mg->mI P w K mg base CX k fa fd [x] sp) (hbind:∀(s:Shared) (u:Value),BindsTo s fd ⟨[u],[]⟩ [(x,u)])
 (hsp:∀H:Hp,aAJ H->SqL K H a (ns.map V.int)->sp [.ref a] H (λv _=>v=.bl true) λ_ _ _=>False)
 (hCX:∀H e s',CX [] H s₁ (λ_ _ _=>False) e s'->False) :
 codeAny (model P w) callerA (.call (.ref fa) ⟨[.ref a],[]⟩) (λr s'=>r=.ok (.ret (.bool true))/\OldK s₁.heap s'.heap/\s'.os=s₁.os/\AllBare s'.gens) s₁:=by
 have rv:=kZ hi
 have lenV:=hi.length
 have core:∀H:Hp,aAJ H->SqL K H a (ns.map V.int)->HOk P w H s₁.heap->(∀b,H b≠none->b=a)->(H a≠none->K.lookup a=none) ->
  codeAny (model P w) callerA (.call (.ref fa) ⟨[.ref a],[]⟩) (λr s'=>r=.ok (.ret (.bool true))/\OldK s₁.heap s'.heap/\s'.os=s₁.os/\AllBare s'.gens) s₁:=by
  intro H hO hS hok hA hK
  have base_of:∀{b:Addr} {o:Obj},s₁.heap.get? b=some o->H b=none->(mE s₁.heap H).get? b=some o:=λe n=>vN e n
  have noA:∀{b:Addr} {o:Obj} {es:Array DictEntry} {ep:Nat},s₁.heap.get? b=some o->o.data=.dict es ep->H b=none:=λ{b o es ep} e d=>by
   cases q:H b with
   | none=>rfl
   | some u=>
    have e':b=a:=hA b (by rw[q];simp)
    subst e'
    rw[ha] at e;cases e
    have d':Data.seq vs.toArray _=Data.dict es ep:=d
    cases d'
  have nsK:∀{b:Addr} {m:Str->Option Value},s₁.heap.Ns b m->(mE s₁.heap H).Ns b m:=λ{b m} ⟨o,es,ep,e,d,r⟩=>⟨o,es,ep,base_of e (noA e d),d,r⟩
  have hKb:K.In (mE s₁.heap H):=λb o e=>base_of (KX b o e) (by
   cases q:H b with
   | none=>rfl
   | some u=>
    have e':b=a:=hA b (by rw[q];simp)
    subst e'
    rw[hK (by rw[q];simp)] at e;cases e)
  have hM:Mod K mg (mE s₁.heap H):=⟨hKb,nsK hns,⟨mb,nsK hb,hbb⟩,let ⟨mc,h1,h2⟩:=hlim;⟨mc,nsK h1,h2⟩⟩
  have e0:aAA P w K mg (mE s₁.heap H) callerA [] s₁ H:=⟨rfl,hM,λb o e=>aAl e,Nat.le_of_eq (tS _ _),trivial,λb hb=>absurd (show b∈([]:List Addr) from hb) (by simp),hok,.of_eq hg⟩
  refine codeAny_mono ((F _ hKb (nsK hns)).run callerA [] s₁ H ⟨[.ref a],[]⟩ [.ref a] [.ref a] _ _ hr e0 (hbind s₁ (.ref a)) (.cons rfl .nil) (hsp H hO hS)) λr s' h=>?_
  cases r with
  | error e=>exact(hCX H e s' h).elim
  | ok fl=>
   cases fl with
   | next=>exact False.elim h
   | brk=>exact False.elim h
   | cont=>exact False.elim h
   | ret u=>
    obtain⟨v,H',os,bare,un,hok',r',q⟩:=h
    have q':v=.bl true:=q
    subst q'
    obtain rfl:u=Value.bool true:=r'
    refine⟨rfl,OldK.of_keep λb o e=>?_,os,bare⟩
    cases q:H b with
    | none=>exact un.keep b o e q (by intro z;exact absurd (show b∈([]:List Addr) from z) (by simp)) (by simp)
    | some u=>
     rcases hO b with z|⟨ob,xs,z⟩
     . rw[q] at z;cases z
     . have z2:=un.frzs b ob _ z
       obtain⟨e1,_⟩:=hok b _ z
       obtain⟨e2,_⟩:=hok' b _ z2
       rw[e] at e1;cases e1
       exact e2
 cases hk:K.lookup a with
 | some o=>
  have e:=KX a o hk
  rw[ha] at e
  cases e
  refine core (λ_=>none) (λ_=>.inl rfl) (.inr ⟨_,vs.toArray,_,hk,rfl,rfl,rfl,by rw[List.size_toArray,lenV];exact hl,by simpa using rv⟩) (λb u z=>by have z':(none:Option HO)=some u:=z;cases z') (λb z=>absurd rfl z) λz=>absurd rfl z
 | none=>
  refine core (λb=>if b=a then some (.frz { cls:=.type "list",data:=.seq vs.toArray } (.lst (ns.map V.int))) else none) (λb=>?_) (.inl (.inr ⟨{ cls:=.type "list",data:=.seq vs.toArray },if_pos rfl⟩)) (λb u z=>?_) (λb z=>?_) λ_=>hk
  . by_cases hb:b=a
    . exact .inr ⟨_,_,if_pos hb⟩
    . exact .inl (if_neg hb)
  . by_cases hb:b=a
    . have z':=(if_pos hb).symm.trans z
      cases z'
      subst hb
      exact⟨ha,by rw[List.length_map];exact hl,vs,_,rv,ha⟩
    . have z':=(if_neg hb).symm.trans z
      cases z'
  . by_cases hb:b=a
    . exact hb
    . exact absurd (if_neg hb) z
end L2
namespace L2
open PySem PySem.Spec PyProof.Rows
end L2
namespace L2
open PySem PySem.Spec PyProof.Rows
def eV(s:Stmt):Arguments:=match s with
 | .FunctionDef _ a _ _ _ _ _ _ _ _=>a
 | _=>{ posonlyargs:=[],args:=[],vararg:=none,kwonlyargs:=[],kw_defaults:=[],kwarg:=none,defaults:=[] }
def fW(s:Stmt):List Stmt:=match s with
 | .FunctionDef _ _ b _ _ _ _ _ _ _=>b
 | _=>[]
def aZ(s:Stmt):Scope:=match s with
 | .FunctionDef _ _ _ _ _ _ sc _ _ _=>sc
 | _=>{ kind:=.function,names:=[],isGenerator:=false,isCoroutine:=false }
abbrev E0:XK:=λ_ _ _=>False
structure Fun (K:PySem.W.Frag) (x qual:Str) (st:Stmt) (f:Addr) (fd:FuncData):Prop where
 ex:∃(oc:Value) (od:Option Addr) (kV doc pm:Value) (an:Option Addr) (cdv ct:Value) (osl:Array (Option Value)),
  fd=PySem.W.fnOf x qual (eV st) (fW st) (aZ st) .none kV doc pm an cdv ct/\K.lookup f=some ⟨oc,od,.func fd,osl⟩/\PySem.W.codeIn K cdv qual=true
 kp:PySem.W.keepIn K (.ref f)=true
section
variable {P:Program} {w:World} {K:PySem.W.Frag} {mg:Str->Option Value} {base:Heap}
theorem Fun.binds{x qual:Str}{st:Stmt}{f:Addr}{fd:FuncData}{ps:List Str}(F:Fun K x qual st f fd)
 (h:∀(kV doc pm:Value) (an:Option Addr) (cdv ct:Value) (us:List Value),us.length=ps.length->bindArgs (PySem.W.fnOf x qual (eV st) (fW st) (aZ st) .none kV doc pm an cdv ct) ⟨us,[]⟩=pure (ps.zip us)):iK K fd ps []:=by
 obtain⟨oc,od,kV,doc,pm,an,cdv,ct,osl,rfl,lk,hcd⟩:=F.ex
 exact .all (h kV doc pm an cdv ct)
end
section
variable {X:Cx}
end
theorem aFp{A B:Prop}(h:B):if false=true then A else B:=by
 rw[if_neg Bool.false_ne_true]
 exact h
theorem aHW{A B:Prop}(h:A):if true=true then A else B:=by
 rw[if_pos rfl]
 exact h
def aG(H H':Hp):Prop:=∀b o,H b=some o->H' b=some o
theorem aG.refl(H:Hp):aG H H:=λ_ _ h=>h
theorem aG.trans{H H1 H2:Hp}(a:aG H H1)(b:aG H1 H2):aG H H2:=λc o h=>b c o (a c o h)
theorem aG.free{H H':Hp}(e:aG H H'){l:Addr}(h:H' l=Option.none):H l=Option.none:=by
 cases q:H l with
 | none=>rfl
 | some o=>
  rw[e l o q] at h
  cases h
theorem aG.seq{K:PySem.W.Frag}{H H':Hp}{a:Addr}{xs:List V}(e:aG H H')(h:SqL K H a xs):SqL K H' a xs:=by
 rcases h with(h|⟨o,h⟩)|h
 . exact .inl (.inl (e _ _ h))
 . exact .inl (.inr ⟨o,e _ _ h⟩)
 . exact .inr h
end L2
end
noncomputable section
namespace L2
open PySem PySem.Spec PyProof.Rows PySem.Builtin
set_option maxRecDepth 100000 in
theorem gP:fillsNumberSlot (.type "tuple") "mul" = pure false:=
 PySem.fillsNumberSlot_seq (id:= "tuple.__mul__") (r:=some (.builtin "tuple.__rmul__")) F.slot_tuple_mul.lookup (by decide +kernel) F.slot_tuple_rmul.lookup (by decide +kernel)
theorem mT:seqRepeat? (.type "tuple")=pure (some (.builtin "tuple.__mul__")):=by
 unfold seqRepeat?
 rw[PySem.seqSlot_of (T:= "tuple") (name:= "__mul__") (id:= "tuple.__mul__") F.slot_tuple_mul.lookup (by decide +kernel),PySem.seqSlot_of (T:= "tuple") (name:= "__rmul__") (id:= "tuple.__rmul__") F.slot_tuple_rmul.lookup (by decide +kernel)]
 rfl
theorem jL(a:Int)(t:Tok)(l:Addr)(od:Option Addr)(items:Array Value)(n:Nat)(sl:Array (Option Value)):Meets (Builtin.«int.__rmul__» ⟨[.int a t,.ref l],[]⟩) (λ_ R s=>s.heap.get? l=some { cls:=.type "tuple",dict:=od,data:=.seq items n,slots:=sl }/\R (.ok (.ret Value.notImplemented)) s):=
 .of_wp λprog w A R s h=>by
  obtain⟨hp,g,d,tk,os⟩:=s;obtain⟨hl,h⟩:=h;wp_walk;exact⟨_,rfl,h⟩
theorem nW(l:Addr)(t:Tok)(od:Option Addr)(items:Array Value)(n:Nat)(sl:Array (Option Value)):Meets (Builtin.«tuple.__mul__» ⟨[.ref l,.int 1 t],[]⟩) (λ_ R s=>s.heap.get? l=some { cls:=.type "tuple",dict:=od,data:=.seq items n,slots:=sl }/\R (.ok (.ret (.ref l))) s):=
 .of_wp λprog w A R s h=>by
  obtain⟨hp,g,d,tk,os⟩:=s;obtain⟨hl,h⟩:=h;wp_walk;exact⟨_,rfl,h⟩
theorem nX(l:Addr)(t:Tok)(k:Int)(od:Option Addr)(items:Array Value)(n:Nat)(sl:Array (Option Value))(h1:1<k)(h2:k<2 ^ 63)(h0:items.isEmpty=false)(hz:items.size*k.toNat<=sizeLine)(hs:((List.replicate k.toNat items).foldl (·++·) #[]).size<=sizeLine):Meets (Builtin.«tuple.__mul__» ⟨[.ref l,.int k t],[]⟩) (λ_ R s=>s.heap.get? l=some { cls:=.type "tuple",dict:=od,data:=.seq items n,slots:=sl }/\R (.ok (.ret (.ref s.heap.objs.size))) { s with heap:=s.heap.push { cls:=.type "tuple",data:=.seq ((List.replicate k.toNat items).foldl (·++·) #[]) } }):=
 .of_wp λprog w A R s h=>by
  obtain⟨hp,g,d,tk,os⟩:=s;obtain⟨hl,h⟩:=h;wp_walk
  have k1:(decide (k < -2 ^ 63)||decide (k ≥ 2 ^ 63))=false:=by rw[decide_eq_false (by omega),decide_eq_false (by omega)];rfl
  have k2:(items.isEmpty||k==1)=false:=by rw[h0,beq_eq_false_iff_ne.mpr (by omega)];rfl
  have k3:(decide (k<=0)||items.isEmpty)=false:=by rw[h0,decide_eq_false (by omega)];rfl
  have e:((items.size*k.toNat:Nat):Int)=(items.size:Int)*k:=by rw[Int.natCast_mul,Int.toNat_of_nonneg (by omega)]
  have k4:Tuple.tupleTooMany ((items.size:Int)*k)=false:=by
   unfold Tuple.tupleTooMany
   rw[<-e]
   exact decide_eq_false (by omega)
  have k5:¬ (items.size:Int)*k>(2 ^ 63-1) / 8:=by
   have:(sizeLine:Nat)<=(2 ^ 63-1) / 8:=by decide
   rw[<-e]
   omega
  rw[if_neg (by rw[k1];exact bN)]
  wp_walk
  rw[if_neg (by rw[k2];exact bN),if_neg (by rw[k3];exact bN),if_neg k5,if_neg (by rw[k4];exact bN)]
  unfold Tuple.tupleExact newObj
  simp only[if_neg (Nat.not_lt.mpr hs)]
  wp_walk
  exact⟨_,rfl,h⟩
section
variable {X:Cx}
theorem aAK:OpR X (binaryOp .Mult) (λx y H Q=>∃a k xs,x=.ref a/\y=.int k/\SqT X.K H a xs/\xs≠[]/\1<=k/\k<2 ^ 63/\xs.length*k.toNat<=sizeLine /\
 (k=1->Q (.ref a) H)/\(1<k->∀p,H p=none->Q (.ref p) (upd H p (.tup (List.replicate k.toNat xs).flatten)))):=by
 intro pins s σ H x y v u Q I rx ry h
 obtain⟨a,k,xs,rfl,rfl,ha,hx,h1,h2,hz,q1,q2⟩:=h
 cases rx
 obtain⟨t,rfl⟩:=ry
 obtain⟨its,r,⟨o,ho,hc,n,hd⟩,_⟩:=I.tuple ha
 obtain⟨oc,od,dt,sl⟩:=o
 have hc:oc=.type "tuple" := hc
 have hd:dt=.seq its.toArray n:=hd
 subst hc hd
 have lz:=r.length
 have road:=λQ' (hq:wpAny (model X.prog X.w) X.A (call (.builtin "tuple.__mul__") [.ref a,.int k t]) Q' X.xe s)=>wpAny_binaryOp_repeat_ref (Q:=Q') (T:= "tuple") (U:= "int") (by decide) (show s.TypeIs (.ref a) "tuple" from⟨_,ho,rfl⟩) (λs'=>typeIs_int s' k t) gP F.fills_int_mul F.slot_int_rmul mT F.slot_int_index.lookup
  (call_meets F.slot_int_rmul (typeIs_int s k t) F.entry_int_rmul (F.args_int_rmul_2 _ _) (jL k t a od its.toArray n sl) ⟨ho,rfl,⟨_,ho,rfl⟩,hq⟩)
 refine road _ ?_
 by_cases hk:k=1
 . subst hk
   exact call_meets F.slot_tuple_mul ⟨_,ho,rfl⟩ F.entry_tuple_mul (F.args_tuple_mul_2 _ _) (nW a t od its.toArray n sl) ⟨ho,.ref a,H,I,rfl,q1 rfl⟩
 . have e0:its.toArray.isEmpty=false:=by
    cases its with
    | nil=>exact absurd (r.nil_iff.mp rfl) hx
    | cons _ _=>rfl
   have f0:=gO its k.toNat []
   rw[List.nil_append] at f0
   have f1:List.foldl (λx1 x2=>x1++x2) #[] (List.replicate k.toNat its.toArray)=(List.replicate k.toNat its).flatten.toArray:=f0
   refine call_meets F.slot_tuple_mul ⟨_,ho,rfl⟩ F.entry_tuple_mul (F.args_tuple_mul_2 _ _) (nX a t k od its.toArray n sl (by omega) h2 e0 (by rw[List.size_toArray,<-lz];exact hz) (by rw[f1,List.size_toArray,mS,<-lz,Nat.mul_comm];exact hz)) ⟨ho,?_⟩
   rw[f1]
   refine⟨.ref s.heap.objs.size,_,I.laid (t':=s.toks) (o:=.tup (List.replicate k.toNat xs).flatten) (λb ob q=>Heap.get?_push_of_some _ q) (Nat.le_refl _) ?_,rfl,q2 (by omega) _ (I.hok.fresh (Nat.le_refl _))⟩
   exact⟨by rw[mS,Nat.mul_comm];exact hz,_,r.rep k.toNat,IsTup.new _ _⟩
end
end L2
end
noncomputable section
namespace Hp
open PySem (Str Operator CmpOp)
inductive D where
 | non|bl (b:Bool)|int (i:Int)|str (x:Str)
 | tup (ds:List D)|lst (ds:List D)
 | dic (kvs:List (D×D))
 | err (c:Str) (fs:List D)
 deriving Inhabited
mutual
def noL:D->Bool
 | .tup ds=>noLs ds
 | .lst _=>false
 | .dic _=>false
 | .err _ _=>false
 | _=>true
def noLs:List D->Bool
 | []=>true
 | d::ds=>noL d&&noLs ds
end
mutual
def aFq:D->Bool
 | .tup ds=>noDics ds
 | .lst ds=>noDics ds
 | .dic _=>false
 | .err _ _=>false
 | _=>true
def noDics:List D->Bool
 | []=>true
 | d::ds=>aFq d&&noDics ds
end
def lim:Nat:=1000000
def b2i(b:Bool):Int:=if b then 1 else 0
def eqL(f:D->D->Option Bool):List D->List D->Option Bool
 | [],[]=>some true
 | a::as,b::bs=>match f a b,eqL f as bs with
  | some x,some y=>some (x&&y)
  | _,_=>none
 | _,_=>some false
def eqF:Nat->D->D->Option Bool
 | 0,_,_=>none
 | n+1,a,b=>match a,b with
  | .non,.non=>some true
  | .bl a,.bl b=>some (a==b)
  | .int a,.int b=>some (a==b)
  | .str a,.str b=>some (a==b)
  | .bl a,.int b=>some (b2i a==b)
  | .int a,.bl b=>some (a==b2i b)
  | .tup as,.tup bs=>eqL (eqF n) as bs
  | .lst as,.lst bs=>if as.length=bs.length then eqL (eqF n) as bs else some false
  | .dic _,_=>none
  | _,.dic _=>none
  | .err _ _,_=>none
  | _,.err _ _=>none
  | _,_=>some false
def bY(n:Nat):List D->List D->Option Bool
 | [],[]=>some true
 | a::as,b::bs=>match eqF n a b,bY n as bs with
  | some x,some y=>some (x&&y)
  | _,_=>none
 | _,_=>some false
@[simp] theorem qH (n:Nat):∀as bs:List D,eqL (eqF n) as bs=bY n as bs
 | [],[]=>rfl
 | [],_::_=>rfl
 | _::_,[]=>rfl
 | a::as,b::bs=>by rw[eqL,bY,qH n as bs]
def mU:Nat:=120
def eqD(a b:D):Option Bool:=eqF mU a b
inductive R (α:Type) where
 | ok (a:α)|exc (x:D)|bad
 deriving Inhabited
def R.bind{α β:Type}(x:R α)(f:α->R β):R β:=match x with
 | .ok a=>f a
 | .exc e=>.exc e
 | .bad=>.bad
instance:Monad R where
 pure:=.ok
 bind:=.bind
def R.of{α:Type}:Option α->R α
 | some a=>.ok a
 | none=>.bad
def R.calm{α:Type}:R α->R α
 | .exc _=>.bad
 | x=>x
def R.iff{α:Type}(c:Bool)(x:R α):R α:=if c then x else .bad
structure Vl where
 d:D
 fr:Bool:=false
 pa:Bool:=false
 al:List Nat:=[]
 deriving Inhabited
def Vl.cl(d:D):Vl:=⟨d,false,false,[]⟩
def Vl.sub(v:Vl)(d:D):Vl:=if noL d then .cl d else ⟨d,false,v.pa,v.al⟩
inductive Sl where
 | dead|sh (pa:Bool) (d:D)|own (pa:Bool) (ds:List D)|dct (ks:List (List (List Int)×D))|par (ds es:List D)
 deriving Inhabited
abbrev Sg:=List Sl
def Sl.val(i:Nat):Sl->R Vl
 | .dead=>.bad
 | .sh pa d=>.ok ⟨d,false,pa&&!noL d,[]⟩
 | .own pa ds=>.ok ⟨.lst ds,false,pa,[i]⟩
 | .dct _=>.bad
 | .par _ _=>.bad
def bH(σ:Sg)(i:Nat):R Vl:=match σ[i]? with
 | some s=>s.val i
 | none=>.bad
def Sl.freeze:Sl->Sl
 | .own pa ds=>.sh pa (.lst ds)
 | s=>s
def freeze(σ:Sg):List Nat->Sg
 | []=>σ
 | i::is=>freeze (match σ[i]? with|some s=>σ.set i s.freeze|none=>σ) is
def Vl.slot(v:Vl):Sl:=match v.fr,v.d with
 | true,.lst ds=>.own v.pa ds
 | _,d=>.sh v.pa d
inductive Bi where
 | len|list|tuple|min|max|abs|int|str|sum|all|any|sorted|bool|repr
 deriving DecidableEq,Inhabited
inductive Mt where
 | join|upper|lower|get|startswith|endswith|index|count|copy|isdigit|find|replace|split|strip
 deriving DecidableEq,Inhabited
inductive Cl where
 | tInt|tBool|tStr|tList|tTuple|tDict|own (c:Str)|tValueError
 deriving DecidableEq,Inhabited
inductive T where
 | n (i:Nat)
 | t (ts:List Nat)
 deriving Inhabited
mutual
inductive E where
 | c (d:D)
 | v (i:Nat)
 | op (o:Operator) (a b:E)
 | neg (a:E)
 | nt (a:E)
 | an (a b:E)
 | orr (a b:E)
 | ife (t a b:E)
 | cmp (o:CmpOp) (a b:E)
 | cmp2 (o o':CmpOp) (a b c:E)
 | idx (a b:E)
 | sli (a:E) (lo hi:Es)
 | tup (es:Es)
 | lst (es:Es)
 | dic (ks vs:Es)
 | call (f:Nat) (es:Es)
 | bi (b:Bi) (es:Es)
 | mth (m:Mt) (o:E) (es:Es)
 | isi (a:E) (cs:List Cl)
 | isx (a:E) (cs:List Cl)
 | comp (k:Nat) (caps:List Nat) (t:T) (it:It) (cond:Es) (elt:E)
 | numset (a:E)   -- len(set(a))
 | tget (i:Nat) (a:E)   -- a dict of the module,.get(a)
 | lzip (a b:E)   -- list(zip(a,b))
 | dnin (a:E) (j:Nat)   -- a not in a dict of one's own
 | dget (j:Nat) (a:E)   -- the value at a key in a dict of one's own
 | dlen (j:Nat)   -- len of a dict of one's own
 | callP (f i:Nat) (es:Es)   -- f(x,..),x a list of two lists of its own
inductive Es where
 | nil|cons (e:E) (es:Es)
inductive It where
 | seq (e:E)|rng (a b:E)|zip (a b:E)|enum (a:E)|rev (a:E)
end
instance:Inhabited E:=⟨.c .non⟩
inductive Arg where
 | e (a:E)|pop (i:Nat)
 deriving Inhabited
mutual
inductive S where
 | set (t:T) (e:E)
 | mov (i j:Nat)
 | setIx (i:Nat) (k e:E)
 | app (i:Nat) (e:E)
 | ext (i:Nat) (e:E)
 | pop (t:Option T) (i:Nat) (at':Option E)
 | clr (i:Nat)
 | ins (i:Nat) (k e:E)
 | rev (i:Nat)
 | appCall (i:Nat) (f:Nat) (as:List Arg)
 | ret (e:E)
 | retv (i:Nat)
 | retN
 | iff (c:E) (a b:Ss)
 | for (t:T) (it:It) (b:Ss)
 | whl (c:E) (b:Ss)
 | brk|cnt|pass|off
 | ex (e:E)
 | dnew (i:Nat)   -- {}
 | dput (i:Nat) (e:E)   -- i[e]=True
 | dfrom (i:Nat) (e:E)   -- dict(e),e pairs of a key and a plain value
 | two (i:Nat) (a b:E)   -- i=[a,b],both fresh lists
 | appP (i:Nat) (z:Bool) (e:E)   -- i[0].append(e),i[1].append(e)
 | clrP (i:Nat) (z:Bool)   -- i[0].clear(),i[1].clear()
 | rse (c:Str) (keep:Bool) (es:Es)
 | tryAs (b:Ss) (c:Str) (i j:Nat)   -- try: b except c as j: i=j
inductive Ss where
 | nil|cons (s:S) (ss:Ss)
end
structure Fn where
 np:Nat
 ns:Nat
 body:Ss
structure Pg where
 fns:List Fn
 above:List (Str×List Cl)
 tabs:List (List (Str×D)):=[]
abbrev Rt:=D×Bool×Bool
abbrev Caller:=Nat->List D->R Rt
def jM(i j:Int):Bool:=(decide (-(2 ^ 64)<i)&&decide (i<2 ^ 64))||(decide (-(2 ^ 64)<j)&&decide (j<2 ^ 64))
def rV(i j:Int):Bool:=decide (0<=j)&&decide (j<=1000)&&decide (i.natAbs<2 ^ 64)
def nY(j:Int):Bool:=decide (0<j)&&decide (j<1073741824)
def aF(k:Int):Bool:=decide (-(2 ^ 62)<=k)&&decide (k<2 ^ 62)
def Str.rep(x:Str)(k:Nat):Str:=⟨(List.replicate k x.cps).foldl (·++·) #[]⟩
@[simp] def aAL (x y:Vl):R Vl:=match x.d,y.d with
 | .int i,.int j=>.ok (.cl (.int (i+j)))
 | .str a,.str b=>.iff (decide (a.length+b.length<=lim)) (.ok (.cl (.str (a++b))))
 | .tup a,.tup b=>.iff (decide (a.length+b.length<=lim)) (.ok ⟨.tup (a++b),false,x.pa||y.pa,x.al++y.al⟩)
 | .lst a,.lst b=>.iff (decide (a.length+b.length<=lim)) (.ok ⟨.lst (a++b),true,(x.pa&&!noLs a)||(y.pa&&!noLs b),(if noLs a then [] else x.al)++(if noLs b then [] else y.al)⟩)
 | _,_=>.bad
@[simp] def aAM (x y:Vl):R Vl:=match x.d,y.d with
 | .int i,.int j=>.iff (jM i j) (.ok (.cl (.int (i*j))))
 | .str a,.int k=>.iff (aF k&&decide (a.length*k.toNat<=lim)) (.ok (.cl (.str (Str.rep a k.toNat))))
 | .lst a,.int k=>.iff (x.fr&&aF k&&decide (a.length*k.toNat<=lim)&&noLs a) (.ok ⟨.lst (List.replicate k.toNat a).flatten,true,false,[]⟩)
 | .tup a,.int k=>.iff (decide (1<=k)&&aF k&&!a.isEmpty&&decide (a.length*k.toNat<=lim)&&noLs a) (.ok (.cl (.tup (List.replicate k.toNat a).flatten)))
 | _,_=>.bad
@[simp] def mV (f:Int->Int->R Vl) (x y:Vl):R Vl:=match x.d,y.d with
 | .int i,.int j=>f i j
 | _,_=>.bad
def opD(o:Operator)(x y:Vl):R Vl:=match o with
 | .Add=>aAL x y
 | .Mult=>aAM x y
 | .Sub=>mV (λi j=>.ok (.cl (.int (i-j)))) x y
 | .FloorDiv=>mV (λi j=>.iff (nY j) (.ok (.cl (.int (i / j))))) x y
 | .Mod=>mV (λi j=>.iff (decide (0<j)) (.ok (.cl (.int (i % j))))) x y
 | .Pow=>mV (λi j=>.iff (rV i j) (.ok (.cl (.int (i ^ j.toNat))))) x y
 | _=>.bad
def uE:D->Option Bool
 | .non=>some false
 | .bl b=>some b
 | .int i=>some (i != 0)
 | .str x=>if x.length<=lim then some (x.length != 0) else none
 | .tup ds=>some (!ds.isEmpty)
 | .lst ds=>some (!ds.isEmpty)
 | _=>none
def dG(x:Vl):R Bool:=.of (uE x.d)
def wM:List D->Option (List Int)
 | []=>some []
 | .int a::ds=>match wM ds with
  | some ns=>some (a::ns)
  | none=>none
 | _=>none
def ltD:D->D->Option Bool
 | .int a,.int b=>some (decide (a<b))
 | _,_=>none
def leD:D->D->Option Bool
 | .int a,.int b=>some (decide (a<=b))
 | _,_=>none
def isNone:D->Bool
 | .non=>true
 | _=>false
def inD(x y:D):Option Bool:=match x,y with
 | .str a,.str b=>some (!(PySem.Builtin.Str.occurrences b a 0 b.length 1).isEmpty)
 | _,_=>none
def bP(o:CmpOp)(x y:D):Option Bool:=match o with
 | .Eq=>eqD x y
 | .NotEq=>(eqD x y).map (!·)
 | .Lt=>ltD x y
 | .Gt=>match x,y with
  | .int a,.int b=>some (decide (b<a))
  | _,_=>none
 | .LtE=>leD x y
 | .GtE=>match x,y with
  | .int a,.int b=>some (decide (b<=a))
  | _,_=>none
 | .Is=>match y with
  | .non=>some (isNone x)
  | _=>none
 | .IsNot=>match y with
  | .non=>some (!isNone x)
  | _=>none
 | .In=>inD x y
 | .NotIn=>(inD x y).map (!·)
def ixN(n:Nat)(k:Int):Option Nat:=
 if 0<=k then (if k<n then some k.toNat else none) else (if -(n:Int)<=k then some (k+n).toNat else none)
def eE(x y:Vl):R Vl:=match x.d,y.d with
 | .lst ds,.int k=>match ixN ds.length k with
  | some j=>match ds[j]? with
   | some d=>.ok (x.sub d)
   | none=>.bad
  | none=>.bad
 | .tup ds,.int k=>match ixN ds.length k with
  | some j=>match ds[j]? with
   | some d=>.ok (x.sub d)
   | none=>.bad
  | none=>.bad
 | .str a,.int k=>.iff (decide (a.length<=lim)) (match ixN a.length k with
  | some j=>match a.cps.toList[j]? with
   | some c=>.ok (.cl (.str ⟨#[c]⟩))
   | none=>.bad
  | none=>.bad)
 | _,_=>.bad
def sIx(n d:Nat):Option Int->Nat
 | none=>d
 | some v=>if v<0 then (v+(n:Int)).toNat else min v.toNat n
def cut{α:Type}(xs:List α)(lo hi:Option Int):List α:=(xs.drop (sIx xs.length 0 lo)).take (sIx xs.length xs.length hi-sIx xs.length 0 lo)
def gQ(x:Str)(lo hi:Option Int):Str:=⟨(cut x.cps.toList lo hi).toArray⟩
def cH(x:Vl)(lo hi:Option Int):R Vl:=match x.d with
 | .lst ds=>.ok ⟨.lst (cut ds lo hi),true,x.pa&&!noLs ds,if noLs ds then [] else x.al⟩
 | .tup ds=>.ok ⟨.tup (cut ds lo hi),false,x.pa&&!noLs ds,if noLs ds then [] else x.al⟩
 | .str a=>.iff (decide (a.length<=lim)) (.ok (.cl (.str (gQ a lo hi))))
 | _=>.bad
def isI(cs:List Cl)(P:Pg):D->Option Bool
 | .non=>some false
 | .bl _=>some (cs.contains .tBool||cs.contains .tInt)
 | .int _=>some (cs.contains .tInt)
 | .str _=>some (cs.contains .tStr)
 | .tup _=>some (cs.contains .tTuple)
 | .lst _=>some (cs.contains .tList)
 | .dic _=>some (cs.contains .tDict)
 | .err _ _=>none
def isX(cs:List Cl)(P:Pg):D->Option Bool
 | .non=>match cs with
  | [.tValueError]=>some false
  | _=>none
 | .err c _=>match P.above.lookup c with
  | some ab=>some (cs.any λa=>ab.contains a)
  | none=>none
 | _=>none
def aHX(i:Int):Str:=(toString i:String)
def aDk:List D->Int->Option Int
 | [],a=>some a
 | .int i::ds,a=>aDk ds (a+i)
 | .bl b::ds,a=>aDk ds (a+b2i b)
 | _,_=>none
def mW:List D->Option (List Bool)
 | []=>some []
 | .bl a::ds=>match mW ds with
  | some bs=>some (a::bs)
  | none=>none
 | _=>none
def mX:List D->Option (List (Sum Int Str))
 | []=>some []
 | .int a::ds=>match mX ds with
  | some ks=>some (.inl a::ks)
  | none=>none
 | .str a::ds=>match mX ds with
  | some ks=>some (.inr a::ks)
  | none=>none
 | _=>none
def wN(ks:List (Sum Int Str)):List (Sum Int Str):=ks.foldl (λσ v=>if σ.any (·==v) then σ else σ++[v]) []
def aFr(x:D):List D->Option (List D)
 | []=>some [x]
 | y::ys=>match ltD x y with
  | some true=>some (x::y::ys)
  | some false=>match aFr x ys with
   | some r=>some (y::r)
   | none=>none
  | none=>none
def aCa:List D->Option (List D)
 | []=>some []
 | d::ds=>match aCa ds with
  | some r=>aFr d r
  | none=>none
def wP(x:Str):Bool:=x.cps.all λc=>decide (97<=c)&&decide (c<=122)
mutual
def wt:D->Nat
 | .non=>4
 | .bl _=>5
 | .int i=>if i.natAbs<1000000000 then 10 else lim
 | .str x=>if wP x then x.length+2 else lim
 | .tup ds=>3+wts ds
 | .lst ds=>2+wts ds
 | .dic _=>lim
 | .err _ _=>lim
def wts:List D->Nat
 | []=>0
 | d::ds=>wt d+2+wts ds
end
mutual
def dpt:D->Nat
 | .tup ds=>dpts ds+1
 | .lst ds=>dpts ds+1
 | .non=>0
 | .bl _=>0
 | .int _=>0
 | .str _=>0
 | .dic _=>0
 | .err _ _=>0
def dpts:List D->Nat
 | []=>0
 | d::ds=>max (dpt d) (dpts ds)
end
mutual
def dU:D->PySem.PyData
 | .non=>.none
 | .bl b=>.bool b
 | .int i=>.int i
 | .str x=>.str x
 | .tup ds=>.tuple (toPys ds)
 | .lst ds=>.list (toPys ds)
 | .dic _=>.none
 | .err _ _=>.none
def toPys:List D->List PySem.PyData
 | []=>[]
 | d::ds=>dU d::toPys ds
end
def aFs(d:D):Str:=(dU d).shown
@[simp] def wQ (b:Bi) (x:Vl):R Vl:=match b with
 | .len=>match x.d with
  | .lst ds=>.ok (.cl (.int ds.length))
  | .tup ds=>.ok (.cl (.int ds.length))
  | .str a=>.iff (decide (a.length<=lim)) (.ok (.cl (.int a.length)))
  | _=>.bad
 | .list=>match x.d with
  | .lst ds=>.ok ⟨.lst ds,true,x.pa&&!noLs ds,if noLs ds then [] else x.al⟩
  | .tup ds=>.ok ⟨.lst ds,true,x.pa&&!noLs ds,if noLs ds then [] else x.al⟩
  | _=>.bad
 | .tuple=>match x.d with
  | .lst ds=>.ok ⟨.tup ds,false,x.pa&&!noLs ds,if noLs ds then [] else x.al⟩
  | .tup ds=>.ok ⟨.tup ds,false,x.pa,x.al⟩
  | _=>.bad
 | .abs=>match x.d with
  | .int i=>.ok (.cl (.int (if i<0 then -i else i)))
  | _=>.bad
 | .int=>match x.d with
  | .int i=>.ok (.cl (.int i))
  | .bl b=>.ok (.cl (.int (b2i b)))
  | _=>.bad
 | .bool=>match uE x.d with
  | some k=>.ok (.cl (.bl k))
  | none=>.bad
 | .str=>match x.d with
  | .int i=>.iff (decide (i.natAbs<2 ^ 1000)) (.ok (.cl (.str (aHX i))))
  | _=>.bad
 | .repr=>match x.d with
  | .tup ds=>.iff (decide (wt (.tup ds)<lim)&&decide (dpt (.tup ds)<=60)) (.ok (.cl (.str (aFs (.tup ds)))))
  | _=>.bad
 | .sum=>match x.d with
  | .lst ds=>match aDk ds 0 with
   | some i=>.ok (.cl (.int i))
   | none=>.bad
  | _=>.bad
 | .all=>match x.d with
  | .lst ds=>match mW ds with
   | some bs=>.ok (.cl (.bl (bs.all id)))
   | none=>.bad
  | _=>.bad
 | .any=>match x.d with
  | .lst ds=>match mW ds with
   | some bs=>.ok (.cl (.bl (bs.any id)))
   | none=>.bad
  | _=>.bad
 | .sorted=>match x.d with
  | .lst ds=>match aCa ds with
   | some r=>.ok ⟨.lst r,true,x.pa&&!noLs ds,if noLs ds then [] else x.al⟩
   | none=>.bad
  | _=>.bad
 | _=>.bad
@[simp] def aHY (b:Bi) (x y:Vl):R Vl:=match b with
 | .min=>match x.d,y.d with
  | .int i,.int j=>.ok (.cl (.int (if j<i then j else i)))
  | _,_=>.bad
 | .max=>match x.d,y.d with
  | .int i,.int j=>.ok (.cl (.int (if j>i then j else i)))
  | _,_=>.bad
 | _=>.bad
def biD(b:Bi)(xs:List Vl):R Vl:=match xs with
 | [x]=>wQ b x
 | [x,y]=>aHY b x y
 | _=>.bad
def wR:List D->Option (List Str)
 | []=>some []
 | .str x::ds=>match wR ds with
  | some r=>some (x::r)
  | none=>none
 | _=>none
def aFt:D->D->Bool
 | .int a,.int b=>a==b
 | .str a,.str b=>a==b
 | _,_=>false
def aFu:D->Bool
 | .int _=>true
 | .str _=>true
 | _=>false
def aCb(k:D):List (D×D)->Option D
 | []=>none
 | (a,d)::r=>if aFt a k then some d else aCb k r
def upC(n:Nat):Nat:=if 97<=n/\n<=122 then n-32 else n
def mtD(m:Mt)(x:Vl)(ys:List Vl):R Vl:=match m,x.d,ys with
 | .join,.str a,[y]=>match y.d with
  | .lst ds=>match wR ds with
   | some xs=>.iff (decide ((xs.map (·.length)).sum+xs.length*a.length<=lim)) (.ok (.cl (.str (PySem.Str.join a xs))))
   | none=>.bad
  | _=>.bad
 | .get,.dic kvs,[y]=>.iff (aFu y.d) (match aCb y.d kvs with
  | some d=>.ok (x.sub d)
  | none=>.ok (.cl .non))
 | .upper,.str a,[]=>.iff (a.cps.all (·<128)&&decide (a.length<=lim)) (.ok (.cl (.str ⟨a.cps.map upC⟩)))
 | _,_,_=>.bad
def bI(vs:List Vl):List Nat:=vs.flatMap (·.al)
def dO(vs:List Vl):Bool:=vs.any (·.pa)
def nZ(vs:List Vl):Vl:=⟨.tup (vs.map (·.d)),false,dO vs,bI vs⟩
def lB(vs:List Vl):Vl:=⟨.lst (vs.map (·.d)),true,dO vs,bI vs⟩
def eF(args:List Vl)(r:Rt):Vl:=if r.2.2 then ⟨r.1,r.2.1,dO args,bI args⟩ else ⟨r.1,r.2.1,false,[]⟩
def dW(a b:Int):List D:=(List.range (b-a).toNat).map λ(k:Nat)=>.int (a+(k:Int))
def aCc:Int->List D->List D
 | _,[]=>[]
 | k,d::ds=>.tup [.int k,d]::aCc (k+1) ds
def fK:List D->List D->List D
 | a::as,b::bs=>.tup [a,b]::fK as bs
 | _,_=>[]
def bM(σ:Sg)(v:Vl):T->R Sg
 | .n i=>.ok (σ.set i v.slot)
 | .t is=>match v.d with
  | .tup ds=>if ds.length=is.length then .ok ((is.zip ds).foldl (λσ p=>σ.set p.1 (v.sub p.2).slot) σ) else .bad
  | _=>.bad
def cY(f:Vl->R (Option Vl)):List Vl->R (List Vl)
 | []=>.ok []
 | x::xs=>do
  let y<-f x
  let ys<-cY f xs
  match y with
  | some y=>.ok (y::ys)
  | none=>.ok ys
def fX:D->Option (List D)
 | .lst ds=>some ds
 | .tup ds=>some ds
 | _=>none
def items(x:Vl)(ds:List D):List Vl:=ds.map x.sub
def aCd:List D->Option (List (List Int))
 | []=>some []
 | .tup as::ds=>match wM as,aCd ds with
  | some a,some r=>some (a::r)
  | _,_=>none
 | _=>none
def wU:D->Option (List (List Int))
 | .tup ds=>aCd ds
 | _=>none
def aFv(ks:List (List (List Int)×D))(k:List (List Int)×D):List (List (List Int)×D):=if k.1∈ks.map (·.1) then ks.map (λx=>if x.1=k.1 then (x.1,k.2) else x) else ks++[k]
def aFw:D->Bool
 | .int _|.bl _=>true
 | _=>false
def aFx(ks:List (List (List Int)×D))(k:List (List Int)):Option D:=(ks.find? λx=>decide (x.1=k)).map (·.2)
def wV:List D->Option (List (List (List Int)×D))
 | []=>some []
 | .tup [k,v]::ds=>match wU k,aFw v,wV ds with
  | some a,true,some r=>some ((a,v)::r)
  | _,_,_=>none
 | _=>none
def dP(k:Nat)(caps al:List Nat)(vs:List Vl):Vl:=
 if noLs (vs.map (·.d)) then ⟨.lst (vs.map (·.d)),true,false,[]⟩
 else ⟨.lst (vs.map (·.d)),true,dO vs,al++(bI vs).filterMap λj=>caps[j-k]?⟩
def aFy(σ:Sg)(i:Nat):R D:=match σ[i]? with
 | some (.par ds es)=>.ok (.lst [.lst ds,.lst es])
 | _=>.bad
def wW(r:Rt):R Vl:=.iff (noL r.1&&!r.2.1) (.ok (.cl r.1))
def frD(v:Vl):Option (List D):=match v.fr,v.d with
 | true,.lst ds=>if noLs ds then some ds else none
 | _,_=>none
def aFz(σ:Sg):Bool:=σ.all λs=>match s with
 | .par _ _=>false
 | _=>true
def aFA(z:Bool)(f:List D->List D)(ds es:List D):Sl:=if z then .par ds (f es) else .par (f ds) es
def aCe(x y:Vl)(ds:List D):Vl:=if noLs ds then ⟨.lst ds,true,false,[]⟩ else ⟨.lst ds,true,x.pa||y.pa,x.al++y.al⟩
section
variable (P:Pg) (cl:Caller)
mutual
def ev(σ:Sg):E->R Vl
 | .c d=>.ok (.cl d)
 | .v i=>bH σ i
 | .op o a b=>do let x<-ev σ a;let y<-ev σ b;opD o x y
 | .neg a=>do
  let x<-ev σ a
  match x.d with
  | .int i=>.ok (.cl (.int (-i)))
  | _=>.bad
 | .nt a=>do let x<-ev σ a;let k<-dG x;.ok (.cl (.bl (!k)))
 | .an a b=>do
  let x<-ev σ a
  match x.d with
  | .bl true=>ev σ b
  | .bl false=>.ok (.cl (.bl false))
  | _=>.bad
 | .orr a b=>do
  let x<-ev σ a
  match x.d with
  | .bl true=>.ok (.cl (.bl true))
  | .bl false=>ev σ b
  | _=>.bad
 | .ife t a b=>do
  let x<-tst σ t
  if x then ev σ a else ev σ b
 | .cmp o a b=>do
  let x<-ev σ a
  let y<-ev σ b
  match bP o x.d y.d with
  | some k=>.ok (.cl (.bl k))
  | none=>.bad
 | .cmp2 o o' a b c=>do
  let x<-ev σ a
  let y<-ev σ b
  match bP o x.d y.d with
  | some true=>do
   let z<-ev σ c
   match bP o' y.d z.d with
   | some k=>.ok (.cl (.bl k))
   | none=>.bad
  | some false=>.ok (.cl (.bl false))
  | none=>.bad
 | .idx a b=>do let x<-ev σ a;let y<-ev σ b;eE x y
 | .sli a lo hi=>do
  let x<-ev σ a
  let l<-evs σ lo
  let h<-evs σ hi
  match l,h with
  | [],[]=>cH x none none
  | [l],[]=>match l.d with
   | .int l=>.iff (aF l) (cH x (some l) none)
   | _=>.bad
  | [],[h]=>match h.d with
   | .int h=>.iff (aF h) (cH x none (some h))
   | _=>.bad
  | [l],[h]=>match l.d,h.d with
   | .int l,.int h=>.iff (aF l&&aF h) (cH x (some l) (some h))
   | _,_=>.bad
  | _,_=>.bad
 | .tup es=>do let vs<-evs σ es;.ok (nZ vs)
 | .lst es=>do let vs<-evs σ es;.ok (lB vs)
 | .dic ks vs=>do
  let ks<-evs σ ks
  let vs<-evs σ vs
  match (ks.map (λ(v:Vl)=>v.d):List D),(vs.map (λ(v:Vl)=>v.d):List D) with
  | [.int k],[.int v]=>.ok (.cl (.dic [(.int k,.int v)]))
  | [.str k],[.int v]=>.ok (.cl (.dic [(.str k,.int v)]))
  | [],[]=>.ok (.cl (.dic []))
  | _,_=>.bad
 | .call f es=>do
  let vs<-evs σ es
  let r<-cl f (vs.map (·.d))
  .ok (eF vs r)
 | .bi b es=>do let vs<-evs σ es;biD b vs
 | .mth m o es=>do let x<-ev σ o;let ys<-evs σ es;mtD m x ys
 | .isi a cs=>do
  let x<-ev σ a
  match isI cs P x.d with
  | some k=>.ok (.cl (.bl k))
  | none=>.bad
 | .isx a cs=>do
  let x<-ev σ a
  match isX cs P x.d with
  | some k=>.ok (.cl (.bl k))
  | none=>.bad
 | .comp k caps t it cond elt=>do
  let xs<-walk σ it
  .iff (decide (xs.1.length<=lim)) (do
   let vs<-cY (λx=>do
    let σ1<-bM (List.replicate k .dead++caps.map λi=>((freeze σ xs.2)[i]?).getD .dead) x t
    let k<-(tsts σ1 cond).calm
    if k then do let y<-ev σ1 elt;.ok (some y) else .ok none) xs.1
   .ok (dP k caps xs.2 vs))
 | .numset a=>do
  let x<-ev σ a
  match x.d with
  | .lst ds=>match mX ds with
   | some ks=>.iff (decide (ds.length<=1000)) (.ok (.cl (.int (wN ks).length)))
   | none=>.bad
  | _=>.bad
 | .tget i a=>do
  let x<-ev σ a
  match x.d,P.tabs[i]? with
  | .str k,some t=>.ok (.cl ((t.lookup k).getD .non))
  | _,_=>.bad
 | .lzip a b=>do
  let x<-ev σ a
  let y<-ev σ b
  match fX x.d,fX y.d with
  | some as,some bs=>.iff (decide (as.length<=lim)) (.ok (aCe x y (fK as bs)))
  | _,_=>.bad
 | .dnin a j=>do
  let x<-ev σ a
  match σ[j]?,wU x.d with
  | some (.dct ks),some k=>.ok (.cl (.bl (!decide (k∈ks.map (·.1)))))
  | _,_=>.bad
 | .dget j a=>do
  let x<-(ev σ a).calm
  match σ[j]?,wU x.d with
  | some (.dct ks),some k=>(match aFx ks k with
   | some d=>.iff (aFw d) (.ok (.cl d))
   | none=>.bad)
  | _,_=>.bad
 | .dlen j=>match σ[j]? with
  | some (.dct ks)=>.ok (.cl (.int ks.length))
  | _=>.bad
 | .callP f i es=>do
  let vs<-(evs σ es).calm
  let d<-aFy σ i
  let r<-(cl f (d::vs.map (·.d))).calm
  wW r
def tst(σ:Sg):E->R Bool
 | .nt a=>do let x<-tst σ a;.ok (!x)
 | .an a b=>do
  let x<-tst σ a
  if x then tst σ b else .ok false
 | .orr a b=>do
  let x<-tst σ a
  if x then .ok true else tst σ b
 | .c d=>dG (.cl d)
 | .v i=>do let x<-bH σ i;dG x
 | .cmp o a b=>do
  let x<-ev σ a
  let y<-ev σ b
  match bP o x.d y.d with
  | some k=>.ok k
  | none=>.bad
 | .cmp2 o o' a b c=>do
  let x<-ev σ a
  let y<-ev σ b
  match bP o x.d y.d with
  | some true=>do
   let z<-ev σ c
   match bP o' y.d z.d with
   | some k=>.ok k
   | none=>.bad
  | some false=>.ok false
  | none=>.bad
 | .call f es=>do
  let vs<-evs σ es
  let r<-cl f (vs.map (·.d))
  dG (eF vs r)
 | .bi b es=>do let vs<-evs σ es;let x<-biD b vs;dG x
 | .mth m o es=>do let x<-ev σ o;let ys<-evs σ es;let z<-mtD m x ys;dG z
 | .idx a b=>do let x<-ev σ a;let y<-ev σ b;let z<-eE x y;dG z
 | .isi a cs=>do
  let x<-ev σ a
  match isI cs P x.d with
  | some k=>.ok k
  | none=>.bad
 | .dnin a j=>do
  let x<-ev σ a
  match σ[j]?,wU x.d with
  | some (.dct ks),some k=>.ok (!decide (k∈ks.map (·.1)))
  | _,_=>.bad
 | .callP f i es=>do
  let vs<-(evs σ es).calm
  let d<-aFy σ i
  let r<-(cl f (d::vs.map (·.d))).calm
  let x<-wW r
  dG x
 | .isx a cs=>do
  let x<-ev σ a
  match isX cs P x.d with
  | some k=>.ok k
  | none=>.bad
 | _=>.bad
def evs(σ:Sg):Es->R (List Vl)
 | .nil=>.ok []
 | .cons e es=>do let x<-ev σ e;let xs<-evs σ es;.ok (x::xs)
def walk(σ:Sg):It->R (List Vl×List Nat)
 | .seq e=>do
  let x<-ev σ e
  match x.d with
  | .lst ds=>.ok (items x ds,x.al)
  | .tup ds=>.ok (items x ds,x.al)
  | .str a=>.iff (decide (a.length<=lim)) (.ok (a.cps.toList.map λn=>.cl (.str ⟨#[n]⟩),[]))
  | _=>.bad
 | .rng a b=>do
  let x<-ev σ a
  let y<-ev σ b
  match x.d,y.d with
  | .int i,.int j=>.iff (aF i&&aF j) (.ok ((dW i j).map .cl,[]))
  | _,_=>.bad
 | .zip a b=>do
  let x<-ev σ a
  let y<-ev σ b
  match fX x.d,fX y.d with
  | some as,some bs=>.ok (items ⟨.non,false,x.pa||y.pa,x.al++y.al⟩ (fK as bs),x.al++y.al)
  | _,_=>.bad
 | .enum a=>do
  let x<-ev σ a
  match fX x.d with
  | some as=>.ok (items x (aCc 0 as),x.al)
  | none=>.bad
 | .rev a=>do
  let x<-ev σ a
  match fX x.d with
  | some as=>.ok (items x as.reverse,x.al)
  | none=>.bad
def tsts(σ:Sg):Es->R Bool
 | .nil=>.ok true
 | .cons e es=>do
  let x<-tst σ e
  if x then tsts σ es else .ok false
end
inductive O where
 | next (σ:Sg)|brk (σ:Sg)|cnt (σ:Sg)|ret (v:Vl)|exc (x:D) (σ:Sg)|bad
 deriving Inhabited
def O.from{α:Type}(σ:Sg)(x:R α)(f:α->O):O:=match x with
 | .ok a=>f a
 | .exc e=>.exc e σ
 | .bad=>.bad
def O.on(o:O)(f:Sg->O):O:=match o with
 | .next σ=>f σ
 | o=>o
def bO(f:Sg->Vl->O):List Vl->Sg->O
 | [],σ=>.next σ
 | x::xs,σ=>match f σ x with
  | .next σ'=>bO f xs σ'
  | .cnt σ'=>bO f xs σ'
  | .brk σ'=>.next σ'
  | o=>o
def wX(t:Sg->R Bool)(f:Sg->O):Nat->Sg->O
 | 0,_=>.bad
 | n+1,σ=>O.from σ (t σ) λk=>if k then (match f σ with
     | .next σ'=>wX t f n σ'
     | .cnt σ'=>wX t f n σ'
     | .brk σ'=>.next σ'
     | o=>o) else .next σ
def aFB:Nat:=1000000
def oA(σ:Sg)(i:Nat):Option (Bool×List D):=match σ[i]? with
 | some (.own pa ds)=>some (pa,ds)
 | _=>none
def put(σ:Sg)(i:Nat)(v:Vl)(f:List D->Option (List D)):O:=match oA (freeze σ v.al) i with
 | some (pa,ds)=>match f ds with
  | some ds'=>if ds'.length<=lim then .next ((freeze σ v.al).set i (.own (pa||v.pa) ds')) else .bad
  | none=>.bad
 | none=>.bad
def aCf(σ:Sg)(i:Nat)(v:Vl):O:=put σ i v λds=>some (ds++[v.d])
def aCg(v:Vl):Option (Vl×List D):=match v.fr,v.d with
 | true,.lst ds=>some (⟨.non,false,v.pa&&!noLs ds,if noLs ds then [] else v.al⟩,ds)
 | _,_=>none
def wY(σ:Sg)(i:Nat)(k:Option Int):R (Vl×Sg):=match oA σ i with
 | some (pa,ds)=>match (match k with|none=>ixN ds.length (-1)|some k=>ixN ds.length k) with
  | some j=>match ds[j]? with
   | some d=>.ok (Vl.sub ⟨.non,false,pa,[]⟩ d,σ.set i (.own pa (ds.eraseIdx j)))
   | none=>.bad
  | none=>.bad
 | none=>.bad
def qJ(e:Sg->E->R Vl):Sg->List Vl->List Arg->R (List Vl×Sg)
 | σ,acc,[]=>.ok (acc,σ)
 | σ,acc,.e a::as=>do let x<-e σ a;qJ e σ (acc++[x]) as
 | σ,acc,.pop j::as=>do
  let (x,σ')<-wY σ j none
  if (bI acc).contains j then .bad else qJ e σ' (acc++[x]) as
def aFC(e:Option (R Vl)):R (Option Int):=match e with
 | none=>.ok none
 | some x=>do
  let v<-x
  match v.d with
  | .int k=>.iff (aF k) (.ok (some k))
  | _=>.bad
mutual
def ex(σ:Sg):S->O
 | .set t e=>O.from σ (ev P cl σ e) λv=>O.from σ (bM (freeze σ v.al) v t) .next
 | .mov i j=>match σ[j]? with
  | some (.own pa ds)=>if i=j then .bad else .next ((σ.set j .dead).set i (.own pa ds))
  | some (.sh pa d)=>.next (σ.set i (.sh (pa&&!noL d) d))
  | _=>.bad
 | .setIx i k e=>O.from σ (ev P cl σ e) λv=>O.from σ (ev P cl σ k).calm λkv=>match kv.d with
  | .int k=>put σ i v λds=>match ixN ds.length k with
   | some j=>some (ds.set j v.d)
   | none=>none
  | _=>.bad
 | .app i e=>O.from σ (ev P cl σ e).calm λv=>aCf σ i v
 | .ext i e=>O.from σ (ev P cl σ e).calm λv=>match aCg v with
  | some (v',ds')=>put σ i v' λds=>some (ds++ds')
  | none=>.bad
 | .pop t i k=>O.from σ (aFC (k.map λe=>(ev P cl σ e).calm)) λk=>O.from σ (wY σ i k) λ(v,σ')=>match t with
  | none=>.next σ'
  | some t=>O.from σ' (bM σ' v t) .next
 | .clr i=>put σ i (.cl .non) λ_=>some []
 | .ins i k e=>O.from σ (ev P cl σ k).calm λkv=>O.from σ (ev P cl σ e).calm λv=>match kv.d with
  | .int k=>if 0<=k/\k<1000000 then put σ i v λds=>some (ds.take k.toNat++v.d::ds.drop k.toNat) else .bad
  | _=>.bad
 | .rev i=>put σ i (.cl .non) λds=>some ds.reverse
 | .appCall i f as=>O.from σ (qJ (λσ a=>ev P cl σ a) σ [] as).calm λ(vs,σ')=>O.from σ' (cl f (vs.map (·.d))).calm λr=>aCf σ' i (eF vs r)
 | .ret e=>O.from σ (ev P cl σ e) .ret
 | .retv i=>match σ[i]? with
  | some (.own pa ds)=>.ret ⟨.lst ds,true,pa,[]⟩
  | _=>O.from σ (bH σ i) .ret
 | .retN=>.ret (.cl .non)
 | .iff c a b=>O.from σ (tst P cl σ c) λk=>if k then exs σ a else exs σ b
 | .for t it b=>O.from σ (walk P cl σ it) λxs=>bO (λσ x=>O.from σ (bM σ x t) λσ'=>exs σ' b) xs.1 (freeze σ xs.2)
 | .whl c b=>wX (λσ=>tst P cl σ c) (λσ=>exs σ b) aFB σ
 | .brk=>.brk σ
 | .cnt=>.cnt σ
 | .pass=>.next σ
 | .off=>.bad
 | .ex e=>O.from σ (ev P cl σ e) λ_=>.next σ
 | .dnew i=>.next (σ.set i (.dct []))
 | .dput i e=>O.from σ (ev P cl σ e).calm λv=>match σ[i]?,wU v.d with
  | some (.dct ks),some k=>if ks.length<lim then .next (σ.set i (.dct (aFv ks (k,.bl true)))) else .bad
  | _,_=>.bad
 | .dfrom i e=>O.from σ (ev P cl σ e).calm λv=>match v.fr,v.d with
  | true,.lst ds=>(match wV ds with
   | some ks=>.next (σ.set i (.dct (ks.foldl aFv [])))
   | none=>.bad)
  | _,_=>.bad
 | .two i a b=>O.from σ (ev P cl σ a).calm λx=>O.from σ (ev P cl σ b).calm λy=>match frD x,frD y,aFz σ with
  | some ds,some es,true=>.next (σ.set i (.par ds es))
  | _,_,_=>.bad
 | .appP i z e=>O.from σ (ev P cl σ e).calm λv=>match σ[i]?,noL v.d with
  | some (.par ds es),true=>if ds.length<lim/\es.length<lim then .next (σ.set i (aFA z (·++[v.d]) ds es)) else .bad
  | _,_=>.bad
 | .clrP i z=>match σ[i]? with
  | some (.par ds es)=>.next (σ.set i (aFA z (λ_=>[]) ds es))
  | _=>.bad
 | .rse c keep es=>O.from σ (evs P cl σ es) λvs=>.exc (.err c (if keep then vs.map (·.d) else [])) σ
 | .tryAs b c i j=>match exs σ b with
  | .exc x σ'=>match isX [.own c] P x with
   | some true=>.next ((σ'.set i (.sh true x)).set j .dead)
   | _=>.bad
  | o=>o
def exs(σ:Sg):Ss->O
 | .nil=>.next σ
 | .cons s ss=>(ex σ s).on λσ'=>exs σ' ss
end
def jN(f:Nat)(ds:List D):R Rt:=match P.fns[f]? with
 | none=>.bad
 | some F=>if ds.length=F.np then
  match exs P cl ((ds.map λd=>Sl.sh true d)++List.replicate (F.ns-F.np) Sl.dead) F.body with
  | .ret v=>.ok (v.d,v.fr,v.pa)
  | .next _=>.ok (.non,false,false)
  | .exc x _=>.exc x
  | _=>.bad
  else .bad
end
def call(P:Pg):Nat->Caller
 | 0=>λ_ _=>.bad
 | n+1=>jN P (call P n)
end Hp
end
noncomputable section
namespace L2
open PySem PySem.Spec PyProof.Rows
section
variable {prog:Program} {w:World} {K:Type} [DecidableEq K] (knd:HeapKind prog w K)
inductive bJ (h:Heap):List K->List Value->Prop
 | nil:bJ h [] []
 | cons {k:K} {a:Addr} {ks:List K} {vs:List Value}:knd.is h k a->bJ h ks vs->bJ h (k::ks) (.ref a::vs)
def eH(h:Heap)(ks:List K)(a:Addr):Prop:=∃o its n,h.get? a=some o/\o.cls=.type "tuple" /\ o.data=.seq its n/\bJ knd h ks its.toList
variable {knd}
theorem bJ.inj{h:Heap}:∀{x y:List K} {vs:List Value},bJ knd h x vs->bJ knd h y vs->x=y
 | _,_,_,.nil,hy=>by cases hy;rfl
 | _,_,_,.cons h1 t,hy=>by
  cases hy with
  | cons h2 t2=>rw[knd.inj h1 h2,t.inj t2]
theorem bJ.keeps{h h':Heap}{d:Addr}{o:Obj}{es ep}(ho:h.get? d=some o)(hd:o.data=.dict es ep)(hs:Heap.SameBut d h h'):∀{x:List K} {vs:List Value},bJ knd h x vs->bJ knd h' x vs
 | _,_,.nil=>.nil
 | _,_,.cons h1 t=>.cons (knd.keeps h1 ho hd hs) (t.keeps ho hd hs)
theorem eH.typeIs{s:Shared}{ks:List K}{a:Addr}(x:eH knd s.heap ks a):s.TypeIs (.ref a) "tuple" := let ⟨o,_,_,ho,hc,_⟩:=x;⟨o,ho,hc⟩
variable {A:Around} {E:Value->Shared->Prop} {s:Shared}
theorem eH.inj{h:Heap}{a:Addr}{x y:List K}(hx:eH knd h x a)(hy:eH knd h y a):x=y:=by
 obtain⟨o,its,n,ho,_,hd,hi⟩:=hx
 obtain⟨o',its',n',ho',_,hd',hi'⟩:=hy
 rw[ho] at ho'
 cases ho'
 rw[hd] at hd'
 cases hd'
 exact hi.inj hi'
end
section
variable {prog:Program} {w:World} {A:Around} {E:Value->Shared->Prop} {s:Shared}
end
abbrev NK:=List (List Int)
abbrev NE:=NK×Addr×V
abbrev pj(x:NE):NK×V:=(x.1,x.2.2)
def aHZ(x:NE)(e:NK×Addr×Value):Prop:=e.1=x.1/\e.2.1=x.2.1/\aR x.2.2 e.2.2
def nkH(k:NK):Int:=reduceHash (Builtin.Tuple.tupleHashOf (k.map λk=>reduceHash (Builtin.Tuple.tupleHashOf (k.map hashInt))))
def aIa(x:NK×Addr×Value):DictEntry:=⟨nkH x.1,.ref x.2.1,x.2.2⟩
def aFD(a:Addr)(xs:List NE)(h:Heap):Prop:=
 (a==sysModules)=false/\xs.length<=sizeLine/\∃o es ep vs,h.get? a=some o/\o.ExactDict/\o.data=.dict es ep/\es.toList=vs.map aIa/\Paired aHZ xs vs/\(xs.map (·.1)).Nodup
abbrev eI(a:Addr)(xs:List NE):HO:=.ext (aFD a xs)
def oD(K:PySem.W.Frag)(H:Hp)(k:NK)(b:Addr):Prop:=∃bs:List Addr,SqT K H b (bs.map V.ref)/\Paired (λis c=>SqT K H c (is.map V.int)) k bs
section
variable {X:Cx} {pins:List (Addr×Obj)} {σ:St} {H:Hp} {s:Shared}
end
end L2
end
noncomputable section
namespace Hp
open PySem L2
abbrev Fg:=PySem.W.Frag
def _root_.L2.excO(a C:Addr):HO:=.ext λh=>∃o,PySem.W.InstAt h a o C none
theorem aDl(a C:Addr)(xs:List NE):excO a C≠eI a xs:=λe=>by
 have e:=HO.ext.inj e
 let o:Obj:={ cls:=.ref C,dict:=none,data:=.plain }
 let h:Heap:={ (default:Heap) with objs:=Array.replicate (a+1) o }
 have g:h.get? a=some o:=by
  have e:(Array.replicate (a+1) o)[a]? = some o:=by rw[Array.getElem?_replicate,if_pos (Nat.lt_succ_self _)]
  show(match (Array.replicate (a+1) o)[a]? with|some ⟨_,_,.freed,_⟩=>none|r=>r)=some o
  rw[e]
 have h1:∃o,PySem.W.InstAt h a o C none:=⟨o,g,rfl,rfl,trivial⟩
 have h2:aFD a xs h:=by rw[<-e];exact h1
 obtain⟨_,_,o2,es,ep,vs,g2,x,_⟩:=h2
 rw[g] at g2
 cases g2
 cases x.1
def kD:Key->D
 | .inl i=>.int i
 | .inr x=>.str x
mutual
def Rep(K:Fg)(H:Hp)(ex:Addr->Prop):D->V->Prop
 | .non,v=>v=.non
 | .bl b,v=>v=.bl b
 | .int i,v=>v=.int i
 | .str x,v=>v=.str x
 | .tup ds,v=>∃a xs,v=.ref a/\SqT K H a xs/\Reps K H ex ds xs
 | .lst ds,v=>∃a xs,v=.ref a/\SqL K H a xs/\¬ ex a/\Reps K H ex ds xs
 | .dic kvs,v=>∃a ks,v=.ref a/\H a=some (.dK ks)/\RepKV K H ex kvs ks
 | .err c _,v=>∃a C1,v=.ref a/\H a=some (excO a C1)/\PySem.W.nsIn K mainGlobals c=some (some (.ref C1))
def Reps(K:Fg)(H:Hp)(ex:Addr->Prop):List D->List V->Prop
 | [],xs=>xs=[]
 | d::ds,xs=>∃x r,xs=x::r/\Rep K H ex d x/\Reps K H ex ds r
def RepKV(K:Fg)(H:Hp)(ex:Addr->Prop):List (D×D)->List (Key×V)->Prop
 | [],ks=>ks=[]
 | (k,d)::r,ks=>∃k' x r',ks=(k',x)::r'/\kD k'=k/\Rep K H ex d x/\RepKV K H ex r r'
end
section
variable {K:Fg} {H H':Hp} {ex ex':Addr->Prop}
theorem aG.seqT{a:Addr}{xs:List V}(e:aG H H')(h:SqT K H a xs):SqT K H' a xs:=by
 rcases h with(h|⟨o,h⟩)|h
 . exact .inl (.inl (e _ _ h))
 . exact .inl (.inr ⟨o,e _ _ h⟩)
 . exact .inr h
mutual
theorem Rep.imp(hT:∀a xs,SqT K H a xs->SqT K H' a xs)(hL:∀a xs,¬ ex a->SqL K H a xs->¬ ex' a/\SqL K H' a xs)(hD:∀a o,(∀xs,o≠.lst xs)->(∀xs,o≠eI a xs)->H a=some o->H' a=some o) :
 ∀(d:D) (v:V),Rep K H ex d v->Rep K H' ex' d v
 | .non,_,h=>h
 | .bl _,_,h=>h
 | .int _,_,h=>h
 | .str _,_,h=>h
 | .tup ds,_,h=>by
  obtain⟨a,xs,e,q,r⟩:=h
  exact⟨a,xs,e,hT a xs q,Reps.imp hT hL hD ds xs r⟩
 | .lst ds,_,h=>by
  obtain⟨a,xs,e,q,n,r⟩:=h
  obtain⟨n',q'⟩:=hL a xs n q
  exact⟨a,xs,e,q',n',Reps.imp hT hL hD ds xs r⟩
 | .dic kvs,_,h=>by
  obtain⟨a,ks,e,q,r⟩:=h
  exact⟨a,ks,e,hD a _ (λ_ z=>nomatch z) (λ_ z=>nomatch z) q,RepKV.imp hT hL hD kvs ks r⟩
 | .err _ _,_,h=>by
  obtain⟨a,C1,e,q,r⟩:=h
  exact⟨a,C1,e,hD a _ (λ_ z=>nomatch z) (λxs=>aDl a C1 xs) q,r⟩
theorem Reps.imp(hT:∀a xs,SqT K H a xs->SqT K H' a xs)(hL:∀a xs,¬ ex a->SqL K H a xs->¬ ex' a/\SqL K H' a xs)(hD:∀a o,(∀xs,o≠.lst xs)->(∀xs,o≠eI a xs)->H a=some o->H' a=some o) :
 ∀(ds:List D) (xs:List V),Reps K H ex ds xs->Reps K H' ex' ds xs
 | [],_,h=>h
 | d::ds,_,h=>by
  obtain⟨x,r,e,h1,h2⟩:=h
  exact⟨x,r,e,Rep.imp hT hL hD d x h1,Reps.imp hT hL hD ds r h2⟩
theorem RepKV.imp(hT:∀a xs,SqT K H a xs->SqT K H' a xs)(hL:∀a xs,¬ ex a->SqL K H a xs->¬ ex' a/\SqL K H' a xs)(hD:∀a o,(∀xs,o≠.lst xs)->(∀xs,o≠eI a xs)->H a=some o->H' a=some o) :
 ∀(ds:List (D×D)) (xs:List (Key×V)),RepKV K H ex ds xs->RepKV K H' ex' ds xs
 | [],_,h=>h
 | (k,d)::ds,_,h=>by
  obtain⟨k',x,r,e,ek,h1,h2⟩:=h
  exact⟨k',x,r,e,ek,Rep.imp hT hL hD d x h1,RepKV.imp hT hL hD ds r h2⟩
end
theorem Rep.weak{d:D}{v:V}(h:Rep K H ex d v)(e:∀a,ex' a->ex a):Rep K H ex' d v:=Rep.imp (λ_ _ q=>q) (λa _ n q=>⟨λz=>n (e a z),q⟩) (λ_ _ _ _ q=>q) d v h
theorem Reps.weak{d:List D}{v:List V}(h:Reps K H ex d v)(e:∀a,ex' a->ex a):Reps K H ex' d v:=Reps.imp (λ_ _ q=>q) (λa _ n q=>⟨λz=>n (e a z),q⟩) (λ_ _ _ _ q=>q) d v h
theorem Rep.grow{d:D}{v:V}(h:Rep K H ex d v)(s:aG H H'):Rep K H' ex d v:=Rep.imp (λ_ _ q=>aG.seqT s q) (λ_ _ n q=>⟨n,s.seq q⟩) (λ_ _ _ _ q=>s _ _ q) d v h
theorem Reps.grow{d:List D}{v:List V}(h:Reps K H ex d v)(s:aG H H'):Reps K H' ex d v:=Reps.imp (λ_ _ q=>aG.seqT s q) (λ_ _ n q=>⟨n,s.seq q⟩) (λ_ _ _ _ q=>s _ _ q) d v h
theorem Rep.keep{d:D}{v:V}(h:Rep K H ex d v)(s:∀a o,H a=some o->(∀xs,o=.lst xs->¬ ex a)->(∀xs,o≠eI a xs)->H' a=some o):Rep K H' ex d v:=by
 refine Rep.imp (λa xs q=>?_) (λa xs n q=>⟨n,?_⟩) (λa o nl nd q=>s a _ q (λxs e=>absurd e (nl xs)) nd) d v h
 . rcases q with(q|⟨o,q⟩)|q
   . exact .inl (.inl (s _ _ q (λxs e=>by cases e) (λ_ z=>by cases z)))
   . exact .inl (.inr ⟨o,s _ _ q (λxs e=>by cases e) (λ_ z=>by cases z)⟩)
   . exact .inr q
 . rcases q with(q|⟨o,q⟩)|q
   . exact .inl (.inl (s _ _ q (λ_ _=>n) (λ_ z=>by cases z)))
   . exact .inl (.inr ⟨o,s _ _ q (λxs e=>by cases e) (λ_ z=>by cases z)⟩)
   . exact .inr q
theorem Reps.keep{d:List D}{v:List V}(h:Reps K H ex d v)(s:∀a o,H a=some o->(∀xs,o=.lst xs->¬ ex a)->(∀xs,o≠eI a xs)->H' a=some o):Reps K H' ex d v:=by
 refine Reps.imp (λa xs q=>?_) (λa xs n q=>⟨n,?_⟩) (λa o nl nd q=>s a _ q (λxs e=>absurd e (nl xs)) nd) d v h
 . rcases q with(q|⟨o,q⟩)|q
   . exact .inl (.inl (s _ _ q (λxs e=>by cases e) (λ_ z=>by cases z)))
   . exact .inl (.inr ⟨o,s _ _ q (λxs e=>by cases e) (λ_ z=>by cases z)⟩)
   . exact .inr q
 . rcases q with(q|⟨o,q⟩)|q
   . exact .inl (.inl (s _ _ q (λ_ _=>n) (λ_ z=>by cases z)))
   . exact .inl (.inr ⟨o,s _ _ q (λxs e=>by cases e) (λ_ z=>by cases z)⟩)
   . exact .inr q
mutual
theorem Rep.free:∀(d:D) (v:V),noL d=true->Rep K H ex d v->Rep K H ex' d v
 | .non,_,_,h=>h
 | .bl _,_,_,h=>h
 | .int _,_,_,h=>h
 | .str _,_,_,h=>h
 | .tup ds,_,n,h=>by
  obtain⟨a,xs,e,q,r⟩:=h
  exact⟨a,xs,e,q,Reps.free ds xs (by simpa[noL] using n) r⟩
 | .lst ds,_,n,_=>by simp[noL] at n
 | .dic kvs,_,n,_=>by simp[noL] at n
 | .err _ _,_,n,_=>by simp[noL] at n
theorem Reps.free:∀(ds:List D) (xs:List V),noLs ds=true->Reps K H ex ds xs->Reps K H ex' ds xs
 | [],_,_,h=>h
 | d::ds,_,n,h=>by
  obtain⟨x,r,e,h1,h2⟩:=h
  simp only[noLs,bA] at n
  exact⟨x,r,e,Rep.free d x n.1 h1,Reps.free ds r n.2 h2⟩
end
theorem Reps.length:∀{ds:List D} {xs:List V},Reps K H ex ds xs->ds.length=xs.length
 | [],_,h=>by rw[show _=[] from h];rfl
 | d::ds,_,h=>by
  obtain⟨x,r,e,_,h2⟩:=h
  subst e
  rw[lC,lC,Reps.length h2]
theorem Reps.get:∀{ds:List D} {xs:List V} {j:Nat} {d:D},Reps K H ex ds xs->ds[j]? = some d->∃x,xs[j]? = some x/\Rep K H ex d x
 | [],_,_,_,_,e=>by simp at e
 | d::ds,_,0,_,h,e=>by
  obtain⟨x,r,e',h1,_⟩:=h
  subst e'
  simp at e
  subst e
  exact⟨x,rfl,h1⟩
 | d::ds,_,j+1,d',h,e=>by
  obtain⟨x,r,e',_,h2⟩:=h
  subst e'
  obtain⟨y,hy,q⟩:=Reps.get (j:=j) (d:=d') h2 (by simpa using e)
  exact⟨y,by simpa using hy,q⟩
theorem Reps.get'{ds:List D}{xs:List V}{j:Nat}{x:V}(h:Reps K H ex ds xs)(e:xs[j]? = some x):∃d,ds[j]? = some d/\Rep K H ex d x:=by
 have hl:=h.length
 have hj:j<xs.length:=(List.getElem?_eq_some_iff.mp e).1
 obtain⟨d,hd⟩:∃d,ds[j]? = some d:=⟨ds[j],List.getElem?_eq_getElem (by omega)⟩
 obtain⟨y,hy,q⟩:=h.get hd
 rw[e] at hy
 cases hy
 exact⟨d,hd,q⟩
theorem Reps.nil:Reps K H ex [] []:=rfl
theorem Reps.cons{d:D}{ds:List D}{x:V}{xs:List V}(h:Rep K H ex d x)(t:Reps K H ex ds xs):Reps K H ex (d::ds) (x::xs):=⟨x,xs,rfl,h,t⟩
theorem Reps.append:∀{ds es:List D} {xs ys:List V},Reps K H ex ds xs->Reps K H ex es ys->Reps K H ex (ds++es) (xs++ys)
 | [],_,_,_,h,t=>by rw[show _=[] from h];exact t
 | d::ds,_,_,_,h,t=>by
  obtain⟨x,r,e,h1,h2⟩:=h
  subst e
  exact⟨x,_,rfl,h1,Reps.append h2 t⟩
theorem Reps.take:∀{ds:List D} {xs:List V} (n:Nat),Reps K H ex ds xs->Reps K H ex (ds.take n) (xs.take n)
 | _,_,0,_=>by simp[Reps]
 | [],_,n+1,h=>by rw[show _=[] from h];simp[Reps]
 | d::ds,_,n+1,h=>by
  obtain⟨x,r,e,h1,h2⟩:=h
  subst e
  exact⟨x,_,rfl,h1,Reps.take n h2⟩
theorem Reps.drop:∀{ds:List D} {xs:List V} (n:Nat),Reps K H ex ds xs->Reps K H ex (ds.drop n) (xs.drop n)
 | _,_,0,h=>h
 | [],_,n+1,h=>by rw[show _=[] from h];simp[Reps]
 | d::ds,_,n+1,h=>by
  obtain⟨x,r,e,h1,h2⟩:=h
  subst e
  exact Reps.drop n h2
theorem Reps.set:∀{ds:List D} {xs:List V} {d:D} {x:V} (j:Nat),Reps K H ex ds xs->Rep K H ex d x->Reps K H ex (ds.set j d) (xs.set j x)
 | [],_,_,_,_,h,_=>by rw[show _=[] from h];simp[Reps]
 | d::ds,_,_,_,0,h,q=>by
  obtain⟨x,r,e,h1,h2⟩:=h
  subst e
  exact⟨_,_,rfl,q,h2⟩
 | d::ds,_,_,_,j+1,h,q=>by
  obtain⟨x,r,e,h1,h2⟩:=h
  subst e
  exact⟨x,_,rfl,h1,Reps.set j h2 q⟩
theorem Reps.eraseIdx:∀{ds:List D} {xs:List V} (j:Nat),Reps K H ex ds xs->Reps K H ex (ds.eraseIdx j) (xs.eraseIdx j)
 | [],_,_,h=>by rw[show _=[] from h];simp[Reps]
 | d::ds,_,0,h=>by
  obtain⟨x,r,e,h1,h2⟩:=h
  subst e
  exact h2
 | d::ds,_,j+1,h=>by
  obtain⟨x,r,e,h1,h2⟩:=h
  subst e
  exact⟨x,_,rfl,h1,Reps.eraseIdx j h2⟩
theorem Reps.reverse:∀{ds:List D} {xs:List V},Reps K H ex ds xs->Reps K H ex ds.reverse xs.reverse
 | [],_,h=>by rw[show _=[] from h];simp[Reps]
 | d::ds,_,h=>by
  obtain⟨x,r,e,h1,h2⟩:=h
  subst e
  rw[List.reverse_cons,List.reverse_cons]
  exact(Reps.reverse h2).append (.cons h1 .nil)
theorem Reps.flat:∀{ds:List D} {xs:List V},Reps K H ex ds xs->∀k:Nat,Reps K H ex (List.replicate k ds).flatten (List.replicate k xs).flatten
 | _,_,_,0=>by simp[Reps]
 | ds,xs,h,k+1=>by
  rw[List.replicate_succ,List.replicate_succ,List.flatten_cons,List.flatten_cons]
  exact h.append (Reps.flat h k)
end
end Hp
end
noncomputable section
namespace Hp
open PySem
structure Ct where
 N:List Str
 sc:List (Str×NameKind)
 fns:List Str
 cns:List (Str×D)
 cls:List Str
 fn:Bool
 tbs:List Str
 rsd:List Str:=[]
def wZ(Γ:Ct)(x:Str):Bool:=match Γ.sc.lookup x with
 | some .local=>true
 | some .cell=>true
 | some .free=>true
 | _=>false
def oE(Γ:Ct)(x:Str):Bool:=match Γ.sc.lookup x with
 | some .local=>true
 | some .cell=>Γ.fn
 | _=>false
def jO(sc names:List (Str×NameKind)):List (Str×NameKind):=names.map λ(n,k)=>if (k==.free&&sc.lookup n==some .cell) then (n,.cell) else (n,k)
def lD:Expr->Bool
 | .Tuple _ _ _=>true
 | _=>false
def tIx:T->List Nat
 | .n i=>[i]
 | .t is=>is
def bZ(Γ:Ct)(x:Str):Bool:=match Γ.sc.lookup x with
 | some .globalImplicit=>true
 | _=>false
def aY(x:Str):Bool:=!(x==("__debug__" : Str))&&!(x==("__classdict__" : Str))
def cM(Γ:Ct)(i:Nat)(x:Str):Bool:=(Γ.N[i]?==some x)&&wZ Γ x&&aY x
def aU(Γ:Ct)(i:Nat)(x:Str):Bool:=(Γ.N[i]?==some x)&&oE Γ x&&aY x
def eqC:D->Const->Bool
 | .non,.none=>true
 | .bl a,.bool b=>a==b
 | .int a,.int b=>a==b
 | .str a,.str b=>a==b
 | _,_=>false
def eqK:D->D->Bool
 | .non,.non=>true
 | .bl a,.bl b=>a==b
 | .int a,.int b=>a==b
 | .str a,.str b=>a==b
 | _,_=>false
def fL:Bi->Str
 | .len => "len" | .list => "list" | .tuple => "tuple" | .min => "min" | .max => "max" | .abs => "abs" | .int => "int" | .str => "str" | .sum => "sum" | .all => "all" | .any => "any" | .sorted => "sorted" | .bool => "bool" | .repr => "repr"
def xA:Bi->Bool
 | .len=>true|.list=>true|.int=>true
 | _=>false
def aIb:Cl->Bool
 | .own _=>false
 | .tValueError=>false
 | _=>true
def qK(Γ:Ct):Cl->Option Str
 | .tInt=>some "int" | .tBool=>some "bool" | .tStr=>some "str" | .tList=>some "list" | .tTuple=>some "tuple" | .tDict=>some "dict" | .tValueError=>some "ValueError"
 | .own c=>some c
def aCh(Γ:Ct)(c:Cl):Expr->Bool
 | .Name x _=>(qK Γ c==some x)&&bZ Γ x&&aY x
 | _=>false
def rW(Γ:Ct)(c:Cl)(y:Expr):Bool:=match c,y with
 | .own x,.Name z _=>(z==x)&&bZ Γ x&&aY x&&Γ.cls.contains x
 | _,_=>false
def rX(Γ:Ct):List Cl->List Expr->Bool
 | [],[]=>true
 | c::cs,y::ys=>rW Γ c y&&rX Γ cs ys
 | _,_=>false
def aFE(Γ:Ct)(cs:List Cl)(y:Expr):Bool:=match y with
 | .Tuple es _ _=>rX Γ cs es&&decide (es.length<=1000)
 | .Name x _=>(match cs with
  | [.tValueError]=>(x==("ValueError" : Str))&&bZ Γ x
  | [c]=>rW Γ c y
  | _=>false)
 | _=>false
def kN(Γ:Ct):T->Expr->Bool
 | .n i,.Name x _=>aU Γ i x
 | .t is,.Tuple es _ _=>is.length==es.length&&(is.zip es).all λp=>match p.2 with
  | .Name x _=>aU Γ p.1 x
  | _=>false
 | _,_=>false
def dM:Expr->List Str
 | .Name x _=>[x]
 | .Tuple es _ _=>es.filterMap fun|.Name x _=>some x|_=>none
 | _=>[]
def qL:E->Bool
 | .c (.int i)=>i==0
 | _=>false
def asC(e:Expr):Option { c:Const // ∃k p,e=.Constant c k p }:=match e with
 | .Constant c k p=>some ⟨c,k,p,rfl⟩
 | _=>none
def asN(e:Expr):Option { x:Str // ∃p,e=.Name x p }:=match e with
 | .Name x p=>some ⟨x,p,rfl⟩
 | _=>none
def aFF(e:Expr):Option { r:Expr×Operator×Expr // ∃p,e=.BinOp r.1 r.2.1 r.2.2 p }:=match e with
 | .BinOp l o r p=>some ⟨(l,o,r),p,rfl⟩
 | _=>none
def aFG(e:Expr):Option { r:UnaryOp×Expr // ∃p,e=.UnaryOp r.1 r.2 p }:=match e with
 | .UnaryOp o x p=>some ⟨(o,x),p,rfl⟩
 | _=>none
def aFH(e:Expr):Option { r:BoolOp×List Expr×Pos // e=.BoolOp r.1 r.2.1 r.2.2 }:=match e with
 | .BoolOp o xs p=>some ⟨(o,xs,p),rfl⟩
 | _=>none
def aIc(e:Expr):Option { r:Expr×Expr×Expr // ∃p,e=.IfExp r.1 r.2.1 r.2.2 p }:=match e with
 | .IfExp t a b p=>some ⟨(t,a,b),p,rfl⟩
 | _=>none
def aCi(e:Expr):Option { r:Expr×List CmpOp×List Expr // ∃p,e=.Compare r.1 r.2.1 r.2.2 p }:=match e with
 | .Compare l os rs p=>some ⟨(l,os,rs),p,rfl⟩
 | _=>none
def aCj(e:Expr):Option { r:Expr×Expr // ∃p,e=.Subscript r.1 r.2 p }:=match e with
 | .Subscript x i p=>some ⟨(x,i),p,rfl⟩
 | _=>none
def aId(e:Expr):Option { r:Option Expr×Option Expr // ∃p,e=.Slice r.1 r.2 none p }:=match e with
 | .Slice l h none p=>some ⟨(l,h),p,rfl⟩
 | _=>none
def aFI(e:Expr):Option { r:List Expr // ∃k p,e=.Tuple r k p }:=match e with
 | .Tuple xs k p=>some ⟨xs,k,p,rfl⟩
 | _=>none
def aFJ(e:Expr):Option { r:List Expr // ∃p,e=.List r p }:=match e with
 | .List xs p=>some ⟨xs,p,rfl⟩
 | _=>none
def oF(e:Expr):Option { r:Str×List Expr // ∃p1 p2,e=.Call (.Name r.1 p1) r.2 [] p2 }:=match e with
 | .Call (.Name x p1) xs [] p2=>some ⟨(x,xs),p1,p2,rfl⟩
 | _=>none
def aIe(e:Expr):Option { r:Expr×Str×List Expr×Bool // ∃ap cp,e=.Call (.Attribute r.1 r.2.1 ap) r.2.2.1 [] cp/\(ap.endLine==cp.line)=r.2.2.2 }:=match e with
 | .Call (.Attribute x a ap) xs [] cp=>some ⟨(x,a,xs,ap.endLine==cp.line),ap,cp,rfl,rfl⟩
 | _=>none
def aFK(e:Expr):Option { r:Expr×Expr // ∃p,e=.Dict [some r.1] [r.2] p }:=match e with
 | .Dict [some a] [b] p=>some ⟨(a,b),p,rfl⟩
 | _=>none
def aDm(e:Expr):Option { r:Unit // ∃p,e=.Dict [] [] p }:=match e with
 | .Dict [] [] p=>some ⟨(),p,rfl⟩
 | _=>none
def aIf(e:Expr):Option { r:Expr×List Comprehension×Scope // ∃p,e=.ListComp r.1 r.2.1 r.2.2 p }:=match e with
 | .ListComp e gs s p=>some ⟨(e,gs,s),p,rfl⟩
 | _=>none
def oB{α:Type}(o:Option α)(f:α->Bool):Bool:=match o with
 | some a=>f a
 | none=>false
def oS{α:Type}{q:α->Prop}(o:Option { a:α // q a })(f:α->Bool):Bool:=match o with
 | some a=>f a.1
 | none=>false
mutual
def eC:E->Bool
 | .c _=>true
 | .v _=>true
 | .op _ a b=>eC a&&eC b
 | .idx a b=>eC a&&eC b
 | .bi b es=>b==.len&&calmEs es
 | _=>false
def calmEs:Es->Bool
 | .nil=>true
 | .cons a r=>eC a&&calmEs r
end
mutual
def aK(Γ:Ct):E->Expr->Bool
 | .c d,e=>oS (asC e) (eqC d)||oS (asN e) λx=>bZ Γ x&&aY x&&oB (Γ.cns.lookup x) (eqK d)
 | .v i,e=>oS (asN e) (cM Γ i)
 | .op o a b,e=>oS (aFF e) λp=>o==p.2.1&&aK Γ a p.1&&aK Γ b p.2.2
 | .neg a,e=>oS (aFG e) λp=>p.1==.USub&&aK Γ a p.2
 | .nt a,e=>oS (aFG e) λp=>p.1==.Not&&aK Γ a p.2
 | .an a b,e=>oS (aFH e) λp=>p.1==.And&&(match p.2.1 with
  | [x,y]=>aK Γ a x&&aK Γ b y
  | x::y::z::r=>aK Γ a x&&aK Γ b (.BoolOp .And (y::z::r) p.2.2)
  | _=>false)
 | .orr a b,e=>oS (aFH e) λp=>p.1==.Or&&(match p.2.1 with
  | [x,y]=>aK Γ a x&&aK Γ b y
  | x::y::z::r=>aK Γ a x&&aK Γ b (.BoolOp .Or (y::z::r) p.2.2)
  | _=>false)
 | .ife t a b,e=>oS (aIc e) λp=>aK Γ t p.1&&aK Γ a p.2.1&&aK Γ b p.2.2
 | .cmp o a b,e=>oS (aCi e) λp=>(match p.2.1,p.2.2 with
  | [o'],[r]=>o==o'&&aK Γ a p.1&&aK Γ b r
  | _,_=>false)
 | .cmp2 o1 o2 a b c,e=>oS (aCi e) λp=>(match p.2.1,p.2.2 with
  | [o1',o2'],[m,r]=>o1==o1'&&o2==o2'&&aK Γ a p.1&&aK Γ b m&&aK Γ c r
  | _,_=>false)
 | .dnin _ _,_=>false
 | .dget _ _,_=>false
 | .dlen _,_=>false
 | .idx a b,e=>oS (aCj e) λp=>aK Γ a p.1&&aK Γ b p.2
 | .sli a lo hi,e=>oS (aCj e) λp=>oS (aId p.2) λq=>(aK Γ a p.1&&calmEs hi)&&chkO Γ lo q.1&&chkO Γ hi q.2
 | .tup es,e=>oS (aFI e) λxs=>decide (xs.length<=1000)&&chkEs Γ es xs
 | .lst es,e=>oS (aFJ e) λxs=>decide (xs.length<=1000)&&chkEs Γ es xs
 | .call f es,e=>oS (oF e) λp=>(Γ.fns[f]?==some p.1)&&bZ Γ p.1&&aY p.1&&chkEs Γ es p.2
 | .callP _ _ _,_=>false
 | .bi b es,e=>oS (oF e) λp=>xA b&&(fL b==p.1)&&bZ Γ p.1&&aY p.1&&!p.2.isEmpty&&chkEs Γ es p.2
 | .mth _ _ _,_=>false
 | .numset _,_=>false
 | .tget i a,e=>oS (aIe e) λp=>oS (asN p.1) λx=>(p.2.1==("get" : Str))&&(Γ.tbs[i]?==some x)&&bZ Γ x&&aY x&&p.2.2.2&&(match p.2.2.1 with|[y]=>aK Γ a y|_=>false)
 | .lzip _ _,_=>false
 | .isi a cs,e=>oS (oF e) λp=>(match cs,p.2 with
  | [c],[x,y]=>(p.1==("isinstance" : Str))&&bZ Γ p.1&&aIb c&&aK Γ a x&&aCh Γ c y
  | _,_=>false)
 | .isx a cs,e=>oS (oF e) λp=>(match p.2 with
  | [x,y]=>(p.1==("isinstance" : Str))&&bZ Γ p.1&&aK Γ a x&&aFE Γ cs y
  | _=>false)
 | .comp k caps t it cond elt,e=>oS (aIf e) λp=>(match p.2.1 with
  | [⟨tg,iter,ifs,as⟩]=>
   as==0&&(dM tg).length==k&&(caps.all λi=>decide (i<Γ.N.length))&&decide caps.Nodup&&p.2.2.kind==.function&&decide (dM tg++caps.filterMap λi=>Γ.N[i]?).Nodup &&
   ((caps.filterMap λi=>Γ.N[i]?).all λx=>p.2.2.names.lookup x==some .free&&Γ.sc.lookup x==some .cell) &&
   (p.2.2.names.all λq=>q.2 != .cell&&(q.2 != .local||p.2.2.names.lookup q.1==some .local)&&(q.2 != .free||Γ.sc.lookup q.1==some .cell)) &&
   ((tIx t).all λi=>decide (i<k))&&decide (ifs.length<=1)&&(Γ.fn||eC elt) &&
   kN { Γ with N:=dM tg++caps.filterMap λi=>Γ.N[i]?,sc:=jO Γ.sc p.2.2.names,fn:=false } t tg&&chkI Γ (lD tg) it iter &&
   chkEs { Γ with N:=dM tg++caps.filterMap λi=>Γ.N[i]?,sc:=jO Γ.sc p.2.2.names,fn:=false } cond ifs &&
   aK { Γ with N:=dM tg++caps.filterMap λi=>Γ.N[i]?,sc:=jO Γ.sc p.2.2.names,fn:=false } elt p.1
  | _=>false)
 | .dic (.cons a .nil) (.cons b .nil),e=>oS (aFK e) λp=>aK Γ a p.1&&aK Γ b p.2
 | .dic .nil .nil,e=>oS (aDm e) λ_=>true
 | .dic _ _,_=>false
def chkEs(Γ:Ct):Es->List Expr->Bool
 | .nil,[]=>true
 | .cons e es,x::xs=>aK Γ e x&&chkEs Γ es xs
 | _,_=>false
def chkO(Γ:Ct):Es->Option Expr->Bool
 | .nil,none=>true
 | .cons e .nil,some x=>aK Γ e x
 | _,_=>false
def chkI(Γ:Ct)(tt:Bool):It->Expr->Bool
 | .rng a b,e=>oS (oF e) λp=>(p.1==("range" : Str))&&bZ Γ p.1&&(match p.2 with
  | [x]=>qL a&&aK Γ b x
  | [x,y]=>aK Γ a x&&aK Γ b y
  | _=>false)
 | .zip a b,e=>oS (oF e) λp=>(match p.2 with
  | [x,y]=>tt&&(p.1==("zip" : Str))&&bZ Γ p.1&&aK Γ a x&&aK Γ b y
  | _=>false)
 | .seq c,x=>aK Γ c x
 | .enum _,_=>false
 | .rev _,_=>false
end
def gR:Expr->Bool
 | .ListComp _ _ _ _=>true
 | .SetComp _ _ _ _=>true
 | .DictComp _ _ _ _ _=>true
 | _=>false
def isC:E->Bool
 | .comp _ _ _ _ _ _=>true
 | _=>false
def qM:Expr->Bool
 | .Tuple _ _ _=>true
 | .List _ _=>true
 | _=>false
def aDn:Expr->Bool
 | .Name _ _=>true
 | _=>false
def oG(Γ:Ct)(i:Nat)(m:Str):Expr->Option (List Expr)
 | .Call (.Attribute (.Name x _) a ap) xs [] cp=>if (a==m)&&cM Γ i x&&(ap.endLine==cp.line) then some xs else none
 | _=>none
def aFL(s:Stmt):Option { r:Expr×Expr // ∃p,s=.Assign [r.1] r.2 p }:=match s with
 | .Assign [t] v p=>some ⟨(t,v),p,rfl⟩
 | _=>none
def sEx(s:Stmt):Option { r:Expr // ∃p,s=.Expr r p }:=match s with
 | .Expr v p=>some ⟨v,p,rfl⟩
 | _=>none
def aDo(s:Stmt):Option { r:Option Expr // ∃p,s=.Return r p }:=match s with
 | .Return v p=>some ⟨v,p,rfl⟩
 | _=>none
def sIf(s:Stmt):Option { r:Expr×List Stmt×List Stmt // ∃p,s=.If r.1 r.2.1 r.2.2 p }:=match s with
 | .If t x y p=>some ⟨(t,x,y),p,rfl⟩
 | _=>none
def aIg(s:Stmt):Option { r:Expr×Expr×List Stmt // ∃p,s=.For r.1 r.2.1 r.2.2 [] p }:=match s with
 | .For t i b [] p=>some ⟨(t,i,b),p,rfl⟩
 | _=>none
def aIh(s:Stmt):Option { r:Unit // ∃p,s=.Break p }:=match s with
 | .Break p=>some ⟨(),p,rfl⟩
 | _=>none
def aIi(s:Stmt):Option { r:Unit // ∃p,s=.Continue p }:=match s with
 | .Continue p=>some ⟨(),p,rfl⟩
 | _=>none
def aFM(s:Stmt):Option { r:Unit // ∃p,s=.Pass p }:=match s with
 | .Pass p=>some ⟨(),p,rfl⟩
 | _=>none
def aIj(s:Stmt):Option { r:Str×Expr // ∃np cp p,s=.Raise (some (.Call (.Name r.1 np) [r.2] [] cp)) none p }:=match s with
 | .Raise (some (.Call (.Name x np) [a] [] cp)) none p=>some ⟨(x,a),np,cp,p,rfl⟩
 | _=>none
structure aFN where
 body:List Stmt
 x:Str
 n:Str
 y:Str
def aIk(s:Stmt):Option { r:aFN // ∃np yp np2 ap hp p,s=.Try r.body [.ExceptHandler (some (.Name r.x np)) (some r.n) [.Assign [.Name r.y yp] (.Name r.n np2) ap] hp] [] [] p }:=match s with
 | .Try body [.ExceptHandler (some (.Name x np)) (some n) [.Assign [.Name y yp] (.Name n' np2) ap] hp] [] [] p=>if h:n'=n then some ⟨⟨body,x,n,y⟩,np,yp,np2,ap,hp,p,by rw[h]⟩ else none
 | _=>none
mutual
def eJ(Γ:Ct):S->Stmt->Bool
 | .set t e,s=>oS (aFL s) λr=>kN Γ t r.1&&aK Γ e r.2&&(aDn r.1||!qM r.2)&&(gR r.2==isC e)
 | .mov i j,s=>oS (aFL s) λr=>oS (asN r.1) λx=>oS (asN r.2) λy=>aU Γ i x&&cM Γ j y
 | .dnew _,_=>false
 | .dput _ _,_=>false
 | .dfrom _ _,_=>false
 | .setIx _ _ _,_=>false
 | .two _ _ _,_=>false
 | .appP _ _ _,_=>false
 | .clrP _ _,_=>false
 | .app i e,s=>oS (sEx s) λc=>(match oG Γ i "append" c with|some [a]=>aK Γ e a|_=>false)
 | .appCall _ _ _,_=>false
 | .ext _ _,_=>false
 | .pop _ _ _,_=>false
 | .clr _,_=>false
 | .rev _,_=>false
 | .ret e,s=>oS (aDo s) λr=>oB r (aK Γ e)
 | .retv i,s=>oS (aDo s) λr=>oB r λv=>oS (asN v) (cM Γ i)
 | .retN,s=>oS (aDo s) λr=>r.isNone
 | .iff c a b,s=>oS (sIf s) λr=>aK Γ c r.1&&chkSs Γ a r.2.1&&chkSs Γ b r.2.2
 | .for t it b,s=>oS (aIg s) λr=>kN Γ t r.1&&chkI Γ (lD r.1) it r.2.1&&chkSs Γ b r.2.2
 | .whl _ _,_=>false
 | .brk,s=>oS (aIh s) λ_=>true
 | .cnt,s=>oS (aIi s) λ_=>true
 | .pass,s=>oS (aFM s) λ_=>true
 | .ex e,s=>oS (sEx s) λv=>aK Γ e v&&!gR v
 | .off,_=>true
 | .rse c _ (.cons e .nil),s=>oS (aIj s) λr=>(r.1==c)&&bZ Γ c&&aY c&&Γ.rsd.contains c&&aK Γ e r.2
 | .rse _ _ _,_=>false
 | .ins _ _ _,_=>false
 | .tryAs b c i j,s=>oS (aIk s) λr=>(r.x==c)&&bZ Γ c&&aY c&&Γ.cls.contains c&&Γ.rsd.contains c&&aU Γ i r.y&&aU Γ j r.n&&(Γ.sc.lookup r.n==some .local)&&aY r.n&&(i != j)&&Γ.fn&&chkSs Γ b r.body
def chkSs(Γ:Ct):Ss->List Stmt->Bool
 | .nil,[]=>true
 | .cons s ss,x::xs=>eJ Γ s x&&chkSs Γ ss xs
 | _,_=>false
end
end Hp
end
noncomputable section
namespace L2
open PySem PySem.Spec PyProof.Rows
def Rec(h:Heap)(e:Addr)(cls:Value)(T:Option Addr):Prop:=∃oe vs,h.get? e=some oe/\oe.cls=cls/\oe.dict=none/\oe.data=.fields vs/\match T with
 | none=>vs[1]? = some .none
 | some T=>vs[1]? = some (.ref T)/\T≠e/\∃oT ts,h.get? T=some oT/\oT.data=.fields ts/\∃f:Option Addr,ts[3]? = some (f.elim .none λf=>rawInt f)
structure Lx (fr:List Addr) (e:Addr) (T:Option Addr) (h h':Heap):Prop where
 keep:∀b o,h.get? b=some o->b∉fr->b≠e->T≠some b->h'.get? b=some o
 slot:∀b o,h.get? b=some o->b∈fr->∃sl,h'.get? b=some { o with slots:=sl }
theorem eK(f:Array Value->Array Value)(o:Obj):(o.mapFields f).dict=o.dict:=by
 obtain⟨c,d,dt,sl⟩:=o
 cases dt <;> rfl
section
variable {M:Model} {A:Around} {E:Value->Shared->Prop} {s:Shared}
theorem rY{base:Heap}{env:Env}{outer:List Env}{L e:Addr}{oe:Obj}{vs:Array Value}{head:Value}{hadNext:Bool}{Q:Unit->Shared->Prop}
 (hfr:A.frames=some (env::outer)) (hl:s.heap.FunFrames base (env::outer)) (hf:env.frame=some L)
 (he:s.heap.get? e=some oe) (hdi:oe.dict=none) (hd:oe.data=.fields vs) (hsz:1<vs.size)
 (h:∀h' T',s.heap.objs.size<=T'->Lx (frs (env::outer)) e none s.heap h'->Rec h' e oe.cls (some T')->Q () { s with heap:=h' }) :
 wpAny M A (do let a<-frameOf env;let pl<-entryPlaceOf L hadNext;let b<-EntryCells.newEntry head a .none (rawInt L) .none pl;setField (.ref e) 1 b) Q E s:=by
 have hene:e∉(env::outer).filterMap (·.frame):=λhm=>by
  obtain⟨_,o,ho,hnf⟩:=hl.mem hm
  rw[he] at ho;injection ho with ho;subst ho;exact hnf vs hd
 refine wpAny_bind (wpAny_frameOf_fun hfr hl hf λh₁ hs₁=>?_)
 refine wpAny_bind (wpAny_entryPlaceOf λpl hpl=>?_)
 unfold EntryCells.newEntry newFields
 refine wpAny_bind (wpAny_newObj_type ?_ (hpl.sizeOk5 _ _ _ _ _))
 have he₁:h₁.get? e=some oe:=(hs₁.2.1 e hene).trans he
 have he₂:=Heap.get?_push_of_some (h:=h₁) { cls:=.type "traceback",dict:=none,data:=.fields ([head,.ref L,.none,rawInt L,.none]++(if pl.isEmpty then List.replicate 6 Value.none else pl)).toArray } he₁
 refine wpAny_setField he₂ hd hsz ?_
 have hTe:h₁.objs.size≠e:=Nat.ne_of_gt (Heap.lt_size he₁)
 have hd₃:=Obj.data_mapFields hd (·.setIfInBounds 1 (Value.ref h₁.objs.size))
 have he₃:=Heap.get?_update_self (Obj.mapFields (·.setIfInBounds 1 (Value.ref h₁.objs.size))) he₂ (Obj.isFreed_of_fields hd₃)
 have hT₃:=(Heap.get?_update_other (h₁.push { cls:=.type "traceback",dict:=none,data:=.fields ([head,.ref L,.none,rawInt L,.none]++(if pl.isEmpty then List.replicate 6 Value.none else pl)).toArray })
  (Obj.mapFields (·.setIfInBounds 1 (Value.ref h₁.objs.size))) (Ne.symm hTe)).trans (Heap.get?_push_size h₁ rfl)
 refine h _ h₁.objs.size (by rw[hs₁.1];exact Nat.le_refl _) ?_ ?_
 . have keep:∀b o,b≠e->h₁.get? b=some o ->
    ((h₁.push { cls:=.type "traceback",dict:=none,data:=.fields ([head,.ref L,.none,rawInt L,.none]++(if pl.isEmpty then List.replicate 6 Value.none else pl)).toArray }).update e (Obj.mapFields (·.setIfInBounds 1 (Value.ref h₁.objs.size)))).get? b=some o:=λb o hbe hb=>by
    rw[Heap.get?_update_other _ _ (Ne.symm hbe)]
    exact Heap.get?_push_of_some _ hb
   refine⟨λb o hb hn hbe _=>keep b o hbe ((hs₁.2.1 b hn).trans hb),λb o hb hn=>?_⟩
   obtain⟨sl,hs⟩:=hs₁.2.2 b o hb
   refine⟨sl,keep b _ (λz=>?_) hs⟩
   subst z
   exact hene hn
 . exact⟨_,_,he₃,Obj.cls_mapFields _ _,(eK _ _).trans hdi,hd₃,by simp[hsz],hTe,_,_,hT₃,rfl,some L,by simp⟩
theorem rZ{base:Heap}{env:Env}{outer:List Env}{L e:Addr}{oe:Obj}{vs:Array Value}{head:Value}{hadNext:Bool}{Q:Unit->Shared->Prop}
 (hfr:A.frames=some (env::outer)) (hl:s.heap.FunFrames base (env::outer)) (hf:env.frame=some L)
 (he:s.heap.get? e=some oe) (hdi:oe.dict=none) (hd:oe.data=.fields vs) (hsz:1<vs.size)
 (h:∀h' T',s.heap.objs.size<=T'->Lx (frs (env::outer)) e none s.heap h'->Rec h' e oe.cls (some T')->Q () { s with heap:=h' }) :
 wpAny M A (do let a<-frameOf env;let pl<-entryPlaceOf L hadNext;let b<-EntryCells.newEntry head a .none (rawInt L) .none pl;setField (.ref e) 1 b) (λ_ s'=>wpAny M A (setFlight (.ref e) none) Q E s') E s:=by
 have hene:e∉(env::outer).filterMap (·.frame):=λhm=>by
  obtain⟨_,o,ho,hnf⟩:=hl.mem hm
  rw[he] at ho;injection ho with ho;subst ho;exact hnf vs hd
 refine wpAny_bind (wpAny_frameOf_fun hfr hl hf λh₁ hs₁=>?_)
 refine wpAny_bind (wpAny_entryPlaceOf λpl hpl=>?_)
 unfold EntryCells.newEntry newFields
 refine wpAny_bind (wpAny_newObj_type ?_ (hpl.sizeOk5 _ _ _ _ _))
 have he₁:h₁.get? e=some oe:=(hs₁.2.1 e hene).trans he
 have he₂:=Heap.get?_push_of_some (h:=h₁) { cls:=.type "traceback",dict:=none,data:=.fields ([head,.ref L,.none,rawInt L,.none]++(if pl.isEmpty then List.replicate 6 Value.none else pl)).toArray } he₁
 refine wpAny_setField he₂ hd hsz ?_
 have hTe:h₁.objs.size≠e:=Nat.ne_of_gt (Heap.lt_size he₁)
 have hd₃:=Obj.data_mapFields hd (·.setIfInBounds 1 (Value.ref h₁.objs.size))
 have he₃:=Heap.get?_update_self (Obj.mapFields (·.setIfInBounds 1 (Value.ref h₁.objs.size))) he₂ (Obj.isFreed_of_fields hd₃)
 have hT₃:=(Heap.get?_update_other (h₁.push { cls:=.type "traceback",dict:=none,data:=.fields ([head,.ref L,.none,rawInt L,.none]++(if pl.isEmpty then List.replicate 6 Value.none else pl)).toArray })
  (Obj.mapFields (·.setIfInBounds 1 (Value.ref h₁.objs.size))) (Ne.symm hTe)).trans (Heap.get?_push_size h₁ rfl)
 unfold setFlight
 refine wpAny_bind (wpAny_field he₃ hd₃ (x:=.ref h₁.objs.size) (by simp[hsz]) ?_)
 rw[if_pos (show(Value.ref h₁.objs.size != Value.none)=true from by simp)]
 refine wpAny_setField hT₃ rfl (by simp only[List.size_toArray,lA,lC,lN] <;> omega) (h _ h₁.objs.size (by rw[hs₁.1];exact Nat.le_refl _) ?_ ?_)
 . have keep:∀b o,b≠e->h₁.get? b=some o ->
    (((h₁.push { cls:=.type "traceback",dict:=none,data:=.fields ([head,.ref L,.none,rawInt L,.none]++(if pl.isEmpty then List.replicate 6 Value.none else pl)).toArray }).update e (Obj.mapFields (·.setIfInBounds 1 (Value.ref h₁.objs.size)))).update h₁.objs.size
     (Obj.mapFields (·.setIfInBounds 3 ((none:Option Addr).elim Value.none λf=>rawInt f)))).get? b=some o:=λb o hbe hb=>by
    have hbT:h₁.objs.size≠b:=Nat.ne_of_gt (Heap.lt_size hb)
    rw[Heap.get?_update_other _ _ hbT,Heap.get?_update_other _ _ (Ne.symm hbe)]
    exact Heap.get?_push_of_some _ hb
   refine⟨λb o hb hn hbe _=>keep b o hbe ((hs₁.2.1 b hn).trans hb),λb o hb hn=>?_⟩
   obtain⟨sl,hs⟩:=hs₁.2.2 b o hb
   refine⟨sl,keep b _ (λz=>?_) hs⟩
   subst z
   exact hene hn
 . refine⟨_,_,(Heap.get?_update_other _ _ hTe).trans he₃,Obj.cls_mapFields _ _,(eK _ _).trans hdi,hd₃,by simp[hsz],hTe,_,_,Heap.get?_update_self _ hT₃ (Obj.isFreed_of_fields (Obj.data_mapFields rfl _)),Obj.data_mapFields rfl _,none,by first|(simp;done)|(rcases hpl with rfl|⟨_,_,_,_,_,_,_,rfl⟩ <;> simp)⟩
theorem xB{base:Heap}{env:Env}{outer:List Env}{L e:Addr}{cls:Value}{T:Option Addr}{Q:Unit->Shared->Prop}
 (hfr:A.frames=some (env::outer)) (hl:s.heap.FunFrames base (env::outer)) (hf:env.frame=some L) (hr:Rec s.heap e cls T)
 (h:∀h' T',(s.heap.objs.size<=T'\/T=some T')->Lx (frs (env::outer)) e T s.heap h'->Rec h' e cls (some T')->Q () { s with heap:=h' }):wpAny M A (noteFrame (.ref e) env) (λ_ s'=>wpAny M A (setFlight (.ref e) none) Q E s') E s:=by
 obtain⟨oe,vs,he,hcls,hdi,hd,hT⟩:=hr
 subst hcls
 unfold noteFrame
 simp only[hf]
 cases T with
 | none=>
  have h1:vs[1]? = some .none:=hT
  refine wpAny_bind (wpAny_field he hd h1 ?_)
  rw[if_neg (by decide)]
  exact rZ hfr hl hf he hdi hd (Array.getElem?_eq_some_iff.mp h1).1 λh' T' l=>h h' T' (.inl l)
 | some T=>
  obtain⟨h1,hTe,oT,ts,hT,hdT,fl,h3⟩:vs[1]? = some (.ref T)/\T≠e/\∃oT ts,s.heap.get? T=some oT/\oT.data=.fields ts/\∃f:Option Addr,ts[3]? = some (f.elim .none λf=>rawInt f):=hT
  refine wpAny_bind (wpAny_field he hd h1 ?_)
  rw[if_pos (show(Value.ref T != Value.none)=true from by simp)]
  have noRecord0:∀b o,s.heap.get? b=some o->(∀vs,o.data≠.fields vs)->b≠T:=λb o hb hnf q=>by
   rw[q,hT] at hb;injection hb with hb;subst hb;exact hnf ts hdT
  refine wpAny_bind (wpAny_field hT hdT h3 ?_)
  by_cases hfl:(fl.elim Value.none (λf=>rawInt f)==rawInt L)=true
  . rw[if_pos hfl]
    refine wpAny_pure ?_
    refine wpAny_setFlight_none he hd h1 hT hdT (Array.getElem?_eq_some_iff.mp h3).1 (h _ T (.inr rfl) ⟨λb o q _ _ hb=>?_,λb o q hb=>⟨o.slots,?_⟩⟩ ?_)
    . exact(Heap.get?_update_other _ _ λz=>hb (by rw[z])).trans q
    . obtain⟨_,o',ho',hnf⟩:=hl.mem hb
      rw[q] at ho'
      cases ho'
      exact(Heap.get?_update_other _ _ (Ne.symm (noRecord0 b o q hnf))).trans q
    . refine⟨oe,vs,(Heap.get?_update_other _ _ hTe).trans he,rfl,hdi,hd,h1,hTe,_,_,Heap.get?_update_self _ hT (Obj.isFreed_of_fields (Obj.data_mapFields hdT _)),Obj.data_mapFields hdT _,none,?_⟩
      have:=(Array.getElem?_eq_some_iff.mp h3).1
      simp[this]
  rw[if_neg hfl]
  refine wpAny_bind (wpAny_setField hT hdT (Array.getElem?_eq_some_iff.mp h3).1 ?_)
  have other:∀b,b≠T->(s.heap.update T (Obj.mapFields (·.setIfInBounds 3 Value.none))).get? b=s.heap.get? b:=λb hb=>Heap.get?_update_other _ _ (Ne.symm hb)
  have noRecord:∀b o,s.heap.get? b=some o->(∀vs,o.data≠.fields vs)->b≠T:=λb o hb hnf q=>by
   rw[q,hT] at hb;injection hb with hb;subst hb;exact hnf ts hdT
  have hsz:(s.heap.update T (Obj.mapFields (·.setIfInBounds 3 Value.none))).objs.size=s.heap.objs.size:=Heap.size_after_update ..
  refine rZ hfr (hl.of_keeps λb o hb hnf=>⟨o,(other b (noRecord b o hb hnf)).trans hb,rfl⟩) hf ((other e (Ne.symm hTe)).trans he) hdi hd (Array.getElem?_eq_some_iff.mp h1).1
   λh' T' l1 x1 x2=>h h' T' (.inl (by rw[<-hsz];exact l1)) ⟨λb o hb hn hbe hbT=>x1.keep b o ((other b λz=>hbT (by rw[z])).trans hb) hn hbe (λz=>nomatch z),λb o hb hn=>?_⟩ x2
  refine x1.slot b o ((other b ?_).trans hb) hn
  obtain⟨_,o',ho',hnf⟩:=hl.mem hn
  rw[hb] at ho'
  cases ho'
  exact noRecord b o hb hnf
theorem aAN{base:Heap}{env:Env}{outer:List Env}{L e:Addr}{cls:Value}{T:Option Addr}{Q:Unit->Shared->Prop}
 (hfr:A.frames=some (env::outer)) (hl:s.heap.FunFrames base (env::outer)) (hf:env.frame=some L) (hr:Rec s.heap e cls T)
 (h:∀h' T',(s.heap.objs.size<=T'\/T=some T')->Lx (frs (env::outer)) e T s.heap h'->Rec h' e cls (some T')->Q () { s with heap:=h' }):wpAny M A (noteFrame (.ref e) env) Q E s:=by
 have hr0:=hr
 obtain⟨oe,vs,he,hcls,hdi,hd,hT⟩:=hr
 subst hcls
 unfold noteFrame
 simp only[hf]
 cases T with
 | none=>
  have h1:vs[1]? = some .none:=hT
  refine wpAny_bind (wpAny_field he hd h1 ?_)
  rw[if_neg (by decide)]
  exact rY hfr hl hf he hdi hd (Array.getElem?_eq_some_iff.mp h1).1 λh' T' l=>h h' T' (.inl l)
 | some T=>
  obtain⟨h1,hTe,oT,ts,hT,hdT,fl,h3⟩:vs[1]? = some (.ref T)/\T≠e/\∃oT ts,s.heap.get? T=some oT/\oT.data=.fields ts/\∃f:Option Addr,ts[3]? = some (f.elim .none λf=>rawInt f):=hT
  refine wpAny_bind (wpAny_field he hd h1 ?_)
  rw[if_pos (show(Value.ref T != Value.none)=true from by simp)]
  refine wpAny_bind (wpAny_field hT hdT h3 ?_)
  by_cases hfl:(fl.elim Value.none (λf=>rawInt f)==rawInt L)=true
  . rw[if_pos hfl]
    exact wpAny_pure (h s.heap T (.inr rfl) ⟨λb o q _ _ _=>q,λb o q _=>⟨o.slots,q⟩⟩ hr0)
  rw[if_neg hfl]
  refine wpAny_bind (wpAny_setField hT hdT (Array.getElem?_eq_some_iff.mp h3).1 ?_)
  have other:∀b,b≠T->(s.heap.update T (Obj.mapFields (·.setIfInBounds 3 Value.none))).get? b=s.heap.get? b:=λb hb=>Heap.get?_update_other _ _ (Ne.symm hb)
  have noRecord:∀b o,s.heap.get? b=some o->(∀vs,o.data≠.fields vs)->b≠T:=λb o hb hnf q=>by
   rw[q,hT] at hb;injection hb with hb;subst hb;exact hnf ts hdT
  have hsz:(s.heap.update T (Obj.mapFields (·.setIfInBounds 3 Value.none))).objs.size=s.heap.objs.size:=Heap.size_after_update ..
  refine rY hfr (hl.of_keeps λb o hb hnf=>⟨o,(other b (noRecord b o hb hnf)).trans hb,rfl⟩) hf ((other e (Ne.symm hTe)).trans he) hdi hd (Array.getElem?_eq_some_iff.mp h1).1
   λh' T' l1 x1 x2=>h h' T' (.inl (by rw[<-hsz];exact l1)) ⟨λb o hb hn hbe hbT=>x1.keep b o ((other b λz=>hbT (by rw[z])).trans hb) hn hbe (λz=>nomatch z),λb o hb hn=>?_⟩ x2
  refine x1.slot b o ((other b ?_).trans hb) hn
  obtain⟨_,o',ho',hnf⟩:=hl.mem hn
  rw[hb] at ho'
  cases ho'
  exact noRecord b o hb hnf
theorem uF{base:Heap}{env:Env}{outer:List Env}{L e:Addr}{cls:Value}{T:Option Addr}{Q:Unit->Shared->Prop}
 (hfr:A.frames=some (env::outer)) (hl:s.heap.FunFrames base (env::outer)) (hf:env.frame=some L) (hr:Rec s.heap e cls T)
 (h:∀h' T',(s.heap.objs.size<=T'\/T=some T')->Lx (frs (env::outer)) e T s.heap h'->Rec h' e cls (some T')->Q () { s with heap:=h' }):wpAny M A (leaving env (.ref e)) Q E s:=by
 unfold leaving
 exact wpAny_bind (xB hfr hl hf hr h)
end
def Old(h:Heap)(b:Addr):Prop:=∃o,h.get? b=some o
theorem Old.lt{h:Heap}{b:Addr}(x:Old h b):b<h.objs.size:=let ⟨_,q⟩:=x;Heap.lt_size q
def Fly(h0:Heap)(ex:List Addr)(H:Hp)(L:List Addr)(e:Addr)(cls:Value)(h:Heap):Prop:=∃T,Rec h e cls T/\∀b,(b=e\/T=some b)->¬ (Old h0 b/\b∉ex)/\H b=none/\b∉L
theorem Fly.older{h0 h1 h:Heap}{H:Hp}{L L':List Addr}{e:Addr}{cls:Value}{ex:List Addr}(f:Fly h1 [] H L e cls h)(l:∀b,Old h0 b->b∉ex->Old h1 b)(l':∀b∈L',Old h1 b):Fly h0 ex H L' e cls h:=
 let ⟨T,c,d⟩:=f
 ⟨T,c,λb z=>⟨λy=>(d b z).1 ⟨l _ y.1 y.2,List.not_mem_nil⟩,(d b z).2.1,λy=>(d b z).1 ⟨l' b y,List.not_mem_nil⟩⟩⟩
def CX1(P:Program)(w:World):CXT:=λouter H s E e s'=>∃a cls H',e=.ref a/\s'.os=s.os/\AllBare s'.gens/\Un (frs outer) [] H H' s.heap s'.heap/\HOk P w H' s'.heap/\Fly s.heap [] H' [] a cls s'.heap/\E cls none H'
abbrev pinA(X:Cx)(pins:List (Addr×Obj)):List Addr:=(X.pn++pins).map (·.1)
def Rs(X:Cx)(W:Value->St->Hp->Prop):Prop:=∀(pins:List (Addr×Obj)) (σ:St) (H:Hp) (s:Shared) (a:Addr) (cls:Value),Inv X pins σ H s->Fly X.s₀.heap X.ex H (pinA X pins) a cls s.heap->W cls σ H->X.xe (.ref a) s
def RX(X:Cx)(cls:Value)(σV:St)(H:Hp):Prop:=∀(pins:List (Addr×Obj)) (s:Shared) (a:Addr),Inv X pins σV H s->Fly X.s₀.heap X.ex H (pinA X pins) a cls s.heap->X.xe (.ref a) s
theorem xC(X:Cx):Rs X (RX X):=λpins σ H s a cls I fl h=>h pins s a I fl
section
variable {X:Cx} {pins:List (Addr×Obj)} {σ:St} {H:Hp} {s:Shared}
theorem qN(I:Inv X pins σ H s):∀b,Old X.s₀.heap b->b∉X.ex->Old s.heap b:=λb ⟨o,q⟩ hb=>I.base.there b o q hb
theorem iY(I:Inv X pins σ H s):∀b∈pinA X pins,Old s.heap b:=λb hb=>by
 obtain⟨p,hp,rfl⟩:=List.mem_map.mp hb
 exact⟨_,(I.pin p hp).1⟩
theorem Rs.pass{W:Value->St->Hp->Prop}{e:Value}{s':Shared}(h:Rs X W)(I:Inv X pins σ H s)(c:CX1 X.prog X.w X.stack H s (λc _ H=>W c σ H) e s'):X.xe e s':=by
 obtain⟨a,cls,H',ee,os,bare,un,hok,fl,q⟩:=c
 subst ee
 exact h pins σ H' s' a cls (I.call' (ch:=[]) os un hok bare (λb z=>absurd z (by simp))) (fl.older (qN I) (iY I)) q
theorem sA{k:Nat}{f:Addr}{fd:FuncData}{ps:List Str}{sp:Sp}{dvs:List V}{ds:List Value}{Q:VK}{W:Value->St->Hp->Prop}{us:List Value}{vs:List V}(F:mI X.prog X.w X.K X.mg X.base (CX1 X.prog X.w) k f fd ps sp)(hr:iR k X.A)(hb:iK X.K fd ps ds)(hd:aJ dvs ds)(hR:Rs X W)
 (I:Inv X pins σ H s) (r:aJ vs us) (h:sp (vs++dvs) H Q λc _ H=>W c σ H):wpAny (model X.prog X.w) X.A (call (.ref f) us) (EP X pins σ Q) X.xe s:=by
 have r2:aJ (vs++dvs) (us++ds):=r.append hd
 have hl:(us++ds).length=ps.length:=by rw[<-r2.length];exact F.len _ _ _ _ h
 refine wpAny_call (codeAny_mono (F.run X.A X.stack s H ⟨us,[]⟩ (us++ds) (vs++dvs) Q _ hr I.env0 (hb s us I.kIn hl) r2 h) λr s' hq=>?_)
 cases r with
 | error e=>exact hR.pass I hq
 | ok fl=>
  cases fl with
  | ret u=>exact I.after hq
  | next=>exact False.elim hq
  | brk=>exact False.elim hq
  | cont=>exact False.elim hq
end
theorem xD{fs ex:List Addr}{H H1:Hp}{h h1 h':Heap}{fr:List Addr}{e:Addr}{T:Option Addr}(u:Un fs ex H H1 h h1)(x:Lx fr e T h1 h')(hfr:∀b,b∈fr->b∈fs\/h.objs.size<=b)(he:¬ (Old h e/\e∉ex))(hT:∀t,T=some t->¬ (Old h t/\t∉ex))(hfs:∀b∈fs,b∈fr) :
 Un fs ex H H1 h h' where
 keep:=λb o q n hb hx=>by
  have l:=Heap.lt_size q
  refine x.keep b o (u.keep b o q n hb hx) (λz=>?_) (λz=>?_) λz=>?_
  . rcases hfr b z with z|z
    . exact hb z
    . exact absurd l (Nat.not_lt.mpr z)
  . subst z;exact he ⟨⟨o,q⟩,hx⟩
  . exact hT b z ⟨⟨o,q⟩,hx⟩
 slot:=λb o q n hb hx=>by
  obtain⟨sl,e1⟩:=u.slot b o q n hb hx
  obtain⟨sl',e2⟩:=x.slot b _ e1 (hfs b hb)
  exact⟨sl',e2⟩
 free:=u.free
 there:=λb o q hx=>by
  obtain⟨o',e1⟩:=u.there b o q hx
  by_cases hb:b∈fr
  . obtain⟨sl,e2⟩:=x.slot b o' e1 hb
    exact⟨_,e2⟩
  . exact⟨o',x.keep b o' e1 hb (λz=>by subst z;exact he ⟨⟨o,q⟩,hx⟩) λz=>hT b z ⟨⟨o,q⟩,hx⟩⟩
 tups:=u.tups
 frzs:=u.frzs
 tbls:=u.tbls
theorem lE{P:Program}{w:World}{H:Hp}{h h':Heap}{fr:List Addr}{e:Addr}{T:Option Addr}(k:HOk P w H h)(x:Lx fr e T h h')(hfr:∀b∈fr,H b=none)(he:H e=none)(hT:∀t,T=some t->H t=none):HOk P w H h':=λa o q=>
 (k a o q).stay (λb u hb g=>by
  have hn:H b≠none:=by
   rcases hb with z|z
   . rw[z,q];exact λz=>nomatch z
   . rw[z];exact λz=>nomatch z
  exact x.keep b u g (λz=>hn (hfr b z)) (λz=>hn (by rw[z];exact he)) λz=>hn (hT b z)) (λ_ z=>z) λ_ _ z=>z
theorem qO{P:Program}{w:World}{K:PySem.W.Frag}{mg:Str->Option Value}{base:Heap}{N:List Str}{qual:Str}{scope:Scope}{f:Addr}{cd:Value}{A:Around}{outer:List Env}{s:Shared}{H:Hp}{E:XK} :
 Rs (mK (CX1 P w) P w K mg base N qual scope f cd A outer s H E) λc _ H'=>E c none H':=by
 intro pins σ H1 s1 a cls I fl hE
 obtain⟨T,f3,f4⟩:=fl
 have hst:(mK (CX1 P w) P w K mg base N qual scope f cd A outer s H E).env.frame=some (mK (CX1 P w) P w K mg base N qual scope f cd A outer s H E).env.locals:=by
  rcases I.ok.stk with z|⟨_,z⟩
  . have z:envOfC qual scope s.heap.objs.size f cd::outer=outer:=z
    exact absurd (congrArg List.length z) (by simp)
  . exact z
 show wpAny (model P w) (A.deeper (envOfC qual scope s.heap.objs.size f cd)) (leaving (envOfC qual scope s.heap.objs.size f cd) (.ref a)) _ _ s1
 refine uF (base:=base) (outer:=outer) I.ok.frames I.stack hst f3 λh' T' l1 x r=>?_
 have hsub:∀b,b∈frs (envOfC qual scope s.heap.objs.size f cd::outer)->b=(envOfC qual scope s.heap.objs.size f cd).locals\/b∈frs outer:=λb hb=>List.mem_cons.mp (I.stkSub b hb)
 have un:Un (frs outer) [] H H1 s.heap h':=xD I.base x (λb hb=>?_) (f4 a (.inl rfl)).1 (λt z=>(f4 t (.inr z)).1) λb hb=>?_
 . refine⟨a,cls,H1,rfl,I.os,I.bare,un,lE I.hok x I.stkFree (f4 a (.inl rfl)).2.1 λt z=>(f4 t (.inr z)).2.1,⟨some T',r,λt z=>?_⟩,hE⟩
   rcases z with rfl|z
   . exact⟨(f4 _ (.inl rfl)).1,(f4 _ (.inl rfl)).2.1,by simp⟩
   . cases z
     rcases l1 with l1|l1
     . exact⟨λz=>absurd z.1.lt (Nat.not_lt.mpr (Nat.le_trans I.sz l1)),I.hok.fresh l1,by simp⟩
     . exact⟨(f4 _ (.inr l1)).1,(f4 _ (.inr l1)).2.1,by simp⟩
 . rcases hsub b hb with z|z
   . rw[z];exact .inr I.ok.above
   . exact .inl z
 . unfold frs at hb ⊢
   rw[List.filterMap_cons]
   have:(envOfC qual scope s.heap.objs.size f cd).frame=some (envOfC qual scope s.heap.objs.size f cd).locals:=hst
   rw[this]
   exact List.mem_cons_of_mem _ hb
end L2
end
noncomputable section
namespace Hp
open PySem PySem.Spec PyProof.Rows L2
def Kp(R:Addr->Prop)(H H':Hp):Prop:=∀a o,H a=some o->¬ R a->H' a=some o
def RE{α:Type}(w:D->Prop):R α->(α->Prop)->Prop
 | .ok a,p=>p a
 | .exc x,_=>w x
 | .bad,_=>False
theorem RE.mono{α:Type}{x:R α}{p q:α->Prop}{w:D->Prop}(h:RE w x p)(f:∀a,p a->q a):RE w x q:=by
 cases x with
 | ok a=>exact f a h
 | exc e=>exact h
 | bad=>exact h
theorem RE.bind{α β:Type}{x:R α}{f:α->R β}{p:β->Prop}{w:D->Prop}:RE w (x >>= f) p=RE w x λa=>RE w (f a) p:=by
 cases x <;> rfl
theorem RE.iff{α:Type}{c:Bool}{x:R α}{p:α->Prop}{w:D->Prop}(h:RE w (R.iff c x) p):c=true/\RE w x p:=by
 cases c with
 | true=>exact⟨rfl,h⟩
 | false=>exact h.elim
section
variable (K:Fg) (RT Y old:Addr->Prop)
def exB(pa:Bool)(a:Addr):Prop:=Y a\/(pa=false/\old a)
def Tk(H:Hp):Prop:=∀b,H b≠none->K.lookup b=none
def dV:D->V
 | .int i=>.int i
 | .bl b=>.bl b
 | _=>.non
abbrev kV(x:NK×D):NK×V:=(x.1,dV x.2)
def Pt(σ:Sg)(σV:L2.St)(p:Addr):Prop:=RT p/\¬ old p/\∀(k:Nat) (pa:Bool) (ds:List D),σ[k]? = some (.own pa ds)->σV[k]?≠some (some (.ref p))
structure Dx (σ:Sg) (σV:L2.St) (H:Hp):Prop where
 at':∀(i:Nat) (ks:List (NK×D)),σ[i]? = some (.dct ks)->∃a xs,σV[i]? = some (some (.ref a))/\H a=some (eI a xs)/\RT a/\¬ old a/\xs.map pj=ks.map kV/\∀x∈xs,oD K H x.1 x.2.1
 inj:∀(i j:Nat) (ks ks':List (NK×D)) (a:Addr),σ[i]? = some (.dct ks)->σ[j]? = some (.dct ks')->σV[i]? = some (some (.ref a))->σV[j]? = some (some (.ref a))->i=j
 at2:∀(i:Nat) (ds es:List D),σ[i]? = some (.par ds es)->∃a b c xs ys,σV[i]? = some (some (.ref a))/\(H a=some (.lst [.ref b,.ref c])/\H b=some (.lst xs)/\H c=some (.lst ys))/\(Pt RT old σ σV a/\Pt RT old σ σV b/\Pt RT old σ σV c)/\(a≠b/\a≠c/\b≠c)/\(noLs ds=true/\noLs es=true)/\Reps K H (λ_=>False) ds xs/\Reps K H (λ_=>False) es ys
 one:∀(i j:Nat) (ds es ds' es':List D),σ[i]? = some (.par ds es)->σ[j]? = some (.par ds' es')->i=j
def RtO(H:Hp)(a:Addr):Prop:=(∃xs,H a=some (.lst xs))\/∃xs,H a=some (eI a xs)
structure Sx (σ:Sg) (σV:L2.St) (H:Hp):Prop where
 sh:∀(i:Nat) (pa:Bool) (d:D),σ[i]? = some (.sh pa d)->∃v,σV[i]? = some (some v)/\Rep K H (λa=>RT a\/exB Y old pa a) d v
 own:∀(i:Nat) (pa:Bool) (ds:List D),σ[i]? = some (.own pa ds)->∃a xs,σV[i]? = some (some (.ref a))/\H a=some (.lst xs)/\RT a/\¬ old a/\Reps K H (λa=>RT a\/exB Y old pa a) ds xs
 trk:∀a,RT a\/Y a\/old a->H a≠none
 yo:∀a,Y a->old a
 tk:Tk K H
 rt:∀a,RT a->RtO H a
 inj:∀(i j:Nat) (pa pa':Bool) (ds ds':List D) (a:Addr),σ[i]? = some (.own pa ds)->σ[j]? = some (.own pa' ds')->σV[i]? = some (some (.ref a))->σV[j]? = some (some (.ref a))->i=j
 len:σ.length=σV.length
 dx:Dx K RT old σ σV H
def alR(σ:Sg)(σV:L2.St)(al:List Nat)(a:Addr):Prop:=∃j∈al,(∃pa ds,σ[j]? = some (.own pa ds))/\σV[j]? = some (some (.ref a))
def exV(σ:Sg)(σV:L2.St)(pa:Bool)(al:List Nat)(a:Addr):Prop:=(RT a/\¬ alR σ σV al a)\/exB Y old pa a
def Rv(σ:Sg)(σV:L2.St)(H:Hp)(v:Vl)(u:V):Prop:=Rep K H (exV RT Y old σ σV v.pa v.al) v.d u
def Ro(σ:Sg)(σV:L2.St)(H H':Hp)(v:Vl)(u:V):Prop:=
 aG H H'/\(if v.fr=true then ∃a xs ds,u=.ref a/\v.d=.lst ds/\H a=none/\H' a=some (.lst xs)/\Reps K H' (λb=>b=a\/exV RT Y old σ σV v.pa v.al b) ds xs
  else Rv K RT Y old σ σV H' v u)
def Rvs(σ:Sg)(σV:L2.St)(H:Hp):List Vl->List V->Prop
 | [],us=>us=[]
 | v::vs,us=>∃u r,us=u::r/\Rv K RT Y old σ σV H v u/\Rvs σ σV H vs r
end
section
variable {K:Fg} {RT Y old:Addr->Prop} {σ:Sg} {σV:L2.St} {H H' H1 H2:Hp} {v:Vl} {u:V}
theorem oD.imp(hr:∀b ks,SqT K H b ks->SqT K H' b ks){k:NK}{b:Addr}(h:oD K H k b):oD K H' k b:=by
 obtain⟨bs,h1,h2⟩:=h
 refine⟨bs,hr _ _ h1,?_⟩
 clear h1
 induction h2 with
 | nil=>exact .nil
 | cons h t ih=>exact .cons (hr _ _ h) ih
mutual
theorem Rep.noT{ex:Addr->Prop}(hr:∀b ks,SqT K H b ks->SqT K H' b ks):∀(d:D) (v:V),noL d=true->Rep K H ex d v->Rep K H' ex d v
 | .non,_,_,h=>h
 | .bl _,_,_,h=>h
 | .int _,_,_,h=>h
 | .str _,_,_,h=>h
 | .tup ds,_,n,h=>by
  obtain⟨a,xs,e,q,r⟩:=h
  exact⟨a,xs,e,hr _ _ q,Reps.noT hr ds xs (by simpa[noL] using n) r⟩
 | .lst ds,_,n,_=>by simp[noL] at n
 | .dic kvs,_,n,_=>by simp[noL] at n
 | .err _ _,_,n,_=>by simp[noL] at n
theorem Reps.noT{ex:Addr->Prop}(hr:∀b ks,SqT K H b ks->SqT K H' b ks):∀(ds:List D) (xs:List V),noLs ds=true->Reps K H ex ds xs->Reps K H' ex ds xs
 | [],_,_,h=>h
 | d::ds,_,n,h=>by
  obtain⟨x,r,e,h1,h2⟩:=h
  simp only[noLs,bA] at n
  exact⟨x,r,e,Rep.noT hr d x n.1 h1,Reps.noT hr ds r n.2 h2⟩
end
theorem Dx.imp{RT':Addr->Prop}{σ':Sg}{σV':L2.St}(L:Dx K RT old σ σV H)(m:Nat->Nat)(hs:∀j ks,σ'[j]? = some (.dct ks)->σ[m j]? = some (.dct ks)/\σV'[j]? = σV[m j]?)(hm:∀i j ks ks',σ'[i]? = some (.dct ks)->σ'[j]? = some (.dct ks')->m i=m j->i=j)
 (hh:∀a xs,H a=some (eI a xs)->RT a->¬ old a->H' a=some (eI a xs)/\RT' a) (hr:∀b ks,SqT K H b ks->SqT K H' b ks)
 (hs2:∀j ds es,σ'[j]? = some (.par ds es)->σ[m j]? = some (.par ds es)/\σV'[j]? = σV[m j]?) (hm2:∀i j ds es ds' es',σ'[i]? = some (.par ds es)->σ'[j]? = some (.par ds' es')->m i=m j->i=j)
 (hh2:∀p xs,H p=some (.lst xs)->Pt RT old σ σV p->H' p=some (.lst xs)/\Pt RT' old σ' σV' p):Dx K RT' old σ' σV' H' where
 at':=λi ks e=>by
  obtain⟨e1,e2⟩:=hs i ks e
  obtain⟨a,xs,h1,h2,h3,h4,h5,h6⟩:=L.at' (m i) ks e1
  obtain⟨g1,g2⟩:=hh a xs h2 h3 h4
  exact⟨a,xs,by rw[e2];exact h1,g1,g2,h4,h5,λx hx=>oD.imp hr (h6 x hx)⟩
 inj:=λi j ks ks' a q1 q2 v1 v2=>by
  obtain⟨e1,e2⟩:=hs i ks q1
  obtain⟨e3,e4⟩:=hs j ks' q2
  exact hm i j ks ks' q1 q2 (L.inj (m i) (m j) ks ks' a e1 e3 (by rw[<-e2];exact v1) (by rw[<-e4];exact v2))
 at2:=λi ds es e=>by
  obtain⟨e1,e2⟩:=hs2 i ds es e
  obtain⟨a,b,c,xs,ys,h1,⟨ha,hb,hc⟩,⟨pa,pb,pc⟩,hn,⟨n1,n2⟩,r1,r2⟩:=L.at2 (m i) ds es e1
  obtain⟨ha,pa⟩:=hh2 a _ ha pa
  obtain⟨hb,pb⟩:=hh2 b _ hb pb
  obtain⟨hc,pc⟩:=hh2 c _ hc pc
  exact⟨a,b,c,xs,ys,by rw[e2];exact h1,⟨ha,hb,hc⟩,⟨pa,pb,pc⟩,hn,⟨n1,n2⟩,Reps.noT hr ds xs n1 r1,Reps.noT hr es ys n2 r2⟩
 one:=λi j ds es ds' es' q1 q2=>hm2 i j ds es ds' es' q1 q2 (L.one _ _ _ _ _ _ (hs2 i ds es q1).1 (hs2 j ds' es' q2).1)
theorem RtO.grow{a:Addr}(h:RtO H a)(s:aG H H'):RtO H' a:=h.imp (λ⟨xs,e⟩=>⟨xs,s _ _ e⟩) λ⟨xs,e⟩=>⟨xs,s _ _ e⟩
theorem Sx.grow(S:Sx K RT Y old σ σV H)(s:aG H H')(t:Tk K H'):Sx K RT Y old σ σV H' where
 sh:=λi pa d e=>let ⟨v,h1,h2⟩:=S.sh i pa d e;⟨v,h1,h2.grow s⟩
 own:=λi pa ds e=>let ⟨a,xs,h1,h2,h3,h4,h5⟩:=S.own i pa ds e;⟨a,xs,h1,s _ _ h2,h3,h4,h5.grow s⟩
 trk:=λa h z=>S.trk a h (s.free z)
 yo:=S.yo
 tk:=t
 rt:=λa h=>(S.rt a h).grow s
 inj:=S.inj
 len:=S.len
 dx:=S.dx.imp id (λ_ _ e=>⟨e,rfl⟩) (λ_ _ _ _ _ _ e=>e) (λa xs e z _=>⟨s _ _ e,z⟩) (λ_ _ r=>aG.seqT s r) (λ_ _ _ e=>⟨e,rfl⟩) (λ_ _ _ _ _ _ _ _ e=>e) λp xs e z=>⟨s _ _ e,z⟩
theorem exV.trk(S:Sx K RT Y old σ σV H){pa:Bool}{al:List Nat}{a:Addr}(h:exV RT Y old σ σV pa al a):H a≠none:=by
 rcases h with⟨h,_⟩|h|⟨_,h⟩
 . exact S.trk a (.inl h)
 . exact S.trk a (.inr (.inl h))
 . exact S.trk a (.inr (.inr h))
theorem Ro.rv(S:Sx K RT Y old σ σV H)(h:Ro K RT Y old σ σV H H' v u):Rv K RT Y old σ σV H' v u:=by
 obtain⟨s,h⟩:=h
 by_cases hf:v.fr=true
 . rw[if_pos hf] at h
   obtain⟨a,xs,ds,e1,e2,e3,e4,r⟩:=h
   unfold Rv
   rw[e2]
   exact⟨a,xs,e1,SqL.of e4,λz=>exV.trk S z e3,r.weak λb z=>.inr z⟩
 . rw[if_neg hf] at h
   exact h
theorem Rv.grow(h:Rv K RT Y old σ σV H v u)(s:aG H H'):Rv K RT Y old σ σV H' v u:=Rep.grow h s
theorem Rvs.grow:∀{vs:List Vl} {us:List V},Rvs K RT Y old σ σV H vs us->aG H H'->Rvs K RT Y old σ σV H' vs us
 | [],_,h,_=>h
 | v::vs,_,h,s=>by
  obtain⟨u,r,e,h1,h2⟩:=h
  exact⟨u,r,e,h1.grow s,Rvs.grow h2 s⟩
theorem Ro.plain(s:aG H H')(hf:v.fr=false)(h:Rv K RT Y old σ σV H' v u):Ro K RT Y old σ σV H H' v u:=⟨s,by rw[if_neg (by rw[hf];decide)];exact h⟩
theorem Ro.from(h:Ro K RT Y old σ σV H1 H' v u)(s:aG H H1):Ro K RT Y old σ σV H H' v u:=by
 obtain⟨s',h⟩:=h
 refine⟨s.trans s',?_⟩
 by_cases hf:v.fr=true
 . rw[if_pos hf] at h ⊢
   obtain⟨a,xs,ds,e1,e2,e3,e4,r⟩:=h
   exact⟨a,xs,ds,e1,e2,s.free e3,e4,r⟩
 . rw[if_neg hf] at h ⊢
   exact h
theorem Ro.cl{d:D}(s:aG H H')(h:Rep K H' (exV RT Y old σ σV false []) d u):Ro K RT Y old σ σV H H' (.cl d) u:=Ro.plain s rfl h
theorem Rv.sub{d:D}{x:V}{ds:List D}{xs:List V}{j:Nat}(h:Rep K H (exV RT Y old σ σV v.pa v.al) d x):Rv K RT Y old σ σV H (v.sub d) x:=by
 unfold Rv Vl.sub
 by_cases hn:noL d=true
 . rw[if_pos hn]
   exact Rep.free d x hn h
 . rw[if_neg hn]
   exact h
theorem alR.mono{al al':List Nat}{a:Addr}(h:alR σ σV al a)(s:∀j∈al,j∈al'):alR σ σV al' a:=by
 obtain⟨j,hj,q⟩:=h
 exact⟨j,s j hj,q⟩
theorem exV.mono{pa pa':Bool}{al al':List Nat}{a:Addr}(h:exV RT Y old σ σV pa' al' a)(hp:pa=true->pa'=true)(s:∀j∈al,j∈al'):exV RT Y old σ σV pa al a:=by
 rcases h with⟨h1,h2⟩|h|⟨h1,h2⟩
 . exact .inl ⟨h1,λz=>h2 (z.mono s)⟩
 . exact .inr (.inl h)
 . refine .inr (.inr ⟨?_,h2⟩)
   cases pa with
   | false=>rfl
   | true=>rw[hp rfl] at h1;cases h1
theorem Rvs.length:∀{vs:List Vl} {us:List V},Rvs K RT Y old σ σV H vs us->vs.length=us.length
 | [],_,h=>by rw[show _=[] from h];rfl
 | v::vs,_,h=>by
  obtain⟨u,r,e,_,h2⟩:=h
  subst e
  rw[lC,lC,Rvs.length h2]
theorem iM{vs:List Vl}{v:Vl}(h:v∈vs):∀j∈v.al,j∈bI vs:=λj hj=>List.mem_flatMap.mpr ⟨v,h,hj⟩
theorem oH{vs:List Vl}{v:Vl}(h:v∈vs)(hp:v.pa=true):dO vs=true:=List.any_eq_true.mpr ⟨v,h,hp⟩
theorem Rvs.reps:∀{vs:List Vl} {us:List V} {pa:Bool} {al:List Nat},Rvs K RT Y old σ σV H vs us->(∀v∈vs,(v.pa=true->pa=true)/\∀j∈v.al,j∈al) ->
 Reps K H (exV RT Y old σ σV pa al) (vs.map (·.d)) us
 | [],_,_,_,h,_=>h
 | v::vs,_,_,_,h,q=>by
  obtain⟨u,r,e,h1,h2⟩:=h
  have q1:=q v List.mem_cons_self
  exact⟨u,r,e,Rep.weak h1 λa z=>z.mono q1.1 q1.2,Rvs.reps h2 λw hw=>q w (List.mem_cons_of_mem _ hw)⟩
theorem Rvs.all{vs:List Vl}{us:List V}(h:Rvs K RT Y old σ σV H vs us):Reps K H (exV RT Y old σ σV (dO vs) (bI vs)) (vs.map (·.d)) us:=
 h.reps λv hv=>⟨λz=>oH hv z,iM hv⟩
theorem Ro.fresh{p:Addr}{xs:List V}{ds:List D}(hp:H p=none)(ht:Tk K (upd H p (.lst xs)))(hd:v.d=.lst ds)(hf:v.fr=true)(S:Sx K RT Y old σ σV H)(r:Reps K H (exV RT Y old σ σV v.pa v.al) ds xs) :
 Ro K RT Y old σ σV H (upd H p (.lst xs)) v (.ref p):=by
 have s:aG H (upd H p (.lst xs)):=λb o q=>by rw[aE (aO q hp)];exact q
 refine⟨s,?_⟩
 rw[if_pos hf]
 refine⟨p,xs,ds,rfl,hd,hp,aV,?_⟩
 refine Reps.imp (λ_ _ q=>aG.seqT s q) (λa ys n q=>⟨λz=>?_,s.seq q⟩) (λ_ _ _ _ q=>s _ _ q) ds xs r
 rcases z with z|z
 . subst z
   rcases q with(q|⟨o,q⟩)|⟨o,its,n',q,_⟩
   . rw[hp] at q;cases q
   . rw[hp] at q;cases q
   . have z:=ht a (by rw[aV];simp)
     rw[q] at z;cases z
 . exact n z
theorem aG.new{p:Addr}{o:HO}(hp:H p=none):aG H (upd H p o):=λb u q=>by rw[aE (aO q hp)];exact q
theorem Ro.tup{p:Addr}{xs:List V}{ds:List D}(hp:H p=none)(hd:v.d=.tup ds)(hf:v.fr=false)(r:Reps K H (exV RT Y old σ σV v.pa v.al) ds xs) :
 Ro K RT Y old σ σV H (upd H p (.tup xs)) v (.ref p):=by
 refine Ro.plain (aG.new hp) hf ?_
 unfold Rv
 rw[hd]
 exact⟨p,xs,rfl,SqT.of aV,r.grow (aG.new hp)⟩
end
def XW(X:Cx)(σV:L2.St)(H:Hp):D->Prop
 | .err c _=>∀cls:Value,PySem.W.nsIn X.K mainGlobals c=some (some cls)->RX X cls σV H
 | _=>False
def wx(X:Cx)(σV:L2.St)(H:Hp)(x:D):Prop:=∀H',Tk X.K H'->aG H H'->XW X σV H' x
theorem wx.grow{X:Cx}{σV:L2.St}{H H1:Hp}{x:D}(h:wx X σV H x)(s:aG H H1):wx X σV H1 x:=λH' t z=>h H' t (s.trans z)
theorem RE.weak{α:Type}{x:R α}{p:α->Prop}{w w':D->Prop}(h:RE w x p)(f:∀x,w x->w' x):RE w' x p:=by
 cases x with
 | ok a=>exact h
 | exc e=>exact f e h
 | bad=>exact h
theorem RE.at{α:Type}{x:R α}{p:α->Prop}{X:Cx}{σV:L2.St}{H H1:Hp}(h:RE (wx X σV H) x p)(s:aG H H1):RE (wx X σV H1) x p:=h.weak λ_ z=>z.grow s
section
variable (X:Cx) (P:Pg) (cl:Caller) (RT Y old:Addr->Prop)
def wE(σ:Sg)(c:E):TE:=λσV H Q=>Sx X.K RT Y old σ σV H/\RE (wx X σV H) (ev P cl σ c) λv=>∀u H',Tk X.K H'->Ro X.K RT Y old σ σV H H' v u->Q u H'
def wT(σ:Sg)(c:E):TT:=λσV H Q=>Sx X.K RT Y old σ σV H/\RE (wx X σV H) (tst P cl σ c) λk=>∀H',Tk X.K H'->aG H H'->Q k H'
def wA(σ:Sg)(cs:Es):TA:=λσV H Q=>Sx X.K RT Y old σ σV H/\RE (wx X σV H) (evs P cl σ cs) λvs=>∀us H',Tk X.K H'->aG H H'->Rvs X.K RT Y old σ σV H' vs us->Q us H'
end
section
variable {X:Cx} {P:Pg} {cl:Caller} {RT Y old:Addr->Prop} {σ:Sg} {pos:Pos}
theorem _root_.L2.Inv.tk{pins:List (Addr×Obj)}{σV:L2.St}{H:Hp}{s:Shared}(I:Inv X pins σV H s):Tk X.K H:=λb hb=>by
 cases q:X.K.lookup b with
 | none=>rfl
 | some o=>exact absurd (I.bs b o (I.ok.mod.kin b o q)).2 hb
theorem _root_.L2.PE.imp{e:Expr}{t t':TE}(h:PE X e t)(f:∀σV H Q,Tk X.K H->t' σV H Q->t σV H λv H'=>Tk X.K H'->Q v H'):PE X e t':=λpins s σV H Q I hw=>
 thn (h pins s σV H _ I (f σV H Q I.tk hw)) λu s' ⟨v,H',I',r,q⟩=>⟨v,H',I',r,q I'.tk⟩
theorem _root_.L2.PT.imp{e:Expr}{t t':TT}(h:PT X e t)(f:∀σV H Q,Tk X.K H->t' σV H Q->t σV H λv H'=>Tk X.K H'->Q v H'):PT X e t':=λpins s σV H Q I hw=>
 thn (h pins s σV H _ I (f σV H Q I.tk hw)) λk s' ⟨H',I',q⟩=>⟨H',I',q I'.tk⟩
theorem _root_.L2.PA.imp{es:List Expr}{t t':TA}(h:PA X es t)(f:∀σV H Q,Tk X.K H->t' σV H Q->t σV H λv H'=>Tk X.K H'->Q v H'):PA X es t':=λpos pins s σV H Q I hw=>
 thn (h pos pins s σV H _ I (f σV H Q I.tk hw)) λu s' ⟨v,H',I',r,q⟩=>⟨v,H',I',r,q I'.tk⟩
theorem wE.two{a b:E}{σV:L2.St}{H:Hp}{p:Vl->Vl->Prop}{Q:V->V->Hp->Prop}(S:Sx X.K RT Y old σ σV H)(h:RE (wx X σV H) (ev P cl σ a) λx=>RE (wx X σV H) (ev P cl σ b) λy=>p x y)
 (f:∀x y ux uy H2,p x y->Tk X.K H2->aG H H2->Sx X.K RT Y old σ σV H2->Rv X.K RT Y old σ σV H2 x ux->Rv X.K RT Y old σ σV H2 y uy->Q ux uy H2) :
 wE X P cl RT Y old σ a σV H λux H1=>wE X P cl RT Y old σ b σV H1 λuy H2=>Q ux uy H2:=by
 refine⟨S,h.mono λx hx ux H1 t1 r1=>⟨S.grow r1.1 t1,(hx.at r1.1).mono λy hy uy H2 t2 r2=>?_⟩⟩
 have S1:=S.grow r1.1 t1
 exact f x y ux uy H2 hy t2 (r1.1.trans r2.1) (S1.grow r2.1 t2) ((r1.rv S).grow r2.1) (r2.rv S1)
theorem Ro.val{d:D}{u:V}{σV:L2.St}{H H':Hp}(s:aG H H')(h:∀ex,Rep X.K H' ex d u):Ro X.K RT Y old σ σV H H' (.cl d) u:=Ro.cl s (h _)
theorem s_c {d : D} {c : Const} {k : Nat} (h : eqC d c = true) : PE X (.Constant c k pos) (wE X P cl RT Y old σ (.c d)) := by
 have key : ∀ {v : V}, (∀ (H : Hp) ex, Rep X.K H ex d v) -> PE X (.Constant c k pos) (tC v) -> PE X (.Constant c k pos) (wE X P cl RT Y old σ (.c d)) := λ hv hp =>
  hp.imp λ σV H Q t ⟨S, q⟩ t' => q _ H t' (Ro.val (aG.refl H) (hv H))
 cases d with
 | non => cases c with
  | none => exact key (λ _ _ => rfl) aCI
  | _ => cases h
 | bl b => cases c with
  | bool b' => have e : b = b' := by simpa [eqC] using h
               subst e; exact key (λ _ _ => rfl) aEN
  | _ => cases h
 | int b => cases c with
  | int b' => have e : b = b' := by simpa [eqC] using h
              subst e; exact key (λ _ _ => rfl) aCH
  | _ => cases h
 | str b => cases c with
  | str b' => have e : b = b' := by simpa [eqC] using h
              subst e; exact key (λ _ _ => rfl) aCJ
  | _ => cases h
 | _ => cases c <;> cases h
theorem s_v{i:Nat}{x:Str}(hN:X.N[i]? = some x)(hv:Vis X.env.scope x)(hd:(x==("__debug__" : Str))=false)(hcd:(x==("__classdict__" : Str))=false) :
 PE X (.Name x pos) (wE X P cl RT Y old σ (.v i)):=by
 refine(mF hN hv hd hcd).imp λσV H Q t ⟨S,q⟩=>?_
 have q:RE (wx X σV H) (bH σ i) _:=q
 unfold bH at q
 cases e:σ[i]? with
 | none=>rw[e] at q;exact q.elim
 | some sl=>
  rw[e] at q
  cases sl with
  | dead=>exact q.elim
  | dct _=>exact q.elim
  | par _ _=>exact q.elim
  | sh pa d=>
   obtain⟨v,h1,h2⟩:=S.sh i pa d e
   refine⟨v,h1,λt'=>q v H t' (Ro.plain (aG.refl H) rfl ?_)⟩
   unfold Rv
   by_cases hn:noL d=true
   . exact Rep.free d v hn h2
   . refine Rep.weak h2 λa z=>?_
     rcases z with⟨z,_⟩|z|⟨z,z'⟩
     . exact .inl z
     . exact .inr (.inl z)
     . have:pa=false:=by simpa[hn] using z
       exact .inr (.inr ⟨this,z'⟩)
  | own pa ds=>
   obtain⟨a,xs,h1,h2,h3,h4,h5⟩:=S.own i pa ds e
   refine⟨.ref a,h1,λt'=>q _ H t' (Ro.plain (aG.refl H) rfl ?_)⟩
   unfold Rv
   refine⟨a,xs,rfl,SqL.of h2,λz=>?_,h5.weak λb z=>?_⟩
   . rcases z with⟨_,z⟩|z|⟨_,z⟩
     . exact z ⟨i,by simp,⟨pa,ds,e⟩,h1⟩
     . exact h4 (S.yo a z)
     . exact h4 z
   . rcases z with⟨z,_⟩|z
     . exact .inl z
     . exact .inr z
end
section
variable {X:Cx} {RT Y old:Addr->Prop} {σ:Sg} {σV:L2.St} {H:Hp} {s:Shared} {pins:List (Addr×Obj)} {Q:VK} {ux uy:V} {vx vy:Value} {x y:Vl}
theorem _root_.L2.EP.tk{u:Value}{s':Shared}(h:EP X pins σV (λv H'=>Tk X.K H'->Q v H') u s'):EP X pins σV Q u s':=by
 obtain⟨v,H',I',r,q⟩:=h
 exact⟨v,H',I',r,q (Inv.tk I')⟩
abbrev Wn(X:Cx)(RT Y old:Addr->Prop)(σ:Sg)(σV:L2.St)(H:Hp)(Q:VK)(v:Vl):Prop:=∀u H',Tk X.K H'->Ro X.K RT Y old σ σV H H' v u->Q u H'
theorem Wn.val{d:D}{u:V}(w:Wn X RT Y old σ σV H Q (.cl d))(t:Tk X.K H)(h:∀ex,Rep X.K H ex d u):Q u H:=w u H t (Ro.cl (aG.refl H) (h _))
theorem Rv.int{i:Int}{u:V}(h:Rv X.K RT Y old σ σV H x u)(e:x.d=.int i):u=.int i:=by unfold Rv at h;rw[e] at h;exact h
theorem Rv.str{i:Str}{u:V}(h:Rv X.K RT Y old σ σV H x u)(e:x.d=.str i):u=.str i:=by unfold Rv at h;rw[e] at h;exact h
theorem Rv.bl{i:Bool}{u:V}(h:Rv X.K RT Y old σ σV H x u)(e:x.d=.bl i):u=.bl i:=by unfold Rv at h;rw[e] at h;exact h
theorem Rv.non{u:V}(h:Rv X.K RT Y old σ σV H x u)(e:x.d=.non):u=.non:=by unfold Rv at h;rw[e] at h;exact h
theorem Rv.tup{ds:List D}{u:V}(h:Rv X.K RT Y old σ σV H x u)(e:x.d=.tup ds):∃a xs,u=.ref a/\SqT X.K H a xs/\Reps X.K H (exV RT Y old σ σV x.pa x.al) ds xs:=by unfold Rv at h;rw[e] at h;exact h
theorem Rv.lst{ds:List D}{u:V}(h:Rv X.K RT Y old σ σV H x u)(e:x.d=.lst ds):∃a xs,u=.ref a/\SqL X.K H a xs/\¬ exV RT Y old σ σV x.pa x.al a/\Reps X.K H (exV RT Y old σ σV x.pa x.al) ds xs:=by unfold Rv at h;rw[e] at h;exact h
theorem aDp:lim<=sizeLine:=by unfold lim;rw[sizeLine_eq];decide
theorem cN{n:Nat}(h:n<=lim):n<=sizeLine:=Nat.le_trans h aDp
theorem eW{ds:List D}{xs:List V}{pa:Bool}{al:List Nat}{K:Fg}(r:Reps K H (exV RT Y old σ σV pa al) ds xs) :
 Reps K H (exV RT Y old σ σV (pa&&!noLs ds) (if noLs ds=true then [] else al)) ds xs:=by
 by_cases hn:noLs ds=true
 . exact Reps.free ds xs hn r
 . rw[if_neg hn]
   refine r.weak λa z=>z.mono (λhp=>?_) λj hj=>hj
   rw[hp];simp[hn]
def aFO(K:Fg):R2:=λx y H Q=>∃l b xs zs,x=.ref l/\y=.ref b/\SqL K H l xs/\SqL K H b zs/\xs.length+zs.length<=sizeLine/\∀p,H p=none->Q (.ref p) (upd H p (.lst (xs++zs)))
theorem aAO:OpR X (binaryOp .Add) (aFO X.K):=by
 intro pins s σV H x y v u Q I rx ry h
 obtain⟨l,b,xs,zs,rfl,rfl,hH,hB,hz,q⟩:=h
 cases rx
 cases ry
 obtain⟨its,r,pl,z⟩:=I.list hH
 obtain⟨its2,r2,pl2,z2⟩:=I.list hB
 obtain⟨⟨cls,dd,data,sl⟩,ho,hc,n,hd⟩:=pl.isList
 obtain⟨⟨cls2,dd2,data2,sl2⟩,ho2,hc2,n2,hd2⟩:=pl2.isList
 simp only at hc hd hc2 hd2
 subst hc hd hc2 hd2
 have e:its.toArray++its2.toArray=(its++its2).toArray:=by simp
 have hl:=r.length
 have hl2:=r2.length
 refine concat_meets ⟨_,ho,rfl⟩ ⟨_,ho2,rfl⟩ noFill_list_add seq_list_add PySem.F.slot_list_add PySem.F.entry_list_add (PySem.F.args_list_add_2 _ _) (list_addW l b its.toArray its2.toArray n n2 dd dd2 sl sl2 (by rw[List.size_toArray,List.size_toArray];omega)) ⟨ho,ho2,?_⟩
 rw[e]
 exact⟨.ref _,_,I.lnew (t':=s.toks) (r.append r2) (by rw[lA];omega),rfl,q _ I.fresh⟩
theorem aAP(x:Str):Str.rep x 1=x:=by
 unfold Str.rep
 cases x
 simp
theorem uG(x:Str)(h:x.length=0)(k:Nat):Str.rep x k=x:=by
 have hx:x.cps=#[]:=by
  unfold Str.length at h
  exact Array.eq_empty_of_size_eq_zero h
 have go:∀k,(List.replicate k x.cps).foldl (·++·) #[]=#[]:=by
  intro k
  rw[hx]
  induction k with
  | zero=>rfl
  | succ k ih=>rw[List.replicate_succ,List.foldl_cons];simpa using ih
 unfold Str.rep
 rw[go k]
 cases x
 simp at hx
 rw[hx]
theorem qP(x:Str)(k:Nat):(⟨(List.replicate k x.cps).foldl (·++·) #[]⟩:Str).length=x.length*k:=by
 have go:∀(k:Nat) (acc:Array Nat),((List.replicate k x.cps).foldl (·++·) acc).size=acc.size+x.cps.size*k:=by
  intro k
  induction k with
  | zero=>intro acc;simp
  | succ k ih=>
   intro acc
   rw[List.replicate_succ,List.foldl_cons,ih,Array.size_append,Nat.mul_succ]
   omega
 show((List.replicate k x.cps).foldl (·++·) #[]).size=x.cps.size*k
 rw[go]
 simp
theorem aAQ:OpR X (binaryOp .Mult) (λx y H Q=>∃a k,x=.str a/\y=.int k/\aF k=true/\a.length*k.toNat<=lim/\Q (.str (Str.rep a k.toNat)) H):=by
 intro pins s σV H x y v u Q I rx ry h
 obtain⟨a,k,rfl,rfl,hk,hl,q⟩:=h
 obtain⟨t,rfl⟩:=rx
 obtain⟨t',rfl⟩:=ry
 unfold aF at hk
 simp only[bA,decide_eq_true_eq] at hk
 have h1:-(2 ^ 62:Int)<=k:=hk.1
 have h2:k<(2 ^ 62:Int):=hk.2
 have e1:decide (k < -(2 ^ 63:Int))=false:=decide_eq_false (by omega)
 have e2:decide (k ≥ (2 ^ 63:Int))=false:=decide_eq_false (by omega)
 have fin:∀z:Str,z=Str.rep a k.toNat->∀tk,EP X pins σV Q (.str z tk) { s with toks:=s.toks+1 }:=λz e tk=>by
  subst e
  exact⟨.str _,H,I.tok _,⟨_,rfl⟩,q⟩
 refine P.mul_str (by rw[e1,e2];rfl) (λn1 n2 z=>?_) (λn1 n2=>?_) ?_
 . have k1:1<=k:=by omega
   have z1:(a.length:Int)*k<=(lim:Int):=by
    have hk':((k.toNat:Nat):Int)=k:=by omega
    have:=Int.ofNat_le.mpr hl
    rw[Int.natCast_mul] at this
    rw[<-hk']
    exact_mod_cast this
   have z2:(2 ^ 63-1:Int) / k<a.length:=z
   have z3:(2 ^ 63-1:Int)<a.length*k:=Int.lt_mul_of_ediv_lt (by omega) z2
   have z4:(lim:Int)=1000000:=rfl
   omega
 . unfold Builtin.Str.tooLong
   have:=cN hl
   exact decide_eq_false (by omega)
 . split
   . rename_i hn
     have:k.toNat=0:=by omega
     refine⟨by decide,?_⟩
     exact fin _ (by rw[this];rfl) _
   . split
     . rename_i hn h1'
       have hz:Str.rep a k.toNat=a:=by
        rcases Bool.or_eq_true_iff.mp h1' with z|z
        . have:k=1:=eq_of_beq z
          subst this
          exact aAP a
        . exact uG a (eq_of_beq z) _
       exact⟨.str a,H,I,⟨_,rfl⟩,by rw[hz] at q;exact q⟩
     . refine⟨?_,fin _ rfl _⟩
       have:=cN hl
       rw[qP]
       exact this
def aDq(K:Fg):R2:=λx y H Q=>∃a b xs ys,x=.ref a/\y=.ref b/\SqT K H a xs/\SqT K H b ys/\xs.length+ys.length<=sizeLine /\
 (xs=[]->Q (.ref b) H)/\(xs≠[]->ys=[]->Q (.ref a) H)/\(xs≠[]->ys≠[]->∀p,H p=none->Q (.ref p) (upd H p (.tup (xs++ys))))
theorem xF:OpR X (binaryOp .Add) (aDq X.K):=by
 intro pins s σ H x y v u Q I rx ry h
 obtain⟨a,b,xs,ys,rfl,rfl,ha,hb,hz,q0,q1,q2⟩:=h
 by_cases hx:xs=[]
 . cases rx
   cases ry
   obtain⟨its,r1,p1,_⟩:=I.tuple ha
   obtain⟨its2,r2,p2,_⟩:=I.tuple hb
   obtain⟨⟨cls,dd,data,sl⟩,ho,hc,n,hd⟩:=id p1
   obtain⟨⟨cls2,dd2,data2,sl2⟩,ho2,hc2,n2,hd2⟩:=id p2
   simp only at hc hd hc2 hd2
   subst hc hd hc2 hd2
   have hi:its=[]:=r1.nil_iff.mpr hx
   exact concat_meets ⟨_,ho,rfl⟩ ⟨_,ho2,rfl⟩ noFill_tuple_add seq_tuple_add PySem.F.slot_tuple_add PySem.F.entry_tuple_add (PySem.F.args_tuple_add_2 _ _)
    (tuple_addW0 a b its.toArray its2.toArray n n2 dd dd2 sl sl2 (by simp[hi])) ⟨ho,ho2,⟨.ref b,H,I,rfl,q0 hx⟩⟩
 . exact aAE pins s σ H _ _ v u Q I rx ry ⟨a,b,xs,ys,rfl,rfl,ha,hb,hx,hz,q1 hx,q2 hx⟩
theorem xG{o:Operator}(I:Inv X pins σV H s)(S:Sx X.K RT Y old σ σV H)(rx:aR ux vx)(ry:aR uy vy)(hx:Rv X.K RT Y old σ σV H x ux)(hy:Rv X.K RT Y old σ σV H y uy)
 (hfr:x.fr=true->∃a xs,ux=.ref a/\H a=some (.lst xs)) {w:D->Prop} (h:RE w (opD o x y) (Wn X RT Y old σ σV H Q)):wpAny (model X.prog X.w) X.A (binaryOp o vx vy) (EP X pins σV Q) X.xe s:=by
 have t:=Inv.tk I
 have go:∀{f:Value->Value->Sem Value} {r:R2},OpR X f r->(r ux uy H λv H'=>Tk X.K H'->Q v H')->wpAny (model X.prog X.w) X.A (f vx vy) (EP X pins σV Q) X.xe s:=λhr q=>
  thn (hr pins s σV H ux uy vx vy _ I rx ry q) λu s' z=>EP.tk z
 cases o with
 | Add=>
  have h:RE w (aAL x y) (Wn X RT Y old σ σV H Q):=h
  unfold aAL at h
  split at h
  . rename_i i j d1 d2
    exact go aCV ⟨i,j,hx.int d1,hy.int d2,λ_=>h.val t λ_=>rfl⟩
  . rename_i i j d1 d2
    obtain⟨c,h⟩:=h.iff
    exact go qD ⟨i,j,hx.str d1,hy.str d2,cN (of_decide_eq_true c),λ_=>Wn.val h t λ_=>rfl⟩
  . rename_i as bs d1 d2
    obtain⟨c,h⟩:=h.iff
    obtain⟨a,xs,e1,q1,r1⟩:=hx.tup d1
    obtain⟨b,ys,e2,q2,r2⟩:=hy.tup d2
    have l1:=r1.length
    have l2:=r2.length
    have c':=of_decide_eq_true c
    have r1':Reps X.K H (exV RT Y old σ σV (x.pa||y.pa) (x.al++y.al)) as xs:=r1.weak λa z=>z.mono (λhp=>by rw[hp];rfl) λj hj=>List.mem_append_left _ hj
    have r2':Reps X.K H (exV RT Y old σ σV (x.pa||y.pa) (x.al++y.al)) bs ys:=r2.weak λa z=>z.mono (λhp=>by rw[hp,Bool.or_true]) λj hj=>List.mem_append_right _ hj
    refine go xF ⟨a,b,xs,ys,e1,e2,q1,q2,cN (by omega),λz t'=>?_,λz z' t'=>?_,λz z' p hp t'=>?_⟩
    . subst z
      have:as=[]:=List.length_eq_zero_iff.mp (by simpa using l1)
      subst this
      exact h _ _ t' (Ro.plain (aG.refl H) rfl ⟨b,ys,rfl,q2,r2'⟩)
    . subst z'
      have:bs=[]:=List.length_eq_zero_iff.mp (by simpa using l2)
      subst this
      exact h _ _ t' (Ro.plain (aG.refl H) rfl ⟨a,xs,rfl,q1,by rw[List.append_nil];exact r1'⟩)
    . exact h _ _ t' (Ro.tup hp rfl rfl (r1'.append r2'))
  . rename_i as bs d1 d2
    obtain⟨c,h⟩:=h.iff
    obtain⟨a,xs,e1,q1,_,r1⟩:=hx.lst d1
    obtain⟨b,ys,e2,q2,_,r2⟩:=hy.lst d2
    have l1:=r1.length
    have l2:=r2.length
    have c':=of_decide_eq_true c
    refine go aAO ⟨a,b,xs,ys,e1,e2,q1,q2,cN (by omega),λp hp t'=>h _ _ t' (Ro.fresh hp t' rfl rfl S ?_)⟩
    refine Reps.append ((eW r1).weak λa z=>z.mono (λhp=>?_) λj hj=>List.mem_append_left _ hj) ((eW r2).weak λa z=>z.mono (λhp=>?_) λj hj=>List.mem_append_right _ hj)
    . show(_||_)=true
      rw[hp];rfl
    . show(_||_)=true
      rw[hp,Bool.or_true]
  . exact h.elim
 | Mult=>
  have h:RE w (aAM x y) (Wn X RT Y old σ σV H Q):=h
  unfold aAM at h
  split at h
  . rename_i i j d1 d2
    obtain⟨c,h⟩:=h.iff
    refine go aCX ⟨i,j,hx.int d1,hy.int d2,?_,λ_=>Wn.val h t λ_=>rfl⟩
    simp only[jM,Bool.or_eq_true,bA,decide_eq_true_eq] at c
    exact c
  . rename_i i j d1 d2
    obtain⟨c,h⟩:=h.iff
    simp only[bA,decide_eq_true_eq] at c
    exact go aAQ ⟨i,j,hx.str d1,hy.int d2,c.1,c.2,λ_=>Wn.val h t λ_=>rfl⟩
  . rename_i as k d1 d2
    obtain⟨c,h⟩:=h.iff
    simp only[bA,decide_eq_true_eq] at c
    obtain⟨a,xs,e1,q1,_,r1⟩:=hx.lst d1
    obtain⟨a',xs',e1',q1'⟩:=hfr c.1.1.1
    rw[e1] at e1'
    cases e1'
    have e3:xs=xs':=I.list_inj q1 (SqL.of q1')
    subst e3
    have l1:=r1.length
    have hk:=c.1.1.2
    unfold aF at hk
    simp only[bA,decide_eq_true_eq] at hk
    have hk1:=hk.1
    have hk2:=hk.2
    refine go aDj ⟨a,k,xs,e1,hy.int d2,q1',by omega,by omega,cN (by rw[<-l1];exact c.1.2),λp hp t'=>h _ _ t' (Ro.fresh hp t' rfl rfl S ?_)⟩
    exact Reps.flat (Reps.free as xs c.2 r1) _
  . rename_i as k d1 d2
    obtain⟨c,h⟩:=h.iff
    simp only[bA,decide_eq_true_eq,Bool.not_eq_true',List.isEmpty_eq_false_iff] at c
    obtain⟨⟨⟨⟨c1,c2⟩,c3⟩,c4⟩,c5⟩:=c
    obtain⟨a,xs,e1,q1,r1⟩:=hx.tup d1
    have l1:=r1.length
    unfold aF at c2
    simp only[bA,decide_eq_true_eq] at c2
    have hk2:=c2.2
    have r2:=Reps.flat (Reps.free (ex':=exV RT Y old σ σV false []) as xs c5 r1) k.toNat
    refine go aAK ⟨a,k,xs,e1,hy.int d2,q1,λz=>c3 (List.length_eq_zero_iff.mp (by rw[l1,z];rfl)),c1,by omega,cN (by rw[<-l1];exact c4),λz t'=>?_,λ_ p hp t'=>h _ _ t' (Ro.tup hp rfl rfl r2)⟩
    subst z
    have e:∀{α:Type} (l:List α),(List.replicate (1:Int).toNat l).flatten=l:=λl=>by simp
    rw[e] at h
    rw[e,e] at r2
    exact h _ _ t' (Ro.cl (aG.refl H) ⟨a,xs,rfl,q1,r2⟩)
  . exact h.elim
 | Sub=>
  dsimp only[opD,mV] at h
  split at h
  . rename_i i j d1 d2
    exact go aCW ⟨i,j,hx.int d1,hy.int d2,λ_=>h.val t λ_=>rfl⟩
  . exact h.elim
 | FloorDiv=>
  dsimp only[opD,mV] at h
  split at h
  . rename_i i j d1 d2
    obtain⟨c,h⟩:=h.iff
    refine go aAv ⟨i,j,hx.int d1,hy.int d2,?_,λ_=>Wn.val h t λ_=>rfl⟩
    simp only[nY,bA,decide_eq_true_eq] at c
    exact c
  . exact h.elim
 | Mod=>
  dsimp only[opD,mV] at h
  split at h
  . rename_i i j d1 d2
    obtain⟨c,h⟩:=h.iff
    exact go aCY ⟨i,j,hx.int d1,hy.int d2,of_decide_eq_true c,λ_=>Wn.val h t λ_=>rfl⟩
  . exact h.elim
 | Pow=>
  dsimp only[opD,mV] at h
  split at h
  . rename_i i j d1 d2
    obtain⟨c,h⟩:=h.iff
    refine go aCZ ⟨i,j,hx.int d1,hy.int d2,?_,λ_=>Wn.val h t λ_=>rfl⟩
    simp only[rV,bA,decide_eq_true_eq] at c
    exact⟨c.1.1,by omega,c.2⟩
  . exact h.elim
 | _=>exact h.elim
end
end Hp
end
noncomputable section
namespace Hp
open PySem PySem.Spec PyProof.Rows L2 PySem.SeqAt
def eL(n:Nat)(ds es:List D)(j:Nat):Bool:=match ds[j]?,es[j]? with
 | some x,some y=>(eqF n x y).getD false
 | _,_=>false
theorem sB:∀{n:Nat} {ds es:List D} {k:Bool},bY n ds es=some k->∀{j:Nat} {x y:D},ds[j]? = some x->es[j]? = some y->∃b,eqF n x y=some b
 | n,[],es,k,h,j,x,y,e1,e2=>by simp at e1
 | n,d::ds,[],k,h,j,x,y,e1,e2=>by simp at e2
 | n,d::ds,e::es,k,h,j,x,y,e1,e2=>by
  rw[bY] at h
  cases h1:eqF n d e with
  | none=>rw[h1] at h;simp at h
  | some b=>
   cases h2:bY n ds es with
   | none=>rw[h1,h2] at h;simp at h
   | some b'=>
    cases j with
    | zero=>simp at e1 e2;subst e1 e2;exact⟨b,h1⟩
    | succ j=>exact sB h2 (by simpa using e1) (by simpa using e2)
theorem jP:∀{n:Nat} {ds es:List D} {k:Bool},bY n ds es=some k->k=((List.range (min ds.length es.length)).all (eL n ds es)&&ds.length==es.length)
 | n,[],[],k,h=>by simp[bY] at h;simp[<-h]
 | n,[],e::es,k,h=>by simp[bY] at h;simp[<-h]
 | n,d::ds,[],k,h=>by simp[bY] at h;simp[<-h]
 | n,d::ds,e::es,k,h=>by
  rw[bY] at h
  cases h1:eqF n d e with
  | none=>rw[h1] at h;simp at h
  | some b=>
   cases h2:bY n ds es with
   | none=>rw[h1,h2] at h;simp at h
   | some b'=>
    rw[h1,h2] at h
    have hk:(b&&b')=k:=Option.some.inj h
    have ih:=jP h2
    have e0:eL n (d::ds) (e::es) 0=b:=by simp[eL,h1]
    have es':∀j,eL n (d::ds) (e::es) (j+1)=eL n ds es j:=λj=>by simp[eL]
    have hm:min (d::ds).length (e::es).length=min ds.length es.length+1:=by simp only[lC];omega
    rw[hm,List.range_succ_eq_map,List.all_cons,e0,List.all_map]
    have:(eL n (d::ds) (e::es))∘Nat.succ=eL n ds es:=funext λj=>es' j
    rw[this,<-hk,ih]
    simp[Bool.and_assoc]
section
variable {X:Cx} {σV:L2.St} {H:Hp} {s:Shared} {pins:List (Addr×Obj)}
theorem _root_.L2.Inv.lt_ne(I:L2.Inv X pins σV H s){a:Addr}{xs ys:List V}(h1:SqL X.K H a xs)(h2:SqT X.K H a ys):False:=by
 obtain⟨its,_,pl,_⟩:=I.list h1
 obtain⟨its2,_,pt,_⟩:=I.tuple h2
 exact ne_of_list_tuple pl.isList (show s.heap.IsTuple a its2.toArray from pt) rfl
theorem xH{n:Nat}{ds:List (D×D)}{e:D}{k:Bool}(h:eqF (n+1) (.dic ds) e=some k):False:=by
 unfold eqF at h
 split at h <;> first|(cases h;done)|(rename_i e1 e2;cases e1;done)|(rename_i e1;cases e1;done)
mutual
theorem mY(I:L2.Inv X pins σV H s):∀(n:Nat) (d e:D) (u:V) (k:Bool) (ex ex':Addr->Prop),Rep X.K H ex d u->Rep X.K H ex' e u->eqF n d e=some k->k=true
 | 0,d,e,u,k,_,_,_,_,h=>by simp[eqF] at h
 | n+1,.non,e,u,k,_,_,h1,h2,h=>by
  rw[show u=.non from h1] at h2
  cases e with
  | non=>simpa[eqF] using h.symm
  | tup ds=>obtain⟨a,xs,z,_⟩:=h2;cases z
  | lst ds=>obtain⟨a,xs,z,_⟩:=h2;cases z
  | dic ds=>obtain⟨a,xs,z,_⟩:=h2;cases z
  | err _ _=>simp[eqF] at h
  | bl b=>cases(show V.non=.bl b from h2)
  | int b=>cases(show V.non=.int b from h2)
  | str b=>cases(show V.non=.str b from h2)
 | n+1,.bl b,e,u,k,_,_,h1,h2,h=>by
  rw[show u=.bl b from h1] at h2
  cases e with
  | bl b'=>cases(show V.bl b=.bl b' from h2);simpa[eqF] using h.symm
  | tup ds=>obtain⟨a,xs,z,_⟩:=h2;cases z
  | lst ds=>obtain⟨a,xs,z,_⟩:=h2;cases z
  | dic ds=>obtain⟨a,xs,z,_⟩:=h2;cases z
  | err _ _=>simp[eqF] at h
  | non=>cases(show V.bl b=.non from h2)
  | int b'=>cases(show V.bl b=.int b' from h2)
  | str b'=>cases(show V.bl b=.str b' from h2)
 | n+1,.int b,e,u,k,_,_,h1,h2,h=>by
  rw[show u=.int b from h1] at h2
  cases e with
  | int b'=>cases(show V.int b=.int b' from h2);simpa[eqF] using h.symm
  | tup ds=>obtain⟨a,xs,z,_⟩:=h2;cases z
  | lst ds=>obtain⟨a,xs,z,_⟩:=h2;cases z
  | dic ds=>obtain⟨a,xs,z,_⟩:=h2;cases z
  | err _ _=>simp[eqF] at h
  | non=>cases(show V.int b=.non from h2)
  | bl b'=>cases(show V.int b=.bl b' from h2)
  | str b'=>cases(show V.int b=.str b' from h2)
 | n+1,.str b,e,u,k,_,_,h1,h2,h=>by
  rw[show u=.str b from h1] at h2
  cases e with
  | str b'=>cases(show V.str b=.str b' from h2);simpa[eqF] using h.symm
  | tup ds=>obtain⟨a,xs,z,_⟩:=h2;cases z
  | lst ds=>obtain⟨a,xs,z,_⟩:=h2;cases z
  | dic ds=>obtain⟨a,xs,z,_⟩:=h2;cases z
  | err _ _=>simp[eqF] at h
  | non=>cases(show V.str b=.non from h2)
  | bl b'=>cases(show V.str b=.bl b' from h2)
  | int b'=>cases(show V.str b=.int b' from h2)
 | n+1,.tup ds,e,u,k,ex,ex',h1,h2,h=>by
  obtain⟨a,xs,z,q,r⟩:=h1
  subst z
  cases e with
  | tup es=>
   obtain⟨a',ys,z,q',r'⟩:=h2
   cases z
   have:xs=ys:=I.tuple_inj q q'
   subst this
   exact eqs_same I n ds es xs k ex ex' r r' (by simpa[eqF] using h)
  | lst es=>
   obtain⟨a',ys,z,q',_,r'⟩:=h2
   cases z
   exact(I.lt_ne q' q).elim
  | dic ds=>simp[eqF] at h
  | err _ _=>simp[eqF] at h
  | non=>cases(show V.ref a=.non from h2)
  | bl b'=>cases(show V.ref a=.bl b' from h2)
  | int b'=>cases(show V.ref a=.int b' from h2)
  | str b'=>cases(show V.ref a=.str b' from h2)
 | n+1,.lst ds,e,u,k,ex,ex',h1,h2,h=>by
  obtain⟨a,xs,z,q,_,r⟩:=h1
  subst z
  cases e with
  | lst es=>
   obtain⟨a',ys,z,q',_,r'⟩:=h2
   cases z
   have:xs=ys:=I.list_inj q q'
   subst this
   have hl:ds.length=es.length:=r.length.trans r'.length.symm
   exact eqs_same I n ds es xs k ex ex' r r' (by simpa[eqF,hl] using h)
  | tup es=>
   obtain⟨a',ys,z,q',r'⟩:=h2
   cases z
   exact(I.lt_ne q q').elim
  | dic ds=>simp[eqF] at h
  | err _ _=>simp[eqF] at h
  | non=>cases(show V.ref a=.non from h2)
  | bl b'=>cases(show V.ref a=.bl b' from h2)
  | int b'=>cases(show V.ref a=.int b' from h2)
  | str b'=>cases(show V.ref a=.str b' from h2)
 | n+1,.dic ds,e,u,k,ex,ex',h1,h2,h=>by
  exact(xH h).elim
 | n+1,.err _ _,e,u,k,ex,ex',h1,h2,h=>by cases e <;> cases h
theorem eqs_same(I:L2.Inv X pins σV H s):∀(n:Nat) (ds es:List D) (us:List V) (k:Bool) (ex ex':Addr->Prop),Reps X.K H ex ds us->Reps X.K H ex' es us->bY n ds es=some k->k=true
 | n,[],[],us,k,_,_,h1,h2,h=>by simpa[bY] using h.symm
 | n,[],e::es,us,k,_,_,h1,h2,h=>by
  obtain⟨x,r,z,_⟩:=h2
  rw[show us=[] from h1] at z;cases z
 | n,d::ds,[],us,k,_,_,h1,h2,h=>by
  obtain⟨x,r,z,_⟩:=h1
  rw[show us=[] from h2] at z;cases z
 | n,d::ds,e::es,us,k,ex,ex',h1,h2,h=>by
  obtain⟨x,r,z,a1,b1⟩:=h1
  obtain⟨x',r',z',a2,b2⟩:=h2
  rw[z] at z'
  cases z'
  rw[bY] at h
  cases q1:eqF n d e with
  | none=>rw[q1] at h;simp at h
  | some b=>
   cases q2:bY n ds es with
   | none=>rw[q1,q2] at h;simp at h
   | some b'=>
    rw[q1,q2] at h
    have e1:=mY I n d e x b ex ex' a1 a2 q1
    have e2:=eqs_same I n ds es r b' ex ex' b1 b2 q2
    subst e1 e2
    simpa using h.symm
end
def Eq3(A:Around)(s:Shared)(v z:Value)(k:Bool):Prop:=EqAt A s v z k/\RcAt A s v z k/\RcNeAt A s v z (!k)
theorem sC{xs:List V}{us:List Value}(r:aJ xs us){j:Nat}(h:j<us.toArray.size):∃x,xs[j]? = some x/\aR x us.toArray[j]:=by
 have hl:=r.length
 have hj:j<xs.length:=by rw[List.size_toArray] at h;omega
 obtain⟨u,e,q⟩:=r.get (List.getElem?_eq_getElem hj)
 refine⟨xs[j],List.getElem?_eq_getElem hj,?_⟩
 have:us.toArray[j]=u:=by
  have e':us[j]? = some us.toArray[j]:=by simp[List.getElem?_eq_getElem (show j<us.length by simpa using h)]
  rw[e'] at e
  exact Option.some.inj e
 rw[this]
 exact q
theorem uH(A:Around):A.in1.units=A.units+1:=rfl
theorem aAR(I:L2.Inv X pins σV H s):∀(n:Nat) (A:Around) (d e:D) (u w:V) (v z:Value) (k:Bool) (ex ex':Addr->Prop),A.units+n<cLine->Rep X.K H ex d u->Rep X.K H ex' e w->aR u v->aR w z->eqF n d e=some k->Eq3 A s v z k:=by
 intro n
 induction n with
 | zero=>intro A d e u w v z k ex ex' _ _ _ _ _ h;simp[eqF] at h
 | succ n ih=>
  intro A d e u w v z k ex ex' hA h1 h2 r1 r2 h
  have hu:A.units<cLine:=by omega
  have items:∀{ds es:List D} {xs ys:List V} {its its2:List Value} {k:Bool},Reps X.K H ex ds xs->Reps X.K H ex' es ys->aJ xs its->aJ ys its2->bY n ds es=some k ->
   ∀j (_:j<its.toArray.size) (_:j<its2.toArray.size),EqAt A.in1 s its.toArray[j] its2.toArray[j] (eL n ds es j):=by
   intro ds es xs ys its its2 k q1 q2 v1 v2 hk j hj1 hj2
   obtain⟨x,ex1,rx⟩:=sC v1 hj1
   obtain⟨y,ey1,ry⟩:=sC v2 hj2
   obtain⟨d',ed,rd⟩:=q1.get' ex1
   obtain⟨e',ee,re⟩:=q2.get' ey1
   obtain⟨b,hb⟩:=sB hk ed ee
   have hj:eL n ds es j=b:=by simp[eL,ed,ee,hb]
   rw[hj]
   exact(ih A.in1 d' e' x y _ _ b ex ex' (by rw[uH];omega) rd re rx ry hb).1
  cases d with
  | err _ _=>cases e <;> cases h
  | dic ds=>
   exact(xH h).elim
  | non=>
   rw[show u=.non from h1] at r1
   cases r1
   cases e with
   | err _ _=>simp[eqF] at h
   | dic _=>simp[eqF] at h
   | non=>rw[show w=.non from h2] at r2;cases r2;simp[eqF] at h;subst h;exact⟨EqAt.same _,RcAt.none_none,RcNeAt.none_none⟩
   | bl b=>rw[show w=.bl b from h2] at r2;cases r2;simp[eqF] at h;subst h;exact⟨EqAt.none_bool _,RcAt.none_bool _,RcNeAt.none_bool _⟩
   | int b=>rw[show w=.int b from h2] at r2;obtain⟨t,rfl⟩:=r2;simp[eqF] at h;subst h;exact⟨EqAt.none_int _ _,RcAt.none_int _ _,RcNeAt.none_int _ _⟩
   | str b=>rw[show w=.str b from h2] at r2;obtain⟨t,rfl⟩:=r2;simp[eqF] at h;subst h;exact⟨EqAt.none_str _ _,RcAt.none_str _ _,RcNeAt.none_str _ _⟩
   | tup es=>
    obtain⟨b,ys,rfl,q,r⟩:=h2
    cases r2
    obtain⟨its,_,p,_⟩:=I.tuple q
    simp[eqF] at h;subst h
    exact⟨EqAt.none_tuple (show s.heap.IsTuple b its.toArray from p) hu,RcAt.none_tuple (show s.heap.IsTuple b its.toArray from p) hu,RcNeAt.none_tuple (show s.heap.IsTuple b its.toArray from p) hu⟩
   | lst es=>
    obtain⟨b,ys,rfl,q,_,r⟩:=h2
    cases r2
    obtain⟨its,_,p,_⟩:=I.list q
    simp[eqF] at h;subst h
    exact⟨EqAt.none_list p.isList hu,RcAt.none_list p.isList hu,RcNeAt.none_list p.isList hu⟩
  | bl a=>
   rw[show u=.bl a from h1] at r1
   cases r1
   cases e with
   | err _ _=>simp[eqF] at h
   | dic _=>simp[eqF] at h
   | non=>rw[show w=.non from h2] at r2;cases r2;simp[eqF] at h;subst h;exact⟨EqAt.bool_none _,RcAt.bool_none _,RcNeAt.bool_none _⟩
   | bl b=>rw[show w=.bl b from h2] at r2;cases r2;simp only[eqF,Option.some.injEq] at h;subst h;exact⟨EqAt.bool_bool _ _,RcAt.bool_bool _ _,RcNeAt.bool_bool _ _⟩
   | int b=>rw[show w=.int b from h2] at r2;obtain⟨t,rfl⟩:=r2;simp only[eqF,Option.some.injEq] at h;subst h;exact⟨EqAt.bool_int _ _ _,RcAt.bool_int _ _ _,RcNeAt.bool_int _ _ _⟩
   | str b=>rw[show w=.str b from h2] at r2;obtain⟨t,rfl⟩:=r2;simp[eqF] at h;subst h;exact⟨EqAt.bool_str _ _ _,RcAt.bool_str _ _ _,RcNeAt.bool_str _ _ _⟩
   | tup es=>
    obtain⟨b,ys,rfl,q,r⟩:=h2
    cases r2
    obtain⟨its,_,p,_⟩:=I.tuple q
    simp[eqF] at h;subst h
    exact⟨EqAt.bool_tuple _ (show s.heap.IsTuple b its.toArray from p) hu,RcAt.bool_tuple _ (show s.heap.IsTuple b its.toArray from p) hu,RcNeAt.bool_tuple _ (show s.heap.IsTuple b its.toArray from p) hu⟩
   | lst es=>
    obtain⟨b,ys,rfl,q,_,r⟩:=h2
    cases r2
    obtain⟨its,_,p,_⟩:=I.list q
    simp[eqF] at h;subst h
    exact⟨EqAt.bool_list _ p.isList hu,RcAt.bool_list _ p.isList hu,RcNeAt.bool_list _ p.isList hu⟩
  | int a=>
   rw[show u=.int a from h1] at r1
   obtain⟨t1,rfl⟩:=r1
   cases e with
   | err _ _=>simp[eqF] at h
   | dic _=>simp[eqF] at h
   | non=>rw[show w=.non from h2] at r2;cases r2;simp[eqF] at h;subst h;exact⟨EqAt.int_none _ _,RcAt.int_none _ _,RcNeAt.int_none _ _⟩
   | bl b=>rw[show w=.bl b from h2] at r2;cases r2;simp only[eqF,Option.some.injEq] at h;subst h;exact⟨EqAt.int_bool _ _ _,RcAt.int_bool _ _ _,RcNeAt.int_bool _ _ _⟩
   | int b=>rw[show w=.int b from h2] at r2;obtain⟨t,rfl⟩:=r2;simp only[eqF,Option.some.injEq] at h;subst h;exact⟨EqAt.int_int _ _ _ _,RcAt.int_int _ _ _ _,RcNeAt.int_int _ _ _ _⟩
   | str b=>rw[show w=.str b from h2] at r2;obtain⟨t,rfl⟩:=r2;simp[eqF] at h;subst h;exact⟨EqAt.int_str _ _ _ _,RcAt.int_str _ _ _ _,RcNeAt.int_str _ _ _ _⟩
   | tup es=>
    obtain⟨b,ys,rfl,q,r⟩:=h2
    cases r2
    obtain⟨its,_,p,_⟩:=I.tuple q
    simp[eqF] at h;subst h
    exact⟨EqAt.int_tuple _ _ (show s.heap.IsTuple b its.toArray from p) hu,RcAt.int_tuple _ _ (show s.heap.IsTuple b its.toArray from p) hu,RcNeAt.int_tuple _ _ (show s.heap.IsTuple b its.toArray from p) hu⟩
   | lst es=>
    obtain⟨b,ys,rfl,q,_,r⟩:=h2
    cases r2
    obtain⟨its,_,p,_⟩:=I.list q
    simp[eqF] at h;subst h
    exact⟨EqAt.int_list _ _ p.isList hu,RcAt.int_list _ _ p.isList hu,RcNeAt.int_list _ _ p.isList hu⟩
  | str a=>
   rw[show u=.str a from h1] at r1
   obtain⟨t1,rfl⟩:=r1
   cases e with
   | err _ _=>simp[eqF] at h
   | dic _=>simp[eqF] at h
   | non=>rw[show w=.non from h2] at r2;cases r2;simp[eqF] at h;subst h;exact⟨EqAt.str_none _ _,RcAt.str_none _ _,RcNeAt.str_none _ _⟩
   | bl b=>rw[show w=.bl b from h2] at r2;cases r2;simp[eqF] at h;subst h;exact⟨EqAt.str_bool _ _ _,RcAt.str_bool _ _ _,RcNeAt.str_bool _ _ _⟩
   | int b=>rw[show w=.int b from h2] at r2;obtain⟨t,rfl⟩:=r2;simp[eqF] at h;subst h;exact⟨EqAt.str_int _ _ _ _,RcAt.str_int _ _ _ _,RcNeAt.str_int _ _ _ _⟩
   | str b=>rw[show w=.str b from h2] at r2;obtain⟨t,rfl⟩:=r2;simp only[eqF,Option.some.injEq] at h;subst h;exact⟨EqAt.str_str _ _ _ _,RcAt.str_str _ _ _ _,RcNeAt.str_str _ _ _ _⟩
   | tup es=>
    obtain⟨b,ys,rfl,q,r⟩:=h2
    cases r2
    obtain⟨its,_,p,_⟩:=I.tuple q
    simp[eqF] at h;subst h
    exact⟨EqAt.str_tuple _ _ (show s.heap.IsTuple b its.toArray from p) hu,RcAt.str_tuple _ _ (show s.heap.IsTuple b its.toArray from p) hu,RcNeAt.str_tuple _ _ (show s.heap.IsTuple b its.toArray from p) hu⟩
   | lst es=>
    obtain⟨b,ys,rfl,q,_,r⟩:=h2
    cases r2
    obtain⟨its,_,p,_⟩:=I.list q
    simp[eqF] at h;subst h
    exact⟨EqAt.str_list _ _ p.isList hu,RcAt.str_list _ _ p.isList hu,RcNeAt.str_list _ _ p.isList hu⟩
  | tup ds=>
   have h1':=h1
   obtain⟨a,xs,rfl,q1,rp1⟩:=h1
   cases r1
   obtain⟨its1,v1,p1,_⟩:=I.tuple q1
   have p1':s.heap.IsTuple a its1.toArray:=p1
   cases e with
   | err _ _=>simp[eqF] at h
   | dic _=>simp[eqF] at h
   | non=>rw[show w=.non from h2] at r2;cases r2;simp[eqF] at h;subst h;exact⟨EqAt.tuple_none p1' hu,RcAt.tuple_none p1' hu,RcNeAt.tuple_none p1' hu⟩
   | bl b=>rw[show w=.bl b from h2] at r2;cases r2;simp[eqF] at h;subst h;exact⟨EqAt.tuple_bool _ p1' hu,RcAt.tuple_bool _ p1' hu,RcNeAt.tuple_bool _ p1' hu⟩
   | int b=>rw[show w=.int b from h2] at r2;obtain⟨t,rfl⟩:=r2;simp[eqF] at h;subst h;exact⟨EqAt.tuple_int _ _ p1' hu,RcAt.tuple_int _ _ p1' hu,RcNeAt.tuple_int _ _ p1' hu⟩
   | str b=>rw[show w=.str b from h2] at r2;obtain⟨t,rfl⟩:=r2;simp[eqF] at h;subst h;exact⟨EqAt.tuple_str _ _ p1' hu,RcAt.tuple_str _ _ p1' hu,RcNeAt.tuple_str _ _ p1' hu⟩
   | tup es=>
    have h2':=h2
    obtain⟨b,ys,rfl,q2,rp2⟩:=h2
    cases r2
    obtain⟨its2,v2,p2,_⟩:=I.tuple q2
    have hk:bY n ds es=some k:=by simpa[eqF] using h
    have hv:=jP hk
    have l1:its1.toArray.size=ds.length:=by rw[List.size_toArray,<-v1.length,rp1.length]
    have l2:its2.toArray.size=es.length:=by rw[List.size_toArray,<-v2.length,rp2.length]
    have rc:RcAt A s (.ref a) (.ref b) k:=by
     rw[hv,<-l1,<-l2]
     exact RcAt.tuples p1' (show s.heap.IsTuple b its2.toArray from p2) hu (items rp1 rp2 v1 v2 hk)
    have rn:RcNeAt A s (.ref a) (.ref b) (!k):=by
     rw[hv,<-l1,<-l2]
     exact RcNeAt.tuples p1' (show s.heap.IsTuple b its2.toArray from p2) hu (items rp1 rp2 v1 v2 hk)
    refine⟨?_,rc,rn⟩
    by_cases hab:a=b
    . subst hab
      have:=mY I (n+1) (.tup ds) (.tup es) (.ref a) k ex ex' h1' h2' h
      subst this
      exact EqAt.same _
    . exact EqAt.of_refs hab rc
   | lst es=>
    obtain⟨b,ys,rfl,q2,_,rp2⟩:=h2
    cases r2
    obtain⟨its2,v2,p2,_⟩:=I.list q2
    simp[eqF] at h;subst h
    exact⟨EqAt.tuple_list p1' p2.isList hu,RcAt.tuple_list p1' p2.isList hu,RcNeAt.tuple_list p1' p2.isList hu⟩
  | lst ds=>
   have h1':=h1
   obtain⟨a,xs,rfl,q1,_,rp1⟩:=h1
   cases r1
   obtain⟨its1,v1,p1,_⟩:=I.list q1
   have p1':=p1.isList
   cases e with
   | err _ _=>simp[eqF] at h
   | dic _=>simp[eqF] at h
   | non=>rw[show w=.non from h2] at r2;cases r2;simp[eqF] at h;subst h;exact⟨EqAt.list_none p1' hu,RcAt.list_none p1' hu,RcNeAt.list_none p1' hu⟩
   | bl b=>rw[show w=.bl b from h2] at r2;cases r2;simp[eqF] at h;subst h;exact⟨EqAt.list_bool _ p1' hu,RcAt.list_bool _ p1' hu,RcNeAt.list_bool _ p1' hu⟩
   | int b=>rw[show w=.int b from h2] at r2;obtain⟨t,rfl⟩:=r2;simp[eqF] at h;subst h;exact⟨EqAt.list_int _ _ p1' hu,RcAt.list_int _ _ p1' hu,RcNeAt.list_int _ _ p1' hu⟩
   | str b=>rw[show w=.str b from h2] at r2;obtain⟨t,rfl⟩:=r2;simp[eqF] at h;subst h;exact⟨EqAt.list_str _ _ p1' hu,RcAt.list_str _ _ p1' hu,RcNeAt.list_str _ _ p1' hu⟩
   | lst es=>
    have h2':=h2
    obtain⟨b,ys,rfl,q2,_,rp2⟩:=h2
    cases r2
    obtain⟨its2,v2,p2,_⟩:=I.list q2
    have l1:its1.toArray.size=ds.length:=by rw[List.size_toArray,<-v1.length,rp1.length]
    have l2:its2.toArray.size=es.length:=by rw[List.size_toArray,<-v2.length,rp2.length]
    have both:RcAt A s (.ref a) (.ref b) k/\RcNeAt A s (.ref a) (.ref b) (!k):=by
     by_cases hl:ds.length=es.length
     . have hk:bY n ds es=some k:=by simpa[eqF,hl] using h
       have hv:=jP hk
       rw[<-hl,Nat.min_self,beq_self_eq_true,Bool.and_true,<-l1] at hv
       rw[hv]
       exact⟨RcAt.lists p1' p2.isList (by rw[l1,l2,hl]) hu (items rp1 rp2 v1 v2 hk),RcNeAt.lists p1' p2.isList (by rw[l1,l2,hl]) hu (items rp1 rp2 v1 v2 hk)⟩
     . have hk:k=false:=by simpa[eqF,hl] using h.symm
       subst hk
       have hz:(its1.toArray.size != its2.toArray.size)=true:=by rw[l1,l2];simpa using hl
       exact⟨RcAt.lists_lengths p1' p2.isList hz hu,RcNeAt.lists_lengths p1' p2.isList hz hu⟩
    refine⟨?_,both.1,both.2⟩
    by_cases hab:a=b
    . subst hab
      have:=mY I (n+1) (.lst ds) (.lst es) (.ref a) k ex ex' h1' h2' h
      subst this
      exact EqAt.same _
    . exact EqAt.of_refs hab both.1
   | tup es=>
    obtain⟨b,ys,rfl,q2,rp2⟩:=h2
    cases r2
    obtain⟨its2,v2,p2,_⟩:=I.tuple q2
    have p2':s.heap.IsTuple b its2.toArray:=p2
    simp[eqF] at h;subst h
    exact⟨EqAt.list_tuple p1' p2' hu,RcAt.list_tuple p1' p2' hu,RcNeAt.list_tuple p1' p2' hu⟩
end
end Hp
end
noncomputable section
namespace HT
open PySem PyProof.Rows
section
open PySem.SeqAt
open PySem.AutoSeq1 (wpAny_loadPart')
open PySem.MeetsSeq PySem.MeetsSeq2 PySem.MeetsSeq3
end
section
variable {prog:Program} {w:World} {A:Around} {E:Value->Shared->Prop} {s:Shared}
end
end HT
end
noncomputable section
namespace Hp
open PySem PySem.Spec PyProof.Rows L2 PySem.SeqAt
section
variable {X:Cx} {RT Y old:Addr->Prop} {σ:Sg} {σV:L2.St} {H:Hp} {s:Shared} {pins:List (Addr×Obj)} {Q:VK} {ux uy:V} {vx vy:Value} {x y:Vl}
theorem uI{o:CmpOp}{k:Bool}{σV2:L2.St}(I:L2.Inv X pins σV H s)(hA:X.A.units+200<cLine)(rx:aR ux vx)(ry:aR uy vy)(hx:Rv X.K RT Y old σ σV2 H x ux)(hy:Rv X.K RT Y old σ σV2 H y uy)
 (h:bP o x.d y.d=some k) (q:Q (.bl k) H):wpAny (model X.prog X.w) X.A (compareOp o vx vy) (EP X pins σV Q) X.xe s:=by
 have hu:X.A.units<cLine:=by omega
 have fin:EP X pins σV Q (.bool k) s:=⟨.bl k,H,I,rfl,q⟩
 have hD:mU=120:=rfl
 have go:∀{f:Value->Value->Sem Value} {r:R2},OpR X f r->r ux uy H Q->wpAny (model X.prog X.w) X.A (f vx vy) (EP X pins σV Q) X.xe s:=λhr q=>hr pins s σV H ux uy vx vy Q I rx ry q
 have e3:∀{b:Bool},eqD x.d y.d=some b->Eq3 X.A s vx vy b:=λ{b} hb=>aAR I mU X.A x.d y.d ux uy vx vy b _ _ (by omega) hx hy rx ry hb
 cases o with
 | Eq=>exact(e3 h).2.1 X.prog X.w X.xe _ fin
 | NotEq=>
  simp only[bP,Option.map_eq_some_iff] at h
  obtain⟨b,hb,e⟩:=h
  subst e
  exact(e3 hb).2.2 X.prog X.w X.xe _ fin
 | Lt=>
  simp only[bP] at h
  unfold ltD at h
  split at h
  . rename_i a b d1 d2
    exact go aFc ⟨a,b,hx.int d1,hy.int d2,by show Q (.bl (decide (a<b))) H;rw[Option.some.inj h];exact q⟩
  . cases h
 | Gt=>
  simp only[bP] at h
  split at h
  . rename_i a b d1 d2
    exact go aFe ⟨a,b,hx.int d1,hy.int d2,by show Q (.bl (decide (b<a))) H;rw[Option.some.inj h];exact q⟩
  . cases h
 | LtE=>
  simp only[bP] at h
  unfold leD at h
  split at h
  . rename_i a b d1 d2
    exact go aFd ⟨a,b,hx.int d1,hy.int d2,by show Q (.bl (decide (a<=b))) H;rw[Option.some.inj h];exact q⟩
  . cases h
 | GtE=>
  simp only[bP] at h
  split at h
  . rename_i a b d1 d2
    exact go aFf ⟨a,b,hx.int d1,hy.int d2,by show Q (.bl (decide (b<=a))) H;rw[Option.some.inj h];exact q⟩
  . cases h
 | Is=>
  simp only[bP] at h
  split at h
  . rename_i d2
    refine go aDb ⟨hy.non d2,?_⟩
    have:decide (ux=V.non)=k:=by
     rw[<-Option.some.inj h]
     unfold isNone
     split
     . rename_i d1;rw[hx.non d1];simp
     . rename_i d1
       refine decide_eq_false λz=>?_
       rw[z] at hx
       unfold Rv at hx
       cases q':x.d with
       | non=>exact d1 q'
       | _=>rw[q'] at hx;first|(obtain⟨a,xs,z',_⟩:=hx;cases z')|exact hx.elim|injection hx
    rw[this]
    exact q
  . cases h
 | IsNot=>
  simp only[bP] at h
  split at h
  . rename_i d2
    refine go aAw ⟨hy.non d2,?_⟩
    have:(!decide (ux=V.non))=k:=by
     rw[<-Option.some.inj h]
     unfold isNone
     split
     . rename_i d1;rw[hx.non d1];simp
     . rename_i d1
       rw[decide_eq_false λz=>?_]
       rw[z] at hx
       unfold Rv at hx
       cases q':x.d with
       | non=>exact d1 q'
       | _=>rw[q'] at hx;first|(obtain⟨a,xs,z',_⟩:=hx;cases z')|exact hx.elim|injection hx
    rw[this]
    exact q
  . cases h
 | In=>
  simp only[bP] at h
  unfold inD at h
  split at h
  . rename_i a b d1 d2
    exact go tY ⟨a,b,hx.str d1,hy.str d2,by rw[show(!(Builtin.Str.occurrences b a 0 b.length 1).isEmpty)=k from Option.some.inj h];exact q⟩
  . cases h
 | NotIn=>
  simp only[bP,Option.map_eq_some_iff] at h
  obtain⟨k',h,ek⟩:=h
  subst ek
  unfold inD at h
  split at h
  . rename_i a b d1 d2
    exact go mO ⟨a,b,hx.str d1,hy.str d2,by rw[show(!(Builtin.Str.occurrences b a 0 b.length 1).isEmpty)=k' from Option.some.inj h];exact q⟩
  . cases h
end
end Hp
end
noncomputable section
namespace Hp
open PySem PySem.Spec PyProof.Rows L2
theorem fY(n:Nat){d:Nat}(hd:d<=n):∀lo,sIx n d lo<=n
 | none=>hd
 | some v=>by
  unfold sIx
  dsimp only
  split <;> omega
theorem oI(lo hi:Option Int)(n:Nat):Builtin.Str.strSliceIndices lo hi 1 n=Builtin.Str.strSliceIndices (some ((sIx n 0 lo:Nat):Int)) (some ((sIx n n hi:Nat):Int)) 1 n:=by
 have h1:(1:Int)>0:=by decide
 have key:∀(d:Nat) (hd:d<=n) (o:Option Int),(match o with|none=>(d:Int)|some i=>max 0 (min (if i<0 then i+(n:Int) else i) (n:Int)))=((sIx n d o:Nat):Int):=by
  intro d hd o
  cases o with
  | none=>rfl
  | some i=>
   unfold sIx
   dsimp only
   split <;> omega
 have k2:∀(m:Nat),m<=n->max (0:Int) (min (if (m:Int)<0 then (m:Int)+(n:Int) else (m:Int)) (n:Int))=(m:Int):=by
  intro m hm
  split <;> omega
 unfold Builtin.Str.strSliceIndices
 simp only[h1,if_true]
 have e1:=key 0 (Nat.zero_le _) lo
 have e2:=key n (Nat.le_refl _) hi
 have f1:=k2 _ (fY n (Nat.zero_le _) lo)
 have f2:=k2 _ (fY n (Nat.le_refl _) hi)
 rw[f1,f2]
 cases lo <;> cases hi <;> simp_all
theorem kO(x:Str)(lo hi:Option Int):StrLaws.sliceText x lo hi=gQ x lo hi:=by
 have hl:x.cps.toList.length=x.length:=by show _=x.cps.size;simp
 have e:StrLaws.sliceText x lo hi=StrLaws.sliceText x (some ((sIx x.length 0 lo:Nat):Int)) (some ((sIx x.length x.length hi:Nat):Int)):=by
  unfold StrLaws.sliceText
  rw[oI]
 rw[e]
 unfold gQ cut
 rw[hl]
 by_cases h:sIx x.length 0 lo<=sIx x.length x.length hi
 . exact StrLaws.sliceText_nat x h (fY _ (Nat.le_refl _) hi)
 . have h0:sIx x.length x.length hi-sIx x.length 0 lo=0:=by omega
   have hlo:=fY x.length (Nat.zero_le _) lo
   have hhi:=fY x.length (Nat.le_refl _) hi
   rw[h0,List.take_zero]
   generalize sIx x.length 0 lo=i at *
   generalize sIx x.length x.length hi=j at *
   have he:Builtin.Str.strSliceIndices (some (i:Int)) (some (j:Int)) 1 x.length=[]:=by
    unfold Builtin.Str.strSliceIndices
    have h1:(1:Int)>0:=by decide
    simp only[h1,if_true]
    rw[if_neg (by omega),if_neg (by omega)]
    have a1:max (0:Int) (min (i:Int) (x.length:Int))=i:=by omega
    have a2:max (0:Int) (min (j:Int) (x.length:Int))=j:=by omega
    rw[a1,a2]
    unfold sliceRange
    simp
    omega
   unfold StrLaws.sliceText
   rw[he]
   simp
   intro hz
   omega
def xI:V->Option Int->Option Int->L2.Hp->VK->Prop:=λx lo hi H Q=>∃a,x=.str a/\a.length<=sizeLine/\Q (.str (gQ a lo hi)) H
section
variable {X:Cx}
theorem aDr:SlR X xI:=by
 intro pins s σ H x v vl vu lo hi sl Q I rx hs pl pu h
 obtain⟨a,rfl,hz,q⟩:=h
 obtain⟨t,rfl⟩:=rx
 have fin:∀(l u:Option (Int×Tok)),l.map (·.1)=lo->u.map (·.1)=hi->s.heap.IsSlice sl l u none->wpAny (model X.prog X.w) X.A (getItem (.str a t) (.ref sl)) (EP X pins σ Q) X.xe s:=by
  intro l u e1 e2 h
  refine wpAny_getItem_str_slice h rfl ?_
  have e:StrLaws.sliceText a lo hi=gQ a lo hi:=kO a lo hi
  unfold StrLaws.sliceText at e
  subst e1 e2
  show Made.post (if ((1:Int)==1&&(Builtin.Str.strSliceIndices (l.map (·.1)) (u.map (·.1)) 1 a.length).length==a.length)=true then _ else _) _ s
  split
  . rename_i hc
    rw[if_pos hc] at e
    exact⟨.str a,H,I,⟨t,rfl⟩,by rw[e];exact q⟩
  . rename_i hc
    rw[if_neg hc] at e
    have hle:(gQ a (l.map (·.1)) (u.map (·.1))).length<=sizeLine:=by
     refine Nat.le_trans ?_ hz
     show(cut a.cps.toList _ _).toArray.size<=a.cps.size
     unfold cut
     rw[List.size_toArray,List.length_take,List.length_drop,Array.length_toList]
     omega
    refine⟨by rw[<-e] at hle;exact hle,.str (gQ a (l.map (·.1)) (u.map (·.1))),H,I.tok _,?_,q⟩
    rw[<-e]
    exact⟨_,rfl⟩
 refine⟨"str",_,slot_str_getitem.lookup,rfl,?_⟩
 cases pl with
 | none=>
  cases pu with
  | none=>exact fin none none rfl rfl hs
  | int j tj=>exact fin none (some (j,tj)) rfl rfl hs
 | int i ti=>
  cases pu with
  | none=>exact fin (some (i,ti)) none rfl rfl hs
  | int j tj=>exact fin (some (i,ti)) (some (j,tj)) rfl rfl hs
end
theorem fZ(a b:Str):(a++b).length=a.length+b.length:=by
 show(a.cps++b.cps).size=_
 rw[Array.size_append];rfl
theorem aAS{x:Str}(h:wP x=true):(reprText x).length=x.length+2:=by
 have q:reprQuote x=39:=by
  unfold reprQuote
  have:x.cps.contains 39=false:=by
   cases z:x.cps.contains 39 with
   | false=>rfl
   | true=>
    have hm:39∈x.cps:=by simpa using z
    unfold wP at h
    rw[Array.all_eq_true'] at h
    have:=h 39 hm
    simp at this
  rw[this];rfl
 have all:∀c∈List.range 26,(Builtin.Str.reprChar 39 (97+c)).length=1:=by decide +kernel
 have one:∀c∈x.cps.toList,(Builtin.Str.reprChar 39 c).length=1:=λc hc=>by
  unfold wP at h
  rw[Array.all_eq_true'] at h
  have:=h c (by simpa using hc)
  simp only[bA,decide_eq_true_eq] at this
  have z:=all (c-97) (by rw[List.mem_range];omega)
  rwa [show 97+(c-97)=c by omega] at z
 have fold:∀(l:List Nat) (n:Nat),(∀c∈l,(Builtin.Str.reprChar 39 c).length=1)->l.foldl (λn c=>n+(Builtin.Str.reprChar 39 c).length) n=n+l.length:=by
  intro l
  induction l with
  | nil=>intro n _;rfl
  | cons c l ih=>
   intro n hl
   rw[List.foldl_cons,ih _ λd hd=>hl d (List.mem_cons_of_mem _ hd),hl c List.mem_cons_self,lC]
   omega
 have e:=reprLen_eq x
 rw[q,<-Array.foldl_toList,fold _ _ one] at e
 rw[<-e]
 show 2+x.cps.toList.length=x.cps.size+2
 rw[Array.length_toList];omega
mutual
theorem xJ:∀d:D,wt d<lim->(dU d).shown.length<=wt d/\(dU d).showable=true/\(dU d).hasDict=false/\(dU d).depth=dpt d
 | .non,_=>by simp only[dU,PyData.shown,PyData.showable,PyData.hasDict,PyData.depth,dpt,wt];decide
 | .bl b,_=>by simp only[dU,PyData.shown,PyData.showable,PyData.hasDict,PyData.depth,dpt,wt];cases b <;> decide
 | .int i,h=>by
  rw[wt] at h
  by_cases hi:i.natAbs<1000000000
  . have e:=int_text_length_le10 (k:=9) (by decide) (show i.natAbs<10 ^ 9 from hi)
    have l:=log2_of hi
    simp only[dU,PyData.shown,PyData.showable,PyData.hasDict,PyData.depth,dpt,wt,if_pos hi,decide_eq_true l,and_self,and_true]
    rw[PySem.ofString_length];omega
  . rw[if_neg hi] at h;exact absurd h (Nat.lt_irrefl _)
 | .str x,h=>by
  rw[wt] at h
  by_cases hx:wP x=true
  . have e:=aAS hx
    simp only[dU,PyData.shown,PyData.showable,PyData.hasDict,PyData.depth,dpt,wt,if_pos hx,e,and_self,Nat.le_refl]
  . rw[if_neg hx] at h;exact absurd h (Nat.lt_irrefl _)
 | .tup ds,h=>by
  rw[wt] at h
  obtain⟨h1,h2,h3,h4⟩:=shown_les ds (by omega)
  have e:(tupleText (PyData.shownAll (toPys ds))).length<=3+piled (PyData.shownAll (toPys ds)):=by
   unfold tupleText
   rw[fZ,fZ]
   have e1:((("(" : String):Str)).length=1:=rfl
   have e2:(((if (PyData.shownAll (toPys ds)).length==1 then ",)" else ")" : String):Str)).length<=2:=by split <;> decide
   have e3:(Str.join ", " (PyData.shownAll (toPys ds))).length<=piled (PyData.shownAll (toPys ds)):=by
    by_cases z:PyData.shownAll (toPys ds)=[]
    . rw[z];decide
    . have:=join_length_add _ z;omega
   omega
  simp only[dU,PyData.shown,PyData.showable,PyData.hasDict,PyData.depth,dpt,wt,h2,h3,h4,and_self,and_true]
  omega
 | .lst ds,h=>by
  rw[wt] at h
  obtain⟨h1,h2,h3,h4⟩:=shown_les ds (by omega)
  have e:(listText (PyData.shownAll (toPys ds))).length<=2+piled (PyData.shownAll (toPys ds)):=by
   unfold listText
   rw[fZ]
   have e1:((("]" : String):Str)).length=1:=rfl
   have e2:(textFrom 0 "[" (PyData.shownAll (toPys ds))).length<=1+piled (PyData.shownAll (toPys ds)):=by
    cases PyData.shownAll (toPys ds) with
    | nil=>decide
    | cons t r=>
     have z:=textFrom_length_pos r 1 (("[" : Str)++(if (0:Nat)>0 then ", " else "" : String)++t) (Nat.succ_pos 0)
     show(textFrom 1 (("[" : Str)++(if (0:Nat)>0 then ", " else "" : String)++t) r).length<=_
     rw[z,fZ,fZ,piled_cons]
     have e0:((("[" : String):Str)).length=1:=rfl
     have e1:(((if (0:Nat)>0 then ", " else "" : String):Str)).length=0:=rfl
     omega
   omega
  simp only[dU,PyData.shown,PyData.showable,PyData.hasDict,PyData.depth,dpt,wt,h2,h3,h4,and_self,and_true]
  omega
 | .dic _,h=>by rw[wt] at h;exact absurd h (Nat.lt_irrefl _)
 | .err _ _,h=>by rw[wt] at h;exact absurd h (Nat.lt_irrefl _)
theorem shown_les:∀ds:List D,wts ds<lim->piled (PyData.shownAll (toPys ds))<=wts ds/\PyData.showableAll (toPys ds)=true/\PyData.hasDictAll (toPys ds)=false/\PyData.depthAll (toPys ds)=dpts ds
 | [],_=>by simp only[toPys,PyData.shownAll,PyData.showableAll,PyData.hasDictAll,PyData.depthAll,dpts,wts];decide
 | d::ds,h=>by
  rw[wts] at h
  obtain⟨h1,h2,h3,h4⟩:=xJ d (by omega)
  obtain⟨g1,g2,g3,g4⟩:=shown_les ds (by omega)
  simp only[toPys,PyData.shownAll,PyData.showableAll,PyData.hasDictAll,PyData.depthAll,dpts,wts,piled_cons,h2,h3,h4,g2,g3,g4,Bool.and_self,Bool.or_self,and_self,and_true]
  omega
theorem log2_of{n:Nat}(h:n<1000000000):n.log2<1920:=by
 by_cases hz:n=0
 . rw[hz];decide
 . exact Nat.lt_of_lt_of_le ((Nat.log2_lt hz).mpr (Nat.lt_trans h (by decide:1000000000<2 ^ 30))) (by decide)
end
section
variable {X:Cx} {pins:List (Addr×Obj)} {σ:L2.St} {H:Hp} {s:Shared}
mutual
theorem xK{ex:Addr->Prop}(I:Inv X pins σ H s):∀(d:D) {v:V} {u:Value},Rep X.K H ex d v->aR v u->wt d<lim->∃as,Reads s.heap u (dU d) as
 | .non,v,u,h,r,_=>by
  rw[show v=.non from h] at r
  rw[show u=.none from r,dU]
  exact⟨_,.none⟩
 | .bl b,v,u,h,r,_=>by
  rw[show v=.bl b from h] at r
  rw[show u=.bool b from r,dU]
  exact⟨_,.bool b⟩
 | .int i,v,u,h,r,_=>by
  rw[show v=.int i from h] at r
  obtain⟨t,e⟩:∃t,u=.int i t:=r
  rw[e,dU]
  exact⟨_,.int i t⟩
 | .str x,v,u,h,r,_=>by
  rw[show v=.str x from h] at r
  obtain⟨t,e⟩:∃t,u=.str x t:=r
  rw[e,dU]
  exact⟨_,.str x t⟩
 | .tup ds,v,u,h,r,hw=>by
  obtain⟨a,xs,e,q,rr⟩:=h
  subst e
  rw[show u=.ref a from r,dU]
  rw[wt] at hw
  obtain⟨its,rv,⟨o,ho,hc,n,hd⟩,_⟩:=I.tuple q
  obtain⟨as,ra⟩:=reads_ofs I ds rr rv (by omega)
  exact⟨_,.tuple ho hc hd (by simpa using ra)⟩
 | .lst ds,v,u,h,r,hw=>by
  obtain⟨a,xs,e,q,_,rr⟩:=h
  subst e
  rw[show u=.ref a from r,dU]
  rw[wt] at hw
  obtain⟨its,rv,pl,_⟩:=I.list q
  obtain⟨o,ho,hc,n,hd⟩:=pl.isList
  obtain⟨as,ra⟩:=reads_ofs I ds rr rv (by omega)
  exact⟨_,.list ho hc hd (by simpa using ra)⟩
 | .dic _,_,_,_,_,hw=>by rw[wt] at hw;exact absurd hw (Nat.lt_irrefl _)
 | .err _ _,_,_,_,_,hw=>by rw[wt] at hw;exact absurd hw (Nat.lt_irrefl _)
theorem reads_ofs{ex:Addr->Prop}(I:Inv X pins σ H s):∀(ds:List D) {vs:List V} {us:List Value},Reps X.K H ex ds vs->aJ vs us->wts ds<lim->∃as,ReadsAll s.heap us (toPys ds) as
 | [],vs,us,h,r,_=>by
  rw[show vs=[] from h] at r
  cases r
  exact⟨_,by rw[toPys];exact .nil⟩
 | d::ds,vs,us,h,r,hw=>by
  obtain⟨x,r',e,h1,h2⟩:=h
  subst e
  cases r with
  | cons r1 r2=>
   rw[wts] at hw
   obtain⟨as,ra⟩:=xK I d h1 r1 (by omega)
   obtain⟨bs,rb⟩:=reads_ofs I ds h2 r2 (by omega)
   exact⟨_,by rw[toPys];exact .cons ra rb⟩
end
end
section
variable {X:Cx} {RT Y old:Addr->Prop} {σ:Sg} {σV:L2.St} {H:Hp} {s:Shared} {pins:List (Addr×Obj)} {Q:VK} {ux uy:V} {vx vy:Value} {x y:Vl}
theorem qQ(n:Nat)(k:Int):Hp.ixN n k=L2.ixN n k:=rfl
theorem Rv.ofSub{d:D}{u:V}(h:Rep X.K H (exV RT Y old σ σV x.pa x.al) d u):Ro X.K RT Y old σ σV H H (x.sub d) u:=by
 refine Ro.plain (aG.refl H) ?_ (Rv.sub (ds:=[]) (xs:=[]) (j:=0) h)
 unfold Vl.sub Vl.cl
 split <;> rfl
theorem uJ(t:Tk X.K H)(hx:Rv X.K RT Y old σ σV H x ux)(hy:Rv X.K RT Y old σ σV H y uy){w:D->Prop}(h:RE w (eE x y) (Wn X RT Y old σ σV H Q)):rIx X.K ux uy H (λv H'=>Tk X.K H'->Q v H'):=by
 unfold eE at h
 split at h
 . rename_i ds k d1 d2
   obtain⟨a,xs,e,q,_,r⟩:=hx.lst d1
   cases hj:Hp.ixN ds.length k with
   | none=>rw[hj] at h;exact h.elim
   | some j=>
    rw[hj] at h
    cases hd:ds[j]? with
    | none=>simp only[hd] at h;exact h.elim
    | some d=>
     simp only[hd] at h
     obtain⟨v,hv,rv⟩:=r.get hd
     refine .inl ⟨a,xs,k,v,e,hy.int d2,q,?_,λt'=>h v H t' (Rv.ofSub rv)⟩
     unfold atI
     rw[<-r.length,<-qQ,hj]
     exact hv
 . rename_i ds k d1 d2
   obtain⟨a,xs,e,q,r⟩:=hx.tup d1
   cases hj:Hp.ixN ds.length k with
   | none=>rw[hj] at h;exact h.elim
   | some j=>
    rw[hj] at h
    cases hd:ds[j]? with
    | none=>simp only[hd] at h;exact h.elim
    | some d=>
     simp only[hd] at h
     obtain⟨v,hv,rv⟩:=r.get hd
     refine .inr (.inl ⟨a,xs,k,v,e,hy.int d2,q,?_,λt'=>h v H t' (Rv.ofSub rv)⟩)
     unfold atI
     rw[<-r.length,<-qQ,hj]
     exact hv
 . rename_i z k d1 d2
   obtain⟨c,h⟩:=h.iff
   have c':=of_decide_eq_true c
   cases hj:Hp.ixN z.length k with
   | none=>rw[hj] at h;exact h.elim
   | some j=>
    rw[hj] at h
    cases hd:z.cps.toList[j]? with
    | none=>simp only[hd] at h;exact h.elim
    | some c=>
     simp only[hd] at h
     refine .inr (.inr ⟨z,k,c,hx.str d1,hy.int d2,cN c',?_,λt'=>Wn.val h t' λ_=>rfl⟩)
     unfold atI
     have hl:z.cps.toList.length=z.length:=by simp[Str.length]
     rw[hl,<-qQ,hj]
     exact hd
 . exact h.elim
theorem mZ(n d:Nat)(o:Option Int):Hp.sIx n d o=HT.sIx n d o:=by cases o <;> rfl
theorem oJ{K:Fg}{ex:Addr->Prop}{ds:List D}{xs:List V}(r:Reps K H ex ds xs)(lo hi:Option Int):Reps K H ex (cut ds lo hi) (nV xs lo hi):=by
 unfold cut nV
 rw[mZ,mZ,r.length]
 exact(r.drop _).take _
theorem fI{prog:Program}{w:World}{A:Around}{E:Value->Shared->Prop}{t sl:Addr}{items:Array Value}{vl vu:Value}{lo hi:Option Int}{Q:Value->Shared->Prop}(ht:IsTup s.heap t items)(hs:s.heap.IsSliceOf sl vl vu .none)(pl:IsPart vl lo)(pu:IsPart vu hi)
 (hw:HT.sIx items.size 0 lo=0/\HT.sIx items.size items.size hi=items.size) (h:Q (.ref t) s):wpAny (model prog w) A (getItem (.ref t) (.ref sl)) Q E s:=by
 obtain⟨os,hos,hcs,hds⟩:=id hs
 have hTs:s.TypeIs (.ref sl) "slice" := ⟨os,hos,hcs⟩
 unfold getItem
 try with_reducible refine wpAny_holding ?_
 first|refine wpAny_bind (wpAny_pure ?_)|skip
 refine wpAny_bind (wpAny_sequenceKey ht.typeIs (by decide) ?_)
 refine wpAny_bind (wpAny_callSpecial?_slot (name:=Str.ofString "__getitem__") ht.typeIs PyProof.Rows.slot_tuple_getitem
  (wpAny_call_entry PyProof.Rows.slot_tuple_getitem ht.typeIs entry_tuple_getitem ?_ (args_tuple_getitem _ _)))
 show wpAny _ _ (Builtin.Tuple.tupleItemsOf (.ref t) >>= _) _ _ s
 refine wpAny_bind (tupleItemsOf_ ht ?_)
 refine wpAny_bind (wpAny_typeOf hTs ?_)
 rw[if_pos (by decide)]
 refine wpAny_bind (HT.sliceApplied_gen hs pl pu ?_)
 have hyes:(((HT.sIx items.size 0 lo:Nat):Int)==0&&(1:Int)==1&&(HT.sIx items.size items.size hi-HT.sIx items.size 0 lo)==items.size)=true:=by
  rw[hw.1,hw.2]
  simp
 show wpAny _ _ (if (((HT.sIx items.size 0 lo:Nat):Int)==0&&(1:Int)==1&&(HT.sIx items.size items.size hi-HT.sIx items.size 0 lo)==items.size)=true then _ else _) _ _ s
 rw[if_pos hyes]
 unfold Builtin.Tuple.tupleIsExact
 refine wpAny_bind (wpAny_bind (wpAny_typeOf ht.typeIs (wpAny_pure ?_)))
 rw[if_pos (beq_self_eq_true _)]
 exact wpAny_bind (wpAny_rule (wpAny_pure ⟨_,rfl,wpAny_pure h⟩))
def oK(K:Fg):V->Option Int->Option Int->Hp->VK->Prop:=λx lo hi H Q=>∃a xs,x=.ref a/\SqT K H a xs/\(HT.sIx xs.length 0 lo=0/\HT.sIx xs.length xs.length hi=xs.length)/\Q (.ref a) H
theorem aAT:SlR X (oK X.K):=by
 intro pins s σ H x v vl vu lo hi sl Q I rx hs pl pu h
 obtain⟨a,xs,rfl,hx,hw,q⟩:=h
 cases rx
 obtain⟨its,r,ht,hz⟩:=I.tuple hx
 have hlen:its.toArray.size=xs.length:=by rw[List.size_toArray];exact r.length.symm
 refine⟨"tuple",_,PyProof.Rows.slot_tuple_getitem.lookup,ht.typeIs,?_⟩
 exact fI ht hs pl pu (by rw[hlen];exact hw) ⟨.ref a,H,I,rfl,q⟩
theorem aDs:SlR X (λx lo hi H Q=>wJ X.K x lo hi H Q\/wH X.K x lo hi H Q\/oK X.K x lo hi H Q\/xI x lo hi H Q):=aAH.or (aDe.or (aAT.or aDr))
theorem uK{α:Type}{xs:List α}{lo hi:Option Int}(h1:Hp.sIx xs.length 0 lo=0)(h2:Hp.sIx xs.length xs.length hi=xs.length):cut xs lo hi=xs:=by
 unfold cut
 rw[h1,h2,List.drop_zero,Nat.sub_zero,List.take_length]
theorem uL{lo hi:Option Int}(S:Sx X.K RT Y old σ σV H)(t:Tk X.K H)(hx:Rv X.K RT Y old σ σV H x ux){w:D->Prop}(h:RE w (cH x lo hi) (Wn X RT Y old σ σV H Q)) :
 wJ X.K ux lo hi H (λv H'=>Tk X.K H'->Q v H')\/wH X.K ux lo hi H (λv H'=>Tk X.K H'->Q v H')\/oK X.K ux lo hi H (λv H'=>Tk X.K H'->Q v H')\/xI ux lo hi H (λv H'=>Tk X.K H'->Q v H'):=by
 unfold cH at h
 split at h
 . rename_i ds d1
   obtain⟨a,xs,e,q,_,r⟩:=hx.lst d1
   refine .inl ⟨a,xs,e,q,λp hp t'=>h _ _ t' (Ro.fresh hp t' rfl rfl S ?_)⟩
   exact oJ (eW r) lo hi
 . rename_i ds d1
   obtain⟨a,xs,e,q,r⟩:=hx.tup d1
   have r':=eW r
   by_cases hw:HT.sIx xs.length 0 lo=0/\HT.sIx xs.length xs.length hi=xs.length
   . refine .inr (.inr (.inl ⟨a,xs,e,q,hw,λt'=>h _ _ t' (Ro.plain (aG.refl H) rfl ?_)⟩))
     have e':cut ds lo hi=ds:=uK (by rw[mZ,r.length];exact hw.1) (by rw[mZ,r.length];exact hw.2)
     unfold Rv
     show Rep X.K H _ (.tup (cut ds lo hi)) (.ref a)
     rw[e']
     exact⟨a,xs,rfl,q,r'⟩
   . exact .inr (.inl ⟨a,xs,e,q,hw,λp hp t'=>h _ _ t' (Ro.tup hp rfl rfl (oJ r' lo hi))⟩)
 . rename_i a d1
   obtain⟨hl,h⟩:=h.iff
   have e:ux=.str a:=by
    have z:=hx
    unfold Rv at z
    rw[d1] at z
    exact z
   exact .inr (.inr (.inr ⟨a,e,cN (of_decide_eq_true hl),λt'=>h _ _ t' (Ro.cl (aG.refl H) rfl)⟩))
 . exact h.elim
def rBi(X:Cx)(b:Bi):List V->Hp->VK->Prop:=match b with
 | .len=>λxs H Q=>(∃p ys,xs=[.ref p]/\(SqL X.K H p ys\/SqT X.K H p ys)/\Q (.int ys.length) H)\/∃z,xs=[.str z]/\z.length<=sizeLine/\Q (.int z.length) H
 | .list=>λxs H Q=>∃p ys,xs=[.ref p]/\(SqL X.K H p ys\/SqT X.K H p ys)/\∀l,H l=none->Q (.ref l) (upd H l (.lst ys))
 | .int=>λxs H Q=>(∃i,xs=[.int i]/\Q (.int i) H)\/∃k,xs=[.bl k]/\Q (.int (if k then 1 else 0)) H
 | _=>λ_ _ _=>False
def aCk:Bi->Value
 | .len=>.builtin "len" | .list=>.type "list" | .tuple=>.type "tuple" | .min=>.builtin "min" | .max=>.builtin "max" | .abs=>.builtin "abs" | .int=>.type "int" | .str=>.type "str"
 | .all=>.builtin "all" | .any=>.builtin "any" | .sum=>.builtin "sum" | .sorted=>.builtin "sorted" | .bool=>.type "bool" | .repr=>.builtin "repr"
theorem aAU(hc:X.calm=true)(hg:X.A.guards=some [])(hu:X.A.units+200<cLine)(b:Bi)(hb:xA b=true):eG X (aCk b) (rBi X b):=by
 cases b with
 | len=>exact mP.or mQ
 | list=>exact mR
 | int=>exact tZ
 | _=>cases hb
theorem xL{b:Bi}(hb:xA b=true)(S:Sx X.K RT Y old σ σV H){vs:List Vl}{us:List V}(hv:Rvs X.K RT Y old σ σV H vs us){w:D->Prop}(h:RE w (biD b vs) (Wn X RT Y old σ σV H Q)) :
 rBi X b us H (λv H'=>Tk X.K H'->Q v H'):=by
 unfold biD at h
 split at h
 . rename_i x
   obtain⟨u,r,e,hx,hr⟩:=hv
   rw[show r=[] from hr] at e
   subst e
   cases b with
   | len=>
    dsimp only[wQ] at h
    split at h
    . rename_i ds d1
      obtain⟨a,xs,e,q,_,r⟩:=hx.lst d1
      exact .inl ⟨a,xs,by rw[e],.inl q,λt'=>by rw[<-r.length];exact Wn.val h t' λ_=>rfl⟩
    . rename_i ds d1
      obtain⟨a,xs,e,q,r⟩:=hx.tup d1
      exact .inl ⟨a,xs,by rw[e],.inr q,λt'=>by rw[<-r.length];exact Wn.val h t' λ_=>rfl⟩
    . rename_i z d1
      obtain⟨c,h⟩:=h.iff
      exact .inr ⟨z,by rw[hx.str d1],cN (of_decide_eq_true c),λt'=>Wn.val h t' λ_=>rfl⟩
    . exact h.elim
   | list=>
    dsimp only[wQ] at h
    split at h
    . rename_i ds d1
      obtain⟨a,xs,e,q,_,r⟩:=hx.lst d1
      exact⟨a,xs,by rw[e],.inl q,λp hp t'=>h _ _ t' (Ro.fresh hp t' rfl rfl S (eW r))⟩
    . rename_i ds d1
      obtain⟨a,xs,e,q,r⟩:=hx.tup d1
      exact⟨a,xs,by rw[e],.inr q,λp hp t'=>h _ _ t' (Ro.fresh hp t' rfl rfl S (eW r))⟩
    . exact h.elim
   | tuple=>cases hb
   | abs=>cases hb
   | int=>
    dsimp only[wQ] at h
    split at h
    . rename_i i d1
      exact .inl ⟨i,by rw[hx.int d1],λt'=>Wn.val h t' λ_=>rfl⟩
    . rename_i k d1
      exact .inr ⟨k,by rw[hx.bl d1],λt'=>Wn.val h t' λ_=>rfl⟩
    . exact h.elim
   | str=>cases hb
   | all=>cases hb
   | repr=>cases hb
   | bool=>cases hb
   | sum=>cases hb
   | any=>cases hb
   | sorted=>cases hb
   | min=>exact h.elim
   | max=>exact h.elim
 . rename_i x y
   obtain⟨u,r,e,hx,u',r',e',hy,hr⟩:=hv
   rw[show r'=[] from hr] at e'
   subst e' e
   cases b <;> first|exact h.elim|cases hb
 . exact h.elim
def oM:Cl->Option Value
 | .tInt=>some (.type "int")|.tBool=>some (.type "bool")|.tStr=>some (.type "str")|.tList=>some (.type "list")|.tTuple=>some (.type "tuple")|.tDict=>some (.type "dict")
 | _=>none
def tyD:D->Option String
 | .non=>some "NoneType" | .bl _=>some "bool" | .int _=>some "int" | .str _=>some "str" | .tup _=>some "tuple" | .lst _=>some "list" | .dic _=>some "dict" | .err _ _=>none
theorem dX(K:Fg)(P:Pg){c:Cl}{cv:Value}{d:D}{k:Bool}{T:String}(hc:oM c=some cv)(hT:tyD d=some T)(h:isI [c] P d=some k):PySem.W.kitOne K (.type T) cv=some k:=by
 cases c with
 | own c=>cases hc
 | tValueError=>cases hc
 | tInt=>cases hc;cases d <;> cases hT <;> simp[isI] at h <;> subst h <;> kernel_rfl
 | tBool=>cases hc;cases d <;> cases hT <;> simp[isI] at h <;> subst h <;> kernel_rfl
 | tStr=>cases hc;cases d <;> cases hT <;> simp[isI] at h <;> subst h <;> kernel_rfl
 | tList=>cases hc;cases d <;> cases hT <;> simp[isI] at h <;> subst h <;> kernel_rfl
 | tTuple=>cases hc;cases d <;> cases hT <;> simp[isI] at h <;> subst h <;> kernel_rfl
 | tDict=>cases hc;cases d <;> cases hT <;> simp[isI] at h <;> subst h <;> kernel_rfl
theorem uM(P:Pg){c:Cl}{cv:Value}{k:Bool}(I:L2.Inv X pins σV H s)(rx:aR ux vx)(hx:Rv X.K RT Y old σ σV H x ux)(hc:oM c=some cv)(h:isI [c] P x.d=some k)(q:Q (.bl k) H) :
 wpAny (model X.prog X.w) X.A (PySem.call (.builtin "isinstance") [vx,cv]) (EP X pins σV Q) X.xe s:=by
 have fin:∀tk,EP X pins σV Q (.bool k) { s with toks:=tk }:=λtk=>⟨.bl k,H,I.tok tk,rfl,q⟩
 cases d:x.d with
 | non=>
  have e:=dX X.K P hc (by rw[d];rfl) h
  rw[hx.non d] at rx;cases rx
  exact PySem.W.kia_one PySem.W.kitx_none I.kIn True.intro e (λz=>nomatch z) fin
 | bl b=>
  have e:=dX X.K P hc (by rw[d];rfl) h
  rw[hx.bl d] at rx;cases rx
  exact PySem.W.kia_one PySem.W.kitx_bool I.kIn True.intro e (λz=>nomatch z) fin
 | int i=>
  have e:=dX X.K P hc (by rw[d];rfl) h
  rw[hx.int d] at rx;obtain⟨t,rfl⟩:=rx
  exact PySem.W.kia_one PySem.W.kitx_int I.kIn True.intro e (λz=>nomatch z) fin
 | str z=>
  have e:=dX X.K P hc (by rw[d];rfl) h
  rw[hx.str d] at rx;obtain⟨t,rfl⟩:=rx
  exact PySem.W.kia_one PySem.W.kitx_str I.kIn True.intro e (λz=>nomatch z) fin
 | tup ds=>
  have e:=dX X.K P hc (by rw[d];rfl) h
  obtain⟨a,xs,e1,p,_⟩:=hx.tup d
  subst e1
  cases rx
  obtain⟨its,_,t,_⟩:=I.tuple p
  obtain⟨o,h1,h2,_⟩:=t
  exact PySem.W.kia_one PySem.W.kitx_tuple I.kIn ⟨o,h1,h2⟩ e (λz=>nomatch z) fin
 | lst ds=>
  have e:=dX X.K P hc (by rw[d];rfl) h
  obtain⟨a,xs,e1,p,_⟩:=hx.lst d
  subst e1
  cases rx
  obtain⟨its,_,t,_⟩:=I.list p
  obtain⟨o,n,h1,h2,_⟩:=t
  exact PySem.W.kia_one PySem.W.kitx_list I.kIn ⟨o,h1,h2⟩ e (λz=>nomatch z) fin
 | dic kvs=>
  have e:=dX X.K P hc (by rw[d];rfl) h
  unfold Rv at hx
  rw[d] at hx
  obtain⟨a,ks,e1,p,_⟩:=hx
  subst e1
  cases rx
  obtain⟨_,_,vs,_,o,es,ep,h1,h2,_⟩:=(show bW X.prog X.w H s.heap a (.dK ks) from I.hok a _ p)
  exact PySem.W.kia_one PySem.W.kitx_dict I.kIn ⟨o,h1,h2.1⟩ e (λz=>nomatch z) fin
 | err _ _=>rw[d] at h;cases h
end
def lF(prog:Program)(w:World)(K:Fg)(a:Addr)(t:List (Str×D)):Prop:=(a==sysModules)=false/\∃vs:List (Key×Value),(∀h:Heap,K.In h->h.DictOf (cA prog w) a vs) /\
 ∀k:Str,(t.lookup k=none/\valueAt vs (Sum.inr k:Key)=none)\/∃d u v,t.lookup k=some d/\valueAt vs (Sum.inr k:Key)=some u/\aR v u/\∀(H:Hp) (ex:Addr->Prop),Rep K H ex d v
section
variable {X:Cx}
theorem aAV{a:Addr}{t:List (Str×D)}{x:Str}{p ap cp:Pos}{e:Expr}{te:TE}(T:lF X.prog X.w X.K a t)(hg:Gl X x)(hm:X.mg x=some (.ref a))(hd:(x==("__debug__" : Str))=false)(he:PE X e te)(hline:(ap.endLine==cp.line)=true)
 (hs:starEach [e] X.env=[(false,eval e X.env)]) :
 PE X (.Call (.Attribute (.Name x p) "get" ap) [e] [] cp) (λσ H Q=>te σ H λu H1=>∃k,u=.str k/\∀v,(∀(H:Hp) (ex:Addr->Prop),Rep X.K H ex ((t.lookup k).getD .non) v)->Q v H1):=by
 intro pins s σ H Q I h
 obtain⟨hsys,vs,dict,look⟩:=T
 refine wpAny_Call_method_late rfl (by rw[hs];rfl) hline rfl (thn (iX (v:=.ref a) hg hm rfl hd pins s σ H (λv H1=>v=.ref a/\H1=H) I ⟨rfl,rfl⟩) λv s1 ⟨y,H1,I1,r1,e1,e2⟩=>?_)
 subst e1 e2
 obtain rfl:v=Value.ref a:=r1
 have dd:=dict s1.heap I1.kIn
 refine⟨"dict", "dict.get",PySem.F.plainAttrs_dict,PySem.F.slot_dict_get,PySem.F.type_dict_get,dd.typeIs,λb q=>?_,?_⟩
 . cases q
   obtain⟨ob,_,_,h1,h2,_⟩:=dd
   exact⟨ob,h1,h2.2.1⟩
 . have hA:=(fV he jJ hs) cp pins s1 σ H1 (λus H2=>match us with|[u]=>(∃k,u=.str k/\∀v,(∀(H:Hp) (ex:Addr->Prop),Rep X.K H ex ((t.lookup k).getD .non) v)->Q v H2)|_=>False) I1 h
   rw[hs] at hA ⊢
   refine Calls.callWith_builtin rfl (Calls.evalArgs_plain ?_)
   refine thn hA λus s2 ⟨xs,H2,I2,r2,q2⟩=>?_
   match xs,r2,q2 with
   | [y],.cons ry .nil,q2=>
    obtain⟨k,ey,q2⟩:=q2
    subst ey
    obtain⟨tk,rfl⟩:=ry
    have dd2:=dict s2.heap I2.kIn
    refine call_meetsIn PySem.F.slot_dict_get dd2.typeIs PySem.F.entry_dict_get (PySem.F.args_dict_get_2 _ _) (meets_dict_get (cA X.prog X.w) a (k:=(Sum.inr k:Key)) (gL k tk) hsys) ⟨_,dd2.mapOf,?_⟩
    rcases look k with⟨l1,l2⟩|⟨d,u,v,l1,l2,rv,rep⟩
    . rw[l2]
      refine⟨.non,H2,I2.tok _,rfl,q2 .non λH ex=>?_⟩
      rw[l1]
      rfl
    . rw[l2]
      refine⟨v,H2,I2.tok _,rv,q2 v λH ex=>?_⟩
      rw[l1]
      exact rep H ex
end
end Hp
end
noncomputable section
namespace L2
open PySem PySem.Spec PyProof.Rows
abbrev bmV:List Value:=[.type "ValueError",.type "Exception",.type "BaseException",.type "object"]
section
variable {X:Cx}
theorem bW.old{P:Program}{w:World}{H:Hp}{h:Heap}{a:Addr}{o:HO}(x:bW P w H h a o):Old h a:=by
 cases o with
 | lst xs=>obtain⟨_,_,_,_,e⟩:=x;exact⟨_,e⟩
 | tup xs=>obtain⟨_,_,_,ob,e,_⟩:=x;exact⟨_,e⟩
 | dK kvs=>obtain⟨_,_,_,_,o,_,_,e,_⟩:=x;exact⟨_,e⟩
 | dT kvs=>obtain⟨_,_,_,_,o,_,_,e,_⟩:=x;exact⟨_,e⟩
 | set S n=>obtain⟨o,_,_,_,e,_⟩:=x;exact⟨_,e⟩
 | ins C dx fs=>obtain⟨_,_,_,e,_⟩:=x;exact⟨_,e⟩
 | own y=>obtain⟨_,e⟩:=x;exact⟨_,e⟩
 | xd fs=>obtain⟨_,⟨_,_,_,e,_⟩,_⟩:=x;exact⟨_,e⟩
 | rng lo hi=>obtain⟨_,_,_,e⟩:=x;exact⟨_,e⟩
 | frz ob u=>obtain⟨e,_⟩:=x;exact⟨_,e⟩
 | tbl ps=>exact⟨_,(show h.get? a=some _ from x)⟩
 | met f y=>exact⟨_,(show h.get? a=some _ from x)⟩
 | ext φ=>obtain⟨_,e,_⟩:=x;exact e
theorem qR{C:Addr}{newId:String}{h:Heap}(KX:X.K.In h)(q:PySem.W.excIn X.K C bmV newId=true) :
 ∃bm N nm q bs hdct sn sub ab col dd k0 k1 k2 k3 k5 mN,h.get? C=some (excClassObj nm q C N bs bm hdct sn sub ab col dd k0 k1 k2 k3 k5 newId)/\h.Ns N mN/\mN "__init__" = none/\OwnTail h bmV bm:=by
 unfold PySem.W.excIn at q
 split at q
 . rename_i dd cd sl ho
   split at q
   . rename_i C' bm k0 k1 k2 k3 n k5 hm hs
     simp only[bA,beq_iff_eq,Bool.not_eq_true'] at q
     obtain⟨⟨⟨⟨⟨rfl,rfl⟩,hdel⟩,ht⟩,hok⟩,hni⟩:=q
     obtain⟨nm,bs,mro,ns,qn,hd,sn,sub,ab,col,del⟩:=cd
     dsimp only at hm hdel hok hni
     subst hm hdel
     have hsl:sl=#[k0,k1,k2,k3,some (.builtin n),k5]:=by
      obtain⟨l⟩:=sl
      simp only at hs
      rw[hs]
     subst hsl
     exact⟨bm,ns,nm,qn,bs,hd,sn,sub,ab,col,dd,k0,k1,k2,k3,k5,_,KX _ _ ho,.of_isNs (PySem.W.isNs_of_in KX hok),PySem.W.nsMap_none_of_in KX hok hni,PySem.W.tail_of_in KX ht⟩
   . cases q
 . cases q
theorem xM{h0 h h':Heap}{H:Hp}{e:Addr}{cls:Value}{vs:List Value}{L:List Addr}(m:Heap.MadeExcOf h h' e cls vs)(hn:H e=none){ex:List Addr}(l:∀b,Old h0 b->b∉ex->Old h b)(l':∀b∈L,Old h b):Fly h0 ex H L e cls h':=by
 have hne:¬ Old h e:=λ⟨o,q⟩=>by rw[m.new] at q;cases q
 refine⟨none,?_,λb z=>?_⟩
 . obtain⟨t,ht,_⟩:=m.there
   exact⟨_,_,ht,rfl,rfl,rfl,rfl⟩
 . rcases z with rfl|z
   . exact⟨λz=>hne (l _ z.1 z.2),hn,λz=>hne (l' _ z)⟩
   . cases z
theorem xN{x:Str}{C:Addr}{newId:String}{np cpos pos:Pos}{a:Expr}{args:List Expr}{t:TA}{E:Value->St->Hp->Prop}{Bn inN:String}{bmN:List Value}(Fn:ExcBaseFacts Bn newId inN bmN)(hBn:bmV.contains (.type Bn)=true)
 (hg:Gl X x) (hm:X.mg x=some (.ref C)) (q:PySem.W.excIn X.K C bmV newId=true) (ha:PA X (a::args) t) (hc:X.calm=true) (hR:Rs X E)
 (hd:(x==("__debug__" : Str))=false) (he:starEach (a::args) X.env=(false,eval a X.env)::starEach args X.env) (hpl:(backTo cpos (starEach (a::args) X.env)).any (·.1)=false) :
 PS X (.Raise (some (.Call (.Name x np) (a::args) [] cpos)) none pos) (λD σ H=>t σ H λvs H1=>vs.length<=sizeLine/\E (.ref C) σ H1):=by
 intro pins s σ H D I h
 obtain⟨bm,N,nm,qn,bs,hdct,sn,sub,ab,col,dd,k0,k1,k2,k3,k5,mN,hC,hN,hni,TL⟩:=qR I.mod.kin q
 have ha':=ha cpos pins s σ H _ I h
 refine wpAny_Raise_call_subU (C:=C) (nm:=nm) (q:=qn) (N:=N) (bs:=bs) (bm:=bm) (hdct:=hdct) (sn:=sn) (sub:=sub) (ab:=ab) (col:=col) (dd:=dd) (k0:=k0) (k1:=k1) (k2:=k2) (k3:=k3) (k5:=k5) (newId:=newId) (mN:=mN)
  Fn hBn PySem.F.excBase_ValueError (TL.hasType rfl) (I.ok.hd hc) hpl hni (fT I hg hm ⟨rfl,?_⟩ hd)
 rw[he] at ha' ⊢
 refine Calls.evalArgs_plain (thn ha' λus s2 ⟨vs,H1,I1,rv,hl,hE⟩=>⟨rfl,by rw[<-rv.length];exact hl,I1.bk _ _ hC,hN.keeps I1.bk,TL.keeps I1.bk,λh' e m=>?_⟩)
 have hn:H1 e=none:=by
  cases z:H1 e with
  | none=>rfl
  | some o=>
   obtain⟨ob,hob⟩:=(I1.hok e o z).old
   rw[m.new] at hob
   cases hob
 exact hR pins σ H1 { s2 with heap:=h' } e (.ref C) (I1.un (t':=s2.toks) (Un.kept m.keeps) (I1.hok.kept m.keeps)) (xM m hn (qN I1) (iY I1)) hE
end
section
variable {X:Cx} {pins:List (Addr×Obj)} {σ:St} {H:Hp} {s:Shared} {h':Heap}
theorem Rec.data{h:Heap}{e:Addr}{cls:Value}{T:Option Addr}(r:Rec h e cls T):∀b,(b=e\/T=some b)->∃o vs,h.get? b=some o/\o.data=.fields vs:=by
 obtain⟨oe,vs,he,_,_,hd,hT⟩:=r
 intro b hb
 rcases hb with rfl|hb
 . exact⟨oe,vs,he,hd⟩
 . subst hb
   obtain⟨_,_,oT,ts,g1,g2,_⟩:=hT
   exact⟨oT,ts,g1,g2⟩
theorem Inv.note{fr:List Addr}{e:Addr}{cls:Value}{T:Option Addr}(I:Inv X pins σ H s)(x:Lx fr e T s.heap h')(hfr:∀b∈fr,b∈frs X.stack)(hfs:∀b∈X.fs,b∈fr\/fr=[])(r:Rec s.heap e cls T)
 (n:∀b,(b=e\/T=some b)->¬ (Old X.s₀.heap b/\b∉X.ex)/\H b=none/\b∉pinA X pins):Inv X pins σ H { s with heap:=h' }:=by
 have any:∀b o,s.heap.get? b=some o->b≠e->T≠some b->∃sl,h'.get? b=some { o with slots:=sl }:=λb o q h1 h2=>by
  by_cases hb:b∈fr
  . exact x.slot b o q hb
  . exact⟨o.slots,x.keep b o q hb h1 h2⟩
 have sub:∀b∈fr,b=X.env.locals\/b∈X.fs:=λb hb=>List.mem_cons.mp (I.stkSub b (hfr b hb))
 have nof:∀b o,s.heap.get? b=some o->(∀vs,o.data≠.fields vs)->b≠e/\T≠some b:=λb o q d=>by
  constructor
  . intro z
    obtain⟨o',vs,g,d'⟩:=r.data b (.inl z)
    rw[q] at g;cases g;exact d vs d'
  . intro z
    obtain⟨o',vs,g,d'⟩:=r.data b (.inr z)
    rw[q] at g;cases g;exact d vs d'
 have cellK:∀c v,s.heap.IsCell c v->h'.IsCell c v:=λc v ⟨o,ho,hd⟩=>by
  obtain⟨h1,h2⟩:=nof c o ho λvs z=>by rw[hd] at z;cases z
  obtain⟨sl,q⟩:=any c o ho h1 h2
  exact⟨_,q,hd⟩
 have old0:∀b o,X.s₀.heap.get? b=some o->b∉X.ex->b≠e/\T≠some b:=λb o q hx=>⟨λz=>(n b (.inl z)).1 ⟨⟨o,q⟩,hx⟩,λz=>(n b (.inr z)).1 ⟨⟨o,q⟩,hx⟩⟩
 refine⟨I.ok,I.os,I.bare,⟨λb o e n hb hx=>?_,λb o e n hb hx=>?_,I.base.free,λb o e hx=>?_,I.base.tups,I.base.frzs,I.base.tbls⟩,?_,λy c e=>?_,I.free,I.freeC,λp hp=>?_,lE I.hok x (λb hb=>I.stkFree b (hfr b hb)) (n e (.inl rfl)).2.1 (λt z=>(n t (.inr z)).2.1),I.len⟩
 . refine x.keep b o (I.base.keep b o e n hb hx) (λz=>?_) (old0 b o e hx).1 (old0 b o e hx).2
   rcases sub b z with z|z
   . exact absurd (Heap.lt_size e) (Nat.not_lt.mpr (by rw[z];exact I.ok.above))
   . exact hb z
 . obtain⟨sl,e1⟩:=I.base.slot b o e n hb hx
   obtain⟨sl',e2⟩:=any b _ e1 (old0 b o e hx).1 (old0 b o e hx).2
   exact⟨sl',e2⟩
 . obtain⟨o',e1⟩:=I.base.there b o e hx
   obtain⟨sl',e2⟩:=any b _ e1 (old0 b o e hx).1 (old0 b o e hx).2
   exact⟨_,e2⟩
 . obtain⟨m,hn,hl⟩:=I.loc
   refine⟨m,?_,λi y v e1 e2 e3=>?_⟩
   . obtain⟨o,es,ep,ho,hd,rr⟩:=hn
     obtain⟨h1,h2⟩:=nof _ o ho λvs z=>by rw[hd] at z;cases z
     obtain⟨sl,q⟩:=any _ o ho h1 h2
     exact⟨_,es,ep,q,hd,rr⟩
   . obtain⟨u,rr,l⟩:=hl i y v e1 e2 e3
     refine⟨u,rr,?_⟩
     rcases l with l|⟨k,c,e,z⟩
     . exact .inl l
     . exact .inr ⟨k,c,e,cellK c _ z⟩
 . obtain⟨v,z⟩:=I.cell y c e
   exact⟨v,cellK c v z⟩
 . obtain⟨e1,n1,ne,nf,d⟩:=I.pin p hp
   refine⟨x.keep p.1 p.2 e1 (λz=>(sub _ z).elim ne nf) (λz=>(n _ (.inl z)).2.2 (List.mem_map.mpr ⟨p,hp,rfl⟩)) (λz=>(n _ (.inr z)).2.2 (List.mem_map.mpr ⟨p,hp,rfl⟩)),n1,ne,nf,d⟩
theorem xO{M:Model}{A:Around}{E:Value->Shared->Prop}{e T:Addr}{cls:Value}{Q:Unit->Shared->Prop}(r:Rec s.heap e cls (some T))
 (h:∀h',Lx [] e (some T) s.heap h'->Rec h' e cls (some T)->Q () { s with heap:=h' }):wpAny M A (setFlight (.ref e) none) Q E s:=by
 obtain⟨oe,vs,he,hc,hdi,hd,h1,hTe,oT,ts,hT,hdT,fl,h3⟩:=r
 refine wpAny_setFlight_none he hd h1 hT hdT (Array.getElem?_eq_some_iff.mp h3).1 (h _ ⟨λb o q _ _ hb=>?_,λb o _ z=>by cases z⟩ ?_)
 . exact(Heap.get?_update_other _ _ λz=>hb (by rw[z])).trans q
 . refine⟨oe,vs,(Heap.get?_update_other _ _ hTe).trans he,hc,hdi,hd,h1,hTe,_,_,Heap.get?_update_self _ hT (Obj.isFreed_of_fields (Obj.data_mapFields hdT _)),Obj.data_mapFields hdT _,none,?_⟩
   have:=(Array.getElem?_eq_some_iff.mp h3).1
   simp[this]
theorem aDt{M:Model}{A:Around}{E:Value->Shared->Prop}{e T:Addr}{cls:Value}{f:Option Addr}{Q:Unit->Shared->Prop}(r:Rec s.heap e cls (some T))
 (h:∀h',Lx [] e (some T) s.heap h'->Rec h' e cls (some T)->Q () { s with heap:=h' }):wpAny M A (setFlight (.ref e) f) Q E s:=by
 obtain⟨oe,vs,he,hc,hdi,hd,h1,hTe,oT,ts,hT,hdT,fl,h3⟩:=r
 unfold setFlight
 refine wpAny_bind (wpAny_field he hd h1 ?_)
 rw[if_pos (show(Value.ref T != Value.none)=true from by simp)]
 refine wpAny_setField hT hdT (Array.getElem?_eq_some_iff.mp h3).1 (h _ ⟨λb o q _ _ hb=>?_,λb o _ z=>by cases z⟩ ?_)
 . exact(Heap.get?_update_other _ _ λz=>hb (by rw[z])).trans q
 . refine⟨oe,vs,(Heap.get?_update_other _ _ hTe).trans he,hc,hdi,hd,h1,hTe,_,_,Heap.get?_update_self _ hT (Obj.isFreed_of_fields (Obj.data_mapFields hdT _)),Obj.data_mapFields hdT _,f,?_⟩
   have:=(Array.getElem?_eq_some_iff.mp h3).1
   simp[this]
theorem Inv.track{a:Addr}{o:HO}(I:Inv X pins σ H s)(n:¬ (Old X.s₀.heap a/\a∉X.ex))(hn:H a=none)(hp:a∉pinA X pins)(hl:a≠X.env.locals)(hc:∀x c,X.env.cells.lookup x=some c->c≠a)(new:bW X.prog X.w (upd H a o) s.heap a o):Inv X pins σ (upd H a o) s:=by
 have ne:∀b o,X.s₀.heap.get? b=some o->b∉X.ex->b≠a:=λb o q hx z=>n (by rw[<-z];exact⟨⟨o,q⟩,hx⟩)
 have nt:∀b u,H b=some u->b≠a:=λb u q z=>by rw[z,hn] at q;cases q
 refine⟨I.ok,I.os,I.bare,⟨I.base.keep,I.base.slot,λb o q h0 hx=>by rw[aE (ne b o q hx)];exact I.base.free b o q h0 hx,I.base.there,λb xs q=>?_,λb o u q=>?_,λb ps q=>?_⟩,I.loc,I.cell,by rw[aE (Ne.symm hl)];exact I.free,λx c e=>by rw[aE (hc x c e)];exact I.freeC x c e,λp hp'=>?_,λb u q=>?_,I.len⟩
 . have z:=I.base.tups b xs q
   rw[aE (nt b _ z)];exact z
 . have z:=I.base.frzs b o u q
   rw[aE (nt b _ z)];exact z
 . obtain⟨more,z⟩:=I.base.tbls b ps q
   exact⟨more,by rw[aE (nt b _ z)];exact z⟩
 . obtain⟨e1,n1,ne1,nf,d⟩:=I.pin p hp'
   exact⟨e1,by rw[aE λz=>hp (List.mem_map.mpr ⟨p,hp',z⟩)];exact n1,ne1,nf,d⟩
 . by_cases hb:b=a
   . subst hb
     rw[aV] at q
     cases q
     exact new
   . rw[aE hb] at q
     exact(I.hok b u q).stay (λ_ _ _ g=>g) (λc g=>by rw[aE (nt c _ g)];exact g) λc xs g=>by rw[aE (nt c _ g)];exact g
end
section
variable {X:Cx} {pins:List (Addr×Obj)} {σ:St} {H:Hp} {s:Shared}
theorem uN{M:Model}{A:Around}{E:Value->Shared->Prop}{i:Nat}{x:Str}{v:V}{Q:Unit->Shared->Prop}(I:Inv X pins σ H s)(hN:X.N.Nodup)(hi:X.N[i]? = some x)(hk:X.env.scope.names.lookup x=some .local)(hv:σ[i]? = some (some v))
 (h:∀s',Inv X pins (σ.set i none) H s'->Q () s'):wpAny M A (unbindName X.env x) Q E s:=by
 obtain⟨m,hn,hl⟩:=id I.loc
 have hcls:(X.env.scope.kind==.class||(X.env.scope.kind==.module&&X.env.locals != X.env.globals))=false:=by rw[I.ok.kind];rfl
 have hiσ:i<σ.length:=by rw[I.len];exact(List.getElem?_eq_some_iff.mp hi).1
 obtain⟨u,r,lk⟩:=hl i x v hi hv (.inl hk)
 have hm:m x=some u:=by
  rcases lk with⟨_,e⟩|⟨k,_⟩
  . exact e
  . have k':X.env.scope.names.lookup x=some .cell\/X.env.scope.names.lookup x=some .free:=k
    rw[hk] at k'
    rcases k' with z|z <;> cases z
 refine wpAny_unbindName_local hk hn hm hcls λh' u' hn' hs=>?_
 obtain⟨oL,_,_,hoL,_⟩:=id hn
 have tracked:HOk X.prog X.w H h':=λb ob e=>by
  refine(I.hok b ob e).stay (λc w' hc q=>(hs.2 c ?_).trans q) (λ_ q=>q) λ_ _ q=>q
  rintro rfl
  have hf:=I.free
  rcases hc with rfl|hc
  . rw[hf] at e;cases e
  . rw[hf] at hc;cases hc
 refine h { s with heap:=h' } ⟨I.ok,I.os,I.bare,⟨λb o e n hb hx=>?_,λb o e n hb hx=>?_,I.base.free,λb o e hx=>?_,I.base.tups,I.base.frzs,I.base.tbls⟩,⟨_,hn',λj y v' e1 e2 e3=>?_⟩,λy c e=>?_,I.free,I.freeC,λp hp=>?_,tracked,by simpa using I.len⟩
 . exact(hs.2 b (Nat.ne_of_lt (Nat.lt_of_lt_of_le (Heap.lt_size e) I.ok.above))).trans (I.base.keep b o e n hb hx)
 . obtain⟨sl,e1⟩:=I.base.slot b o e n hb hx
   exact⟨sl,(hs.2 b (Nat.ne_of_lt (Nat.lt_of_lt_of_le (Heap.lt_size e) I.ok.above))).trans e1⟩
 . obtain⟨o',e1⟩:=I.base.there b o e hx
   exact⟨o',(hs.2 b (Nat.ne_of_lt (Nat.lt_of_lt_of_le (Heap.lt_size e) I.ok.above))).trans e1⟩
 . by_cases hj:j=i
   . subst hj
     rw[List.getElem?_set_self hiσ] at e2
     cases e2
   . rw[List.getElem?_set_ne (Ne.symm hj)] at e2
     obtain⟨w',r',q⟩:=hl j y v' e1 e2 e3
     refine⟨w',r',?_⟩
     rcases q with⟨k,e⟩|⟨k,c,e,z⟩
     . refine .inl ⟨k,?_⟩
       have:y≠x:=λe=>hj (jG hN e1 (e▸hi))
       simp[this,e]
     . exact .inr ⟨k,c,e,z.sameBut hs (I.cne y c e)⟩
 . obtain⟨w',z⟩:=I.cell y c e
   exact⟨w',z.sameBut hs (I.cne y c e)⟩
 . obtain⟨e,n,ne,nf,d⟩:=I.pin p hp
   exact⟨(hs.2 p.1 ne).trans e,n,ne,nf,d⟩
end
def lG(K:PySem.W.Frag)(C1 C:Addr):Bool:=match K.lookup C1 with
 | some ⟨_,_,.cls cd,_⟩=>cd.mro.contains (.ref C)
 | _=>false
section
variable {M:Model} {A:Around} {E:Value->Shared->Prop}
theorem oN{h:Heap}{g:Array GenState}{d:Drawn}{t:Nat}{os:OsState}{e C C1:Addr}{oe:Obj}{Q:Bool->Shared->Prop}
 {nm q:Str} {N:Addr} {bs bm:List Value} {hdct:Bool} {sn:List Str} {sub:List Value} {ab:Bool} {col:Option Bool} {dd:Option Addr} {k0 k1 k2 k3 k5:Option Value} {newId:String}
 {nm' q':Str} {N':Addr} {bs' bm':List Value} {hdct':Bool} {sn':List Str} {sub':List Value} {ab':Bool} {col':Option Bool} {dd':Option Addr} {k0' k1' k2' k3' k5':Option Value} {newId':String}
 (hC1:h.get? C1=some (excClassObj nm q C1 N bs bm hdct sn sub ab col dd k0 k1 k2 k3 k5 newId)) (hC:h.get? C=some (excClassObj nm' q' C N' bs' bm' hdct' sn' sub' ab' col' dd' k0' k1' k2' k3' k5' newId'))
 (he:h.get? e=some oe) (hcls:oe.cls=.ref C1) (hbase:bm'.contains (.type "BaseException")=true) (hit:(Value.ref C1::bm).contains (.ref C)=true)
 (hq:Q true ⟨h,g,d,t,os⟩):wpAny M A (excMatches (.ref e) (.ref C)) Q E ⟨h,g,d,t,os⟩:=by
 have hcB:(Value.ref C::bm').contains (.type "BaseException")=true:=by rw[List.contains_cons,hbase,Bool.or_true]
 have f:=tc_notTuple
 unfold excMatches
 repeat (first|(with_reducible refine wpAny_loadPart_at he ?_;rw[hcls])|with_reducible refine wpAny_loadPart_at hC ?_|(with_reducible refine wpAny_isSubtype_exc hC ?_;rw[hcB])|(with_reducible refine wpAny_isSubtype_exc hC1 ?_;rw[hit])|wp_step)
 exact hq
end
theorem aAW{P:Program}{w:World}{H:Hp}{h:Heap}{a C:Addr}{T:Option Addr}(r:Rec h a (.ref C) T):bW P w H h a (excO a C):=by
 obtain⟨oe,vs,he,hc,hdi,hd,_⟩:=r
 refine⟨⟨oe,he,hc,?_,?_⟩,⟨oe,he⟩,λ_ _ ⟨o',I⟩ k=>⟨o',k o' I.at_,I.cls,I.no,?_⟩⟩
 . obtain⟨c,dd,dt,sl⟩:=oe
   have hd:dt=.fields vs:=hd
   subst hd
   rfl
 . rw[hdi];exact True.intro
 . have z:=I.dict
   cases q:o'.dict with
   | none=>exact True.intro
   | some d=>rw[q] at z;exact z.elim
abbrev Cx.inTry(X:Cx)(pins:List (Addr×Obj))(E:Value->Shared->Prop):Cx:={ X with pn:=X.pn++pins,xe:=E }
abbrev Cx.inExc(X:Cx)(e:Value):Cx:={ X with A:=X.A.mark (some e),calm:=false,xe:=λ_ _=>False }
section
variable {X:Cx} {pins pins':List (Addr×Obj)} {σ:St} {H:Hp} {s:Shared} {E:Value->Shared->Prop}
theorem Inv.inTry(I:Inv X pins σ H s):Inv (X.inTry pins E) [] σ H s:=
 ⟨⟨I.ok.mod,I.ok.kind,I.ok.glob,I.ok.blt,I.ok.above,I.ok.inj,I.ok.has,I.ok.cab,I.ok.hd,I.ok.frames,I.ok.stk,I.ok.exf,I.ok.bs,I.ok.bsz,I.ok.noex,I.ok.exfs,I.ok.funs,I.ok.frf⟩,
  I.os,I.bare,I.base,I.loc,I.cell,I.free,I.freeC,λp hp=>I.pin p (by simpa using hp),I.hok,I.len⟩
theorem Inv.outTry(I:Inv (X.inTry pins E) pins' σ H s):Inv X pins σ H s:=
 ⟨⟨I.ok.mod,I.ok.kind,I.ok.glob,I.ok.blt,I.ok.above,I.ok.inj,I.ok.has,I.ok.cab,I.ok.hd,I.ok.frames,I.ok.stk,I.ok.exf,I.ok.bs,I.ok.bsz,I.ok.noex,I.ok.exfs,I.ok.funs,I.ok.frf⟩,
  I.os,I.bare,I.base,I.loc,I.cell,I.free,I.freeC,λp hp=>I.pin p (List.mem_append_left _ hp),I.hok,I.len⟩
theorem Inv.inExc{e:Value}(I:Inv X pins σ H s):Inv (X.inExc e) pins σ H s:=
 ⟨⟨I.ok.mod,I.ok.kind,I.ok.glob,I.ok.blt,I.ok.above,I.ok.inj,I.ok.has,I.ok.cab,(λz=>nomatch z),I.ok.frames,I.ok.stk,I.ok.exf,I.ok.bs,I.ok.bsz,I.ok.noex,I.ok.exfs,I.ok.funs,I.ok.frf⟩,
  I.os,I.bare,I.base,I.loc,I.cell,I.free,I.freeC,I.pin,I.hok,I.len⟩
theorem Inv.outExc{e:Value}(c:X.calm=true->X.A.handled=none)(I:Inv (X.inExc e) pins σ H s):Inv X pins σ H s:=
 ⟨⟨I.ok.mod,I.ok.kind,I.ok.glob,I.ok.blt,I.ok.above,I.ok.inj,I.ok.has,I.ok.cab,c,I.ok.frames,I.ok.stk,I.ok.exf,I.ok.bs,I.ok.bsz,I.ok.noex,I.ok.exfs,I.ok.funs,I.ok.frf⟩,
  I.os,I.bare,I.base,I.loc,I.cell,I.free,I.freeC,I.pin,I.hok,I.len⟩
theorem SP.outTry{D:Ends}{f:Flow}{s':Shared}(h:SP (X.inTry pins E) [] D f s'):SP X pins D f s':=by
 cases f with
 | next=>obtain⟨σ',H',I,q⟩:=h;exact⟨σ',H',I.outTry,q⟩
 | brk=>obtain⟨σ',H',I,q⟩:=h;exact⟨σ',H',I.outTry,q⟩
 | cont=>obtain⟨σ',H',I,q⟩:=h;exact⟨σ',H',I.outTry,q⟩
 | ret u=>obtain⟨v,σ',H',I,r,q⟩:=h;exact⟨v,σ',H',I.outTry,r,q⟩
end
def aIl(K:PySem.W.Frag)(C:Addr)(newOk:Addr->Prop)(iy jn:Nat)(D:Ends):Value->St->Hp->Prop:=λcls σ H=>∃C1,cls=.ref C1/\newOk C1/\lG K C1 C=true/\∀a,H a=none->D.nx ((((σ.set jn (some (.ref a))).set iy (some (.ref a))).set jn (some .non)).set jn none) (upd H a (excO a C1))
section
variable {X:Cx}
theorem aDu{K:PySem.W.Frag}{h:Heap}{C1 C:Addr}{o:Obj}(KX:K.In h)(hit:lG K C1 C=true)(q:h.get? C1=some o):∃cd,o.data=.cls cd/\cd.mro.contains (.ref C)=true:=by
 unfold lG at hit
 split at hit
 . rename_i c d cd sl ho
   have:=KX _ _ ho
   rw[q] at this
   cases this
   exact⟨cd,rfl,hit⟩
 . cases hit
theorem xP{body:List Stmt}{tb:(Value->St->Hp->Prop)->TS}{x n y:Str}{C:Addr}{newId:String}{iy jn:Nat}{np yp np2 ap hp pos:Pos}
 (hg:Gl X x) (hm:X.mg x=some (.ref C)) (hd:(x==("__debug__" : Str))=false) (qC:PySem.W.excIn X.K C bmV newId=true) (hst:X.stack=X.env::X.outer)
 (hN:X.N.Nodup) (hiy:X.N[iy]? = some y) (hjn:X.N[jn]? = some n) (hy:Loc X.env.scope y) (hn:X.env.scope.names.lookup n=some .local) (hfy:X.fn y=true\/X.env.scope.names.lookup y=some .local)
 (hdn:(n==("__debug__" : Str))=false) (hcn:(n==("__classdict__" : Str))=false) (hs:swapsWith (.Name n np2) (some (.Name y yp)) ap.line X.env=pure false) (hij:iy≠jn)
 (hb:∀(pins:List (Addr×Obj)) (E:Value->Shared->Prop) (W:Value->St->Hp->Prop),PassesOwn (model X.prog X.w) X.A X.env E->Rs (X.inTry pins E) W->PSs (X.inTry pins E) body (tb W)) :
 PS X (.Try body [.ExceptHandler (some (.Name x np)) (some n) [.Assign [.Name y yp] (.Name n np2) ap] hp] [] [] pos)
  (λD σ H=>tb (aIl X.K C (λC1=>∃id,PySem.W.excIn X.K C1 bmV id=true) iy jn D) D σ H):=by
 intro pins s σ H D I h
 refine wpAny_Try_except ?_
 refine wpAny_mono (hb pins (λe s₁=>wpAny (model X.prog X.w) X.A (noteFrame e X.env) (λ_ s₂=>wpAny (model X.prog X.w) X.A (setFlight e none) (λ_ s₃=>wpAny (model X.prog X.w) X.A (handleBy e X.env [.ExceptHandler (some (.Name x np)) (some n) [.Assign [.Name y yp] (.Name n np2) ap] hp]) (SP X pins D) X.xe s₃) X.xe s₂) X.xe s₁) _ PassesOwn.looking ?_ [] s σ H D I.inTry h) (λf s₁ q=>?_) λe s₁ q=>q
 . intro pins' σ' H' s' a cls I1 fl hW
   obtain⟨C1,rfl,⟨id1,q1⟩,hit,hD⟩:=hW
   have I0:Inv X pins σ' H' s':=I1.outTry
   obtain⟨T,rc,nw⟩:=fl
   have nw:∀b,(b=a\/T=some b)->¬ (Old X.s₀.heap b/\b∉X.ex)/\H' b=none/\b∉pinA X pins:=λb z=>⟨(nw b z).1,(nw b z).2.1,λy=>(nw b z).2.2 (by
    obtain⟨p,hp,e⟩:=List.mem_map.mp y
    exact List.mem_map.mpr ⟨p,List.mem_append_left _ hp,e⟩)⟩
   have hfr:X.env.frame=some X.env.locals:=by
    rcases I0.ok.stk with z|⟨_,z⟩
    . rw[hst] at z;exact absurd (congrArg List.length z) (by simp)
    . exact z
   show wpAny (model X.prog X.w) X.A (noteFrame (.ref a) X.env) _ X.xe s'
   refine xB (base:=X.base) (outer:=X.outer) (by rw[I0.ok.frames,hst]) (by rw[<-hst];exact I0.stack) hfr rc λh1 T1 l1 x1 r1=>?_
   have I2:Inv X pins σ' H' { s' with heap:=h1 }:=I0.note x1 (λb hb=>by rw[hst];exact hb) (λb hb=>.inl (by unfold frs;rw[List.filterMap_cons,hfr];exact List.mem_cons_of_mem _ hb)) rc nw
   have nw1:∀b,(b=a\/some T1=some b)->¬ (Old X.s₀.heap b/\b∉X.ex)/\H' b=none/\b∉pinA X pins:=λb z=>by
    rcases z with z|z
    . exact nw b (.inl z)
    . cases z
      rcases l1 with l1|l1
      . exact⟨λz=>absurd z.1.lt (Nat.not_lt.mpr (Nat.le_trans I0.sz l1)),I0.hok.fresh l1,λz=>absurd (iY I0 _ z).lt (Nat.not_lt.mpr l1)⟩
      . exact nw _ (.inr l1)
   refine wpAny_handleBy_cons (codeAny_handlers_test (fT (X:=X.inExc (.ref a)) I2.inExc hg hm ?_ hd)) (by intro q;cases q)
   obtain⟨bm1,N1,nm1,qn1,bs1,hdct1,sn1,sub1,ab1,col1,dd1,k01,k11,k21,k31,k51,mN1,hC1,_,_,_⟩:=qR (X:=X) I2.kIn q1
   obtain⟨bm2,N2,nm2,qn2,bs2,hdct2,sn2,sub2,ab2,col2,dd2,k02,k12,k22,k32,k52,mN2,hC2,_,_,TL⟩:=qR (X:=X) I2.kIn qC
   obtain⟨cd,e1,e2⟩:=aDu I2.kIn hit hC1
   cases e1
   obtain⟨oe,vs,he,hc,_,hdd,hT⟩:=id r1
   refine oN hC1 hC2 he hc (TL.hasType rfl) e2 ?_
   refine codeAny_handlers_suite_as (xO r1 λh2 x2 r2=>?_)
   have I3:Inv X pins σ' H' { s' with heap:=h2 }:=Inv.note (s:={ s' with heap:=h1 }) (fr:=[]) I2 x2 (λb hb=>by cases hb) (λb hb=>.inr rfl) r1 nw1
   obtain⟨oe2,vs2,he2,hc2,_,hd2,_⟩:=id r2
   have nl:a≠X.env.locals:=λz=>by
    obtain⟨m,⟨o,es,ep,ho,hdo,_⟩,_⟩:=I3.loc
    rw[<-z] at ho
    have ho:h2.get? a=some o:=ho
    rw[he2] at ho
    cases ho
    rw[hd2] at hdo
    cases hdo
   have nc:∀x c,X.env.cells.lookup x=some c->c≠a:=λx c e z=>by
    obtain⟨v,o,ho,hdo⟩:=I3.cell x c e
    rw[z] at ho
    have ho:h2.get? a=some o:=ho
    rw[he2] at ho
    cases ho
    rw[hd2] at hdo
    cases hdo
   have na:=nw a (.inl rfl)
   have I4:Inv X pins σ' (upd H' a (excO a C1)) { s' with heap:=h2 }:=I3.track (a:=a) (o:=excO a C1) na.1 na.2.1 na.2.2 nl nc (aAW r2)
   have hlj:jn<σ'.length:=by rw[I3.len];exact(List.getElem?_eq_some_iff.mp hjn).1
   refine fS (X:=X) (v:=.ref a) I4 hN hjn (.inl hn) rfl (λs4 I5=>?_) (.inr hn)
   refine wpAny_mono (aAq (mH (X:=X.inExc (.ref a)) hN hiy hy (mF (i:=jn) hjn (.inl hn) hdn hcn) hs hfy) pins s4 _ _
    { nx:=λσ5 H5=>σ5=(σ'.set jn (some (.ref a))).set iy (some (.ref a))/\H5=upd H' a (excO a C1),rt:=λ_ _=>False,bk:=λ_ _=>False,ct:=λ_ _=>False } I5.inExc ⟨.ref a,List.getElem?_set_self hlj,rfl,rfl⟩) (λf s5 q=>?_) (λ_ _ z=>z.elim)
   cases f with
   | next=>
    obtain⟨σ5,H5,I6,e5,e6⟩:=q
    subst e5 e6
    have I6:=I6.outExc I0.ok.hd
    show wpAny (model X.prog X.w) X.A (do bindName X.env n .none;unbindBehindTheSuite X.env n hp) (λ_ s₃=>SP X pins D .next s₃) X.xe s5
    refine wpAny_bind (wpAny_bindName (fS (v:=.non) I6 hN hjn (.inl hn) rfl (λs6 I7=>?_) (.inr hn)))
    unfold unbindBehindTheSuite
    refine wpAny_onRaise (uN (v:=.non) I7 hN hjn hn (List.getElem?_set_self (by simpa using hlj)) λs7 I8=>?_)
    exact⟨_,_,I8,hD a na.2.1⟩
   | brk=>obtain⟨_,_,_,z⟩:=q;exact z.elim
   | cont=>obtain⟨_,_,_,z⟩:=q;exact z.elim
   | ret u=>obtain⟨_,_,_,_,_,z⟩:=q;exact z.elim
 . cases f with
   | next=>exact wpAny_execs_nil (SP.outTry (f:=.next) q)
   | brk=>exact SP.outTry (f:=.brk) q
   | cont=>exact SP.outTry (f:=.cont) q
   | ret u=>exact SP.outTry (f:=.ret u) q
end
def dY(cells:List (Str×Addr)):List (Str×NameKind)->List (Str×Addr)->List (Str×Addr)
 | [],acc=>acc
 | (n,k)::r,acc=>if k==.free then dY cells r ((n,(cells.lookup n).getD 0)::acc) else dY cells r acc
theorem clos_mem{cells:List (Str×Addr)}:∀{names:List (Str×NameKind)} {acc:List (Str×Addr)} {p:Str×Addr},p∈dY cells names acc->p∈acc\/((p.1,NameKind.free)∈names/\p.2=(cells.lookup p.1).getD 0)
 | [],_,_,h=>.inl h
 | (n,k)::r,acc,p,h=>by
  unfold dY at h
  by_cases hk:(k==NameKind.free)=true
  . rw[if_pos hk] at h
    rcases clos_mem h with q|q
    . rcases List.mem_cons.mp q with q|q
      . subst q
        have:k=.free:=eq_of_beq hk
        subst this
        exact .inr ⟨List.mem_cons_self,rfl⟩
      . exact .inl q
    . exact .inr ⟨List.mem_cons_of_mem _ q.1,q.2⟩
  . rw[if_neg hk] at h
    rcases clos_mem h with q|q
    . exact .inl q
    . exact .inr ⟨List.mem_cons_of_mem _ q.1,q.2⟩
theorem jQ{cells:List (Str×Addr)}:∀{names:List (Str×NameKind)} {acc:List (Str×Addr)} {p:Str×Addr},p∈acc->p∈dY cells names acc
 | [],_,_,h=>h
 | (n,k)::r,acc,p,h=>by
  unfold dY
  by_cases hk:(k==NameKind.free)=true
  . rw[if_pos hk];exact jQ (List.mem_cons_of_mem _ h)
  . rw[if_neg hk];exact jQ h
theorem gA{cells:List (Str×Addr)}:∀{names:List (Str×NameKind)} {acc:List (Str×Addr)} {n:Str},(n,NameKind.free)∈names->(n,(cells.lookup n).getD 0)∈dY cells names acc
 | [],_,_,h=>by simp at h
 | (m,k)::r,acc,n,h=>by
  unfold dY
  rcases List.mem_cons.mp h with q|q
  . cases q
    rw[if_pos (by rfl:(NameKind.free==NameKind.free)=true)]
    exact jQ List.mem_cons_self
  . by_cases hk:(k==NameKind.free)=true
    . rw[if_pos hk];exact gA q
    . rw[if_neg hk];exact gA q
theorem cO{α:Type}:∀{l:List (Str×α)} {x:Str} {a:α},(x,a)∈l->∃b,l.lookup x=some b
 | (y,b)::r,x,a,h=>by
  rw[List.lookup_cons]
  cases hx:x==y with
  | true=>exact⟨b,rfl⟩
  | false=>
   rcases List.mem_cons.mp h with q|q
   . cases q
     simp at hx
   . exact cO q
theorem bG{cells:List (Str×Addr)}{names:List (Str×NameKind)}(hh:∀n,(n,NameKind.free)∈names->∃c,cells.lookup n=some c){x:Str}{c:Addr}(h:(dY cells names []).lookup x=some c):cells.lookup x=some c:=by
 rcases clos_mem (PySem.mem_of_lookup h) with q|⟨q1,q2⟩
 . simp at q
 . obtain⟨c',e⟩:=hh x q1
   simp only at q2
   rw[e] at q2
   rw[e,q2];rfl
theorem eD{scope:Scope}{env:Env}(hh:∀n,(n,NameKind.free)∈scope.names->∃c,env.cells.lookup n=some c):closureFor scope env=pure (dY env.cells scope.names []):=by
 have go:∀(l:List (Str×NameKind)) (acc:List (Str×Addr)),(∀n,(n,NameKind.free)∈l->∃c,env.cells.lookup n=some c) ->
  (forIn l acc (λ(x:Str×NameKind) (r:List (Str×Addr))=>(match x with|(name,kind)=>if (kind==NameKind.free)=true then do let __do_lift<-cellOf env name;pure (ForInStep.yield ((name,__do_lift)::r)) else pure (ForInStep.yield r):Sem (ForInStep (List (Str×Addr))))))=(pure (dY env.cells l acc):Sem (List (Str×Addr))):=by
  intro l
  induction l with
  | nil=>intro acc _;rfl
  | cons p r ih=>
   intro acc hl
   obtain⟨n,k⟩:=p
   rw[List.forIn_cons]
   unfold dY
   by_cases hk:(k==NameKind.free)=true
   . have:k=.free:=eq_of_beq hk
     subst this
     obtain⟨c,e⟩:=hl n List.mem_cons_self
     have e':cellOf env n=pure c:=by unfold cellOf;rw[e]
     simp only[beq_self_eq_true,if_true,e']
     rw[e]
     exact ih _ λm hm=>hl m (List.mem_cons_of_mem _ hm)
   . simp only[hk,if_false]
     exact ih _ λm hm=>hl m (List.mem_cons_of_mem _ hm)
 unfold closureFor
 exact(bind_pure _).trans (go scope.names [] hh)
section
variable {prog:Program} {w:World} {A:Around} {R:Result->Shared->Prop} {s:Shared}
theorem eM{elt target iter:Expr}{ifs:List Expr}{scope:Scope}{pos:Pos}{it acc:Value}{env:Env}(I:Nat->Shared->Prop)
 (turn:∀n s,I n s->wpAny (model prog w) A (pyNext it) (λr s₁=>match r with
  | none=>R (.ok .next) s₁
  | some v=>wpAny (model prog w) A (letOwnedTupleGo target it v) (λ_ s₁'=>wpAny (model prog w) A (assign target env v) (λ_ s₂=>
   wpAny (model prog w) A (forIn ifs true λc r=>if r=true then do let ok<-isTrue c env (eval c env);pure (ForInStep.yield ok) else pure (ForInStep.yield r)) (λok s₃=>
    if ok=true then wpAny (model prog w) A (eval elt env) (λx s₄=>
     wpAny (model prog w) A (call (.builtin "list.append") [acc,x]) (λ_ s₅=>∃m,m<n/\I m s₅) (λ_ _=>False) s₄) (notedBy (model prog w) A env λe s'=>R (.error e) s') s₃
    else ∃m,m<n/\I m s₃) (λ_ _=>False) s₂) (λ_ _=>False) s₁') (λ_ _=>False) s₁) (λ_ _=>False) s)
 (n:Nat) (h:I n s) :
 codeAny (model prog w) A (.compLoop (.ListComp elt [⟨target,iter,ifs,0⟩] scope pos) 0 it acc env) R s:=by
 refine codeAny_loop rfl I (λn s hI=>?_) n h
 show wpAny _ A ((compTurn (.ListComp elt [⟨target,iter,ifs,0⟩] scope pos) 0 it acc env).onRaise (λx=>do noteFrame x env;theTreesLotGoes x)) _ _ s
 refine wpAny_noted ?_
 rw[compTurn_list]
 refine wpAny_bind (wpAny_standAt (wpAny_bind (wpAny_mono (turn n s hI) (λr s₁ h₁=>?_) λ_ _ h'=>h'.elim)))
 cases r with
 | none=>exact wpAny_pure h₁
 | some v=>
  refine wpAny_bind (wpAny_mono h₁ (λ_ s₁' h₁'=>?_) λ_ _ h'=>h'.elim)
  refine wpAny_bind (wpAny_mono h₁' (λ_ s₂ h₂=>wpAny_bind (wpAny_mono h₂ (λok s₃ h₃=>?_) λ_ _ h'=>h'.elim)) λ_ _ h'=>h'.elim)
  cases ok with
  | false=>exact wpAny_pure ⟨rfl,h₃⟩
  | true=>
   exact wpAny_bind (wpAny_bind (wpAny_mono h₃ (λx s₄ h₄=>wpAny_bind (wpAny_mono h₄ (λ_ s₅ h₅=>wpAny_pure (wpAny_pure ⟨rfl,h₅⟩)) λ_ _ h'=>h'.elim)) λ_ _ h'=>h'))
theorem iT{env env':Env}{e:Value}(h:env'.frame=env.frame):noteFrame e env'=noteFrame e env:=by
 unfold noteFrame PySem.frameOf
 rw[h]
end
def bD(X:Cx)(scope:Scope)(N':List Str)(C:Addr)(s₀:Shared)(H₀:Hp)(ex:List Addr):Cx:=
 { X with env:=compEnvC scope (dY X.env.cells scope.names []) C X.env,N:=N',s₀:=s₀,H₀:=H₀,outer:=X.stack,ex:=ex,fn:=λ_=>false,pn:=[],xe:=λ_ _=>False }
def PTs(X:Cx)(ifs:List Expr)(t:TT):Prop:=
 ∀(pins:List (Addr×Obj)) (s:Shared) (σ:St) (H:Hp) (Q:Bool->Hp->Prop),Inv X pins σ H s->t σ H Q ->
  wpAny (model X.prog X.w) X.A (forIn ifs true λc r=>if r=true then do let ok<-isTrue c X.env (eval c X.env);pure (ForInStep.yield ok) else pure (ForInStep.yield r)) (TP X pins σ Q) X.xe s
theorem aAX{X:Cx}:PTs X [] (λ_ H Q=>Q true H):=λpins s σ H Q I h=>wpAny_pure ⟨H,I,h⟩
theorem aAY{X:Cx}{c:Expr}{t:TT}(h:PT X c t):PTs X [c] t:=λpins s σ H Q I hw=>wpAny_tests_one (h pins s σ H Q I hw)
structure bU (X:Cx) (scope:Scope) (k:Nat) (caps:List Nat) (N':List Str):Prop where
 kind:scope.kind=.function
 nocell:∀y∈scope.names,y.2≠.cell
 loc:∀y∈scope.names,y.2=.local->scope.names.lookup y.1=some .local
 free:∀n,(n,NameKind.free)∈scope.names->X.env.kindOf n=some .cell\/X.env.kindOf n=some .free
 len:N'.length=k+caps.length
 cap:∀j i,caps[j]? = some i->∃x,N'[k+j]? = some x/\X.N[i]? = some x/\scope.names.lookup x=some .free/\X.env.kindOf x=some .cell
 ndp:X.N.Nodup
def fM(k:Nat)(caps:List Nat)(σ:St):St:=List.replicate k none++caps.map λi=>(σ[i]?).getD none
def xQ(WX:Value->St->Hp->Prop)(k:Nat)(caps:List Nat)(wi:TI)(g:TG)(tt:TT)(te:(Value->St->Hp->Prop)->TE):TE:=λσ H Q=>wi σ H λJ H1=>
 ∃W:Nat->Nat->List V->St->Hp->Prop,(∃m,W 0 m [] (fM k caps σ) H1)/\∀i m ys σ1 H,W i m ys σ1 H ->
  (J.stop i H/\ys.length<=sizeLine/\∀p,H p=none->Q (.ref p) (upd H p (.lst ys))) \/
  (J.go i H/\ys.length<sizeLine/\∀x H',J.yld i H x H'->g x σ1 H' λσ2 H2=>tt σ2 H2 λb H3=>
   if b=true then te (λc _ H=>WX c σ H) σ2 H3 λy H4=>∃m',m'<m/\W (i+1) m' (ys++[y]) σ2 H4 else ∃m',m'<m/\W (i+1) m' ys σ2 H3)
theorem HOk.track{P:Program}{w:World}{H:Hp}{h:Heap}{a:Addr}{o:HO}(ok:HOk P w H h)(n:H a=none)(new:bW P w (upd H a o) h a o):HOk P w (upd H a o) h:=λb u e=>by
 by_cases hb:b=a
 . subst hb;rw[aV] at e;cases e;exact new
 . rw[aE hb] at e
   exact(ok b u e).stay (λ_ _ _ q=>q) (λc q=>by rw[aE (aO q n)];exact q) λc xs q=>by rw[aE (aO q n)];exact q
abbrev bR(its:List Value)(n:Nat):Obj:={ cls:=.type "list",data:=.seq its.toArray n }
section
variable {X:Cx} {scope:Scope} {k:Nat} {caps:List Nat} {N':List Str} {pins:List (Addr×Obj)} {σ:St} {H:Hp} {s:Shared} {fp:List Addr}
theorem Inv.cellLt(I:Inv X pins σ H s){x:Str}{c:Addr}(e:X.env.cells.lookup x=some c):c<s.heap.objs.size:=by
 obtain⟨v,q⟩:=I.cell x c e
 exact q.lt
theorem dH:∀{l:List (Str×NameKind)} {x:Str} {k:NameKind},l.lookup x=some k->(x,k)∈l:=λh=>PySem.mem_of_lookup h
theorem relabel_lookup{env:Env}:∀{names:List (Str×NameKind)} {x:Str} {k:NameKind},
 (names.map λ(n,k)=>if (k==NameKind.free&&env.scope.kind==.function&&env.kindOf n==some .cell) then (n,NameKind.cell) else (n,k)).lookup x=some k ->
 (k=.cell/\names.lookup x=some .free/\env.kindOf x=some .cell)\/names.lookup x=some k
 | [],_,_,h=>by simp at h
 | (n,k')::r,x,k,h=>by
  have ih:=@relabel_lookup env r x k
  rw[mC] at h
  by_cases hc:(k'==NameKind.free&&env.scope.kind==.function&&env.kindOf n==some .cell)=true
  . simp only[hc,if_true,List.lookup_cons] at h ⊢
    cases hx:x==n with
    | true=>
     rw[hx] at h
     simp only at h ⊢
     simp only[bA] at hc
     have e1:k'=.free:=eq_of_beq hc.1.1
     have e2:env.kindOf n=some .cell:=eq_of_beq hc.2
     have e3:x=n:=eq_of_beq hx
     subst e3
     cases h
     exact .inl ⟨rfl,by rw[e1],e2⟩
    | false=>rw[hx] at h;exact ih h
  . simp only[Bool.not_eq_true] at hc
    simp only[hc,if_false,List.lookup_cons,bF] at h ⊢
    cases hx:x==n with
    | true=>rw[hx] at h;exact .inr h
    | false=>rw[hx] at h;exact ih h
theorem aIm(CS:bU X scope k caps N')(I:Inv X pins σ H s)(f:∀b∈fp,fU X pins H b)(hf:∀b∈fp,b<s.heap.objs.size) :
 (bD X scope N' (s.heap.objs.size+1) { s with heap:=s.heap.push (bR [] 0) } H (s.heap.objs.size::fp)).Ok:=by
 have hh:∀n,(n,NameKind.free)∈scope.names->∃c,X.env.cells.lookup n=some c:=λn hn=>I.ok.has n (CS.free n hn)
 have ge:∀b o,s.heap.get? b=some o->(s.heap.push (bR [] 0)).get? b=some o:=λb o e=>Heap.get?_push_of_some _ e
 have fsub:∀b∈frs X.stack,∃o,s.heap.get? b=some o:=λb hb=>by
  obtain⟨_,o,ho,_⟩:=I.stack.mem hb
  exact⟨o,ho⟩
 refine⟨I.ok.mod,?_,I.ok.glob,I.ok.blt,?_,λx y c h1 h2=>?_,λx hx=>?_,λx c h _=>?_,I.ok.hd,I.ok.frames,.inl rfl,λb hb=>?_,λb o e=>?_,?_,λb o e hb=>?_,λb hb=>?_,?_,I.stkFree⟩
 . exact CS.kind
 . show(s.heap.push (bR [] 0)).objs.size<=s.heap.objs.size+1
   rw[Heap.size_push]
   exact Nat.le_refl _
 . exact I.ok.inj x y c (bG hh h1) (bG hh h2)
 . have fr:(x,NameKind.free)∈scope.names:=by
    rcases hx with q|q
    . rcases relabel_lookup q with⟨_,z,_⟩|z
      . exact dH z
      . exact absurd rfl (CS.nocell _ (dH z))
    . rcases relabel_lookup q with⟨z,_⟩|z
      . cases z
      . exact dH z
   obtain⟨c,e⟩:=cO (gA (cells:=X.env.cells) (acc:=[]) fr)
   exact⟨c,e⟩
 . cases(show false=true from h)
 . refine⟨?_,λx c e=>?_⟩
   . show b≠s.heap.objs.size+1
     rcases List.mem_cons.mp hb with z|z
     . rw[z];exact Nat.ne_of_lt (Nat.lt_succ_self _)
     . exact Nat.ne_of_lt (Nat.lt_succ_of_lt (hf b z))
   . have e':=bG hh e
     rcases List.mem_cons.mp hb with z|z
     . rw[z];exact Nat.ne_of_lt (I.cellLt e')
     . exact(f b z).2.2.2.2.1 x c e'
 . exact⟨ge b o (I.bs b o e).1,(I.bs b o e).2⟩
 . show X.base.objs.size<=(s.heap.push (bR [] 0)).objs.size
   rw[Heap.size_push]
   exact Nat.le_succ_of_le (Nat.le_trans I.ok.bsz I.sz)
 . have lt:=Heap.lt_size e
   rcases List.mem_cons.mp hb with z|z
   . subst z
     exact absurd (Nat.lt_of_lt_of_le lt (Nat.le_trans I.ok.bsz I.sz)) (Nat.lt_irrefl _)
   . rcases(f b z).2.2.2.1 with q|q
     . exact I.ok.noex b o e q
     . exact absurd (Nat.lt_of_lt_of_le lt (Nat.le_trans I.ok.bsz q)) (Nat.lt_irrefl _)
 . show b∉frs X.stack
   intro hs
   rcases List.mem_cons.mp hb with z|z
   . subst z
     obtain⟨o,e⟩:=fsub _ hs
     exact absurd (Heap.lt_size e) (Nat.lt_irrefl _)
   . rcases List.mem_cons.mp (I.stkSub b hs) with q|q
     . exact(f b z).2.1 q
     . exact(f b z).2.2.1 q
 . exact I.stack.of_keeps λb o e _=>⟨o,ge b o e,rfl⟩
theorem xR(CS:bU X scope k caps N'){j:Nat}{v:V}(h:(fM k caps σ)[j]? = some (some v)):∃j' i,j=k+j'/\caps[j']? = some i/\σ[i]? = some (some v):=by
 unfold fM at h
 by_cases hj:j<k
 . rw[List.getElem?_append_left (by simpa using hj),List.getElem?_replicate] at h
   split at h <;> cases h
 . rw[List.getElem?_append_right (by simpa using hj),List.length_replicate,List.getElem?_map] at h
   cases e:caps[j-k]? with
   | none=>rw[e] at h;cases h
   | some i=>
    rw[e] at h
    have h':(σ[i]?).getD none=some v:=Option.some.inj h
    refine⟨j-k,i,by omega,e,?_⟩
    cases q:σ[i]? with
    | none=>rw[q] at h';cases h'
    | some z=>rw[q] at h';exact congrArg some h'
theorem aFP(CS:bU X scope k caps N')(I:Inv X pins σ H s)(f:∀b∈fp,fU X pins H b)(hf:∀b∈fp,b<s.heap.objs.size){h₁:Heap}{tk:Nat}
 (hns:h₁.Ns (s.heap.objs.size+1) λ_=>none) (hk:∀b o,(s.heap.push (bR [] 0)).get? b=some o->h₁.get? b=some o) :
 Inv (bD X scope N' (s.heap.objs.size+1) { s with heap:=s.heap.push (bR [] 0) } H (s.heap.objs.size::fp)) [] (fM k caps σ) H { s with heap:=h₁,toks:=tk }:=by
 have hh:∀n,(n,NameKind.free)∈scope.names->∃c,X.env.cells.lookup n=some c:=λn hn=>I.ok.has n (CS.free n hn)
 have ge:∀b o,s.heap.get? b=some o->h₁.get? b=some o:=λb o e=>hk b o (Heap.get?_push_of_some _ e)
 have cellK:∀{c:Addr} {v:Option Value},s.heap.IsCell c v->h₁.IsCell c v:=λ{c v} ⟨o,e,d⟩=>⟨o,ge _ _ e,d⟩
 refine⟨aIm CS I f hf,rfl,I.bare,Un.kept hk,⟨_,hns,λj x v e1 e2 e3=>?_⟩,λx c e=>?_,?_,λx c e=>?_,λp hp=>absurd (show p∈([]:List (Addr×Obj)) from hp) (by simp),I.hok.kept ge,?_⟩
 . obtain⟨j',i,ej,ec,es⟩:=xR CS e2
   obtain⟨y,h1,h2,h3,h4⟩:=CS.cap j' i ec
   have e1':N'[j]? = some x:=e1
   rw[ej,h1] at e1'
   have ey:y=x:=Option.some.inj e1'
   subst ey
   obtain⟨m,hn,hl⟩:=I.loc
   obtain⟨u,ru,lk⟩:=hl i y v h2 es (.inr (.inl h4))
   rcases lk with⟨k1,_⟩|⟨_,c,ec',hc⟩
   . rw[h4] at k1;cases k1
   . refine⟨u,ru,.inr ⟨?_,c,?_,cellK hc⟩⟩
     . have e3':Vis (relabel scope X.env) y:=e3
       rcases e3' with z|z|z
       . rcases relabel_lookup z with⟨z,_⟩|z
         . cases z
         . rw[h3] at z;cases z
       . exact .inl z
       . exact .inr z
     . obtain⟨c',e⟩:=cO (gA (cells:=X.env.cells) (acc:=[]) (dH h3))
       have e':=bG hh e
       rw[ec'] at e'
       cases e'
       exact e
 . obtain⟨v,q⟩:=I.cell x c (bG hh e)
   exact⟨v,cellK q⟩
 . exact I.hok.fresh (Nat.le_succ _)
 . exact I.freeC x c (bG hh e)
 . show(fM k caps σ).length=N'.length
   unfold fM
   rw[lA,List.length_replicate,lM,CS.len]
theorem oO{tg iter elt:Expr}{ifs:List Expr}{pos:Pos}{g:TG}{tt:TT}{te:(Value->St->Hp->Prop)->TE}{WX:Value->St->Hp->Prop}{it:Addr}{tn:Nat->Heap->Prop}{J:It}{RR:Value->Addr->Result->Shared->Prop}{E:Value->Shared->Prop}{Q:VK}
 (CS:bU X scope k caps N') (hc:X.calm=true) (I:Inv X pins σ H s) (T:pW X.prog X.w X.K tg J fp it tn) (st:tn 0 s.heap) (f:∀b∈fp,fU X pins H b)
 (hch:∀C s₀ H₀ ex,PG (bD X scope N' C s₀ H₀ ex) tg g/\PTs (bD X scope N' C s₀ H₀ ex) ifs tt/\∀pl E W,PassesOwn (model X.prog X.w) X.A (bD X scope N' C s₀ H₀ ex).env E->Rs ((bD X scope N' C s₀ H₀ ex).inTry pl E) W->PE ((bD X scope N' C s₀ H₀ ex).inTry pl E) elt (te W))
 (hWX:∀c σ H,WX c σ H->X.stack=X.env::X.outer/\RX X c σ H)
 (hw:∃W:Nat->Nat->List V->St->Hp->Prop,(∃m,W 0 m [] (fM k caps σ) H)/\∀i m ys σ1 H,W i m ys σ1 H ->
  (J.stop i H/\ys.length<=sizeLine/\∀p,H p=none->Q (.ref p) (upd H p (.lst ys))) \/
  (J.go i H/\ys.length<sizeLine/\∀x H',J.yld i H x H'->g x σ1 H' λσ2 H2=>tt σ2 H2 λb H3=>
   if b=true then te (λc _ H=>WX c σ H) σ2 H3 λy H4=>∃m',m'<m/\W (i+1) m' (ys++[y]) σ2 H4 else ∃m',m'<m/\W (i+1) m' ys σ2 H3))
 (hE:∀D C s' H' m a cls T,Inv X pins σ H' s'->s'.heap.Ns C m->s.heap.objs.size<C->(∀(σ':St) (s'':Shared) (h':Heap),Inv X pins σ' H' s''->Heap.SameBut C s''.heap h'->Inv X pins σ' H' { s'' with heap:=h' })->Rec s'.heap a cls (some T) ->
  (∀b,(b=a\/some T=some b)->¬ (Old X.s₀.heap b/\b∉X.ex)/\H' b=none/\b∉pinA X pins)->RX X cls σ H'->RR (.ref D) C (.error (.ref a)) s')
 (hR:∀D C s' H' m,Inv X pins σ H' s'->s'.heap.Ns C m->s.heap.objs.size<C->(∀(σ':St) (s'':Shared) (h':Heap),Inv X pins σ' H' s''->Heap.SameBut C s''.heap h'->Inv X pins σ' H' { s'' with heap:=h' })->Q (.ref D) H'->RR (.ref D) C (.ok .next) s') :
 wpAny (model X.prog X.w) X.A (newList []) (λacc s₃=>wpAny (model X.prog X.w) X.A (newFunctionEnv scope X.env.globals (dY X.env.cells scope.names []) [] X.env.qual none .none (some X.env)) (λcenv s₄=>
  codeAny (model X.prog X.w) X.A (.compStart (.ListComp elt [⟨tg,iter,ifs,0⟩] scope pos) 0 (.ref it) acc { cenv with scope:=relabel scope X.env }) (RR acc cenv.locals) s₄) E s₃) E s:=by
 obtain⟨W,⟨m0,w0⟩,turn⟩:=hw
 have hf:∀b∈fp,b<s.heap.objs.size:=λb hb=>by
  obtain⟨o,e,_⟩:=T.obj 0 _ st b hb
  exact Heap.lt_size e
 refine wpAny_newObj_type (wpAny_newFunctionEnv CS.nocell (by intro y hy;simp at hy) (λh₁ hns₁ hsb₁=>?_) CS.kind)
 have hsz:(s.heap.push (bR [] 0)).objs.size=s.heap.objs.size+1:=Heap.size_push _ _
 have hns:h₁.Ns (s.heap.objs.size+1) λ_=>none:=by
  have:=hns₁
  rw[show({ s with heap:=s.heap.push (bR [] 0) }:Shared).heap.objs.size=s.heap.objs.size+1 from hsz] at this
  exact this
 have hk:∀b o,(s.heap.push (bR [] 0)).get? b=some o->h₁.get? b=some o:=λb o e=>
  hsb₁.extBut b o (Nat.ne_of_lt (by have:=Heap.lt_size e;rw[hsz] at this;show b<(s.heap.push (bR [] 0)).objs.size;rw[hsz];exact this)) (Heap.get?_push_of_some _ e)
 have I0:=aFP (N':=N') CS I f hf (tk:=s.toks+([]:List (Str×Value)).length) hns hk
 have noC:∀{b:Addr},b<s.heap.objs.size->b≠s.heap.objs.size+1:=λ{b} hb=>Nat.ne_of_lt (Nat.lt_succ_of_lt hb)
 have hDn:H s.heap.objs.size=none:=I.fresh
 have hh:∀n,(n,NameKind.free)∈scope.names->∃c,X.env.cells.lookup n=some c:=λn hn=>I.ok.has n (CS.free n hn)
 have hD1:h₁.get? s.heap.objs.size=some (bR [] 0):=hk _ _ (Heap.get?_push_size _ rfl)
 have stFs:∀b∈frs X.stack,b<s.heap.objs.size:=λb hb=>by
  obtain⟨_,o,ho,_⟩:=I.stack.mem hb
  exact Heap.lt_size ho
 have fpc:∀(pl:List (Addr×Obj)),(∀p∈pl,p.1=s.heap.objs.size)->∀{H':Hp},(∀b∈fp,H' b=none)->∀b∈fp,fU (bD X scope N' (s.heap.objs.size+1) { s with heap:=s.heap.push (bR [] 0) } H (s.heap.objs.size::fp)) pl H' b:=by
  intro pl hpl H' hn b hb
  refine⟨hn b hb,noC (hf b hb),λz=>?_,.inl (List.mem_cons_of_mem _ hb),λx c e=>(f b hb).2.2.2.2.1 x c (bG hh e),λp hp z=>?_⟩
  . rcases List.mem_cons.mp (I.stkSub b z) with q|q
    . exact(f b hb).2.1 q
    . exact(f b hb).2.2.1 q
  . have hp':p∈pl:=by simpa[bD] using hp
    rw[hpl p hp'] at z
    exact absurd (hf b hb) (by rw[<-z];exact Nat.lt_irrefl _)
 have pinD:∀{σ':St} {H':Hp} {s':Shared} {its:List Value} {n:Nat} {pl:List (Addr×Obj)},Inv (bD X scope N' (s.heap.objs.size+1) { s with heap:=s.heap.push (bR [] 0) } H (s.heap.objs.size::fp)) pl σ' H' s' ->
  s'.heap.get? s.heap.objs.size=some (bR its n)->H' s.heap.objs.size=none->Inv (bD X scope N' (s.heap.objs.size+1) { s with heap:=s.heap.push (bR [] 0) } H (s.heap.objs.size::fp)) [(s.heap.objs.size,bR its n)] σ' H' s':=by
  intro σ' H' s' its n pl J e nn
  refine J.pins_of λp hp=>?_
  have:p=(s.heap.objs.size,bR its n):=by simpa using hp
  subst this
  refine⟨e,nn,Nat.ne_of_lt (Nat.lt_succ_self _),λz=>absurd (stFs _ z) (Nat.lt_irrefl _),λv z=>by cases z⟩
 have nb:∀{b:Addr} {o:Obj},s.heap.get? b=some o->b∉fp->b∉s.heap.objs.size::fp:=λ{b o} e hb z=>by
  rcases List.mem_cons.mp z with z|z
  . exact absurd (Heap.lt_size e) (by rw[z];exact Nat.lt_irrefl _)
  . exact hb z
 have allC:∀{H':Hp},H' (s.heap.objs.size+1)=none->∀(σ':St) (s'':Shared) (h':Heap),Inv X pins σ' H' s''->Heap.SameBut (s.heap.objs.size+1) s''.heap h'->Inv X pins σ' H' { s'' with heap:=h' }:=λ{H'} hn σ' s'' h' I6 hs'=>by
  have:=I6.turned (t':=s''.toks) (h':=h') (it:=s.heap.objs.size+1) (λb o hb e=>hs'.extBut b o hb e) hn
   (Nat.ne_of_gt (Nat.lt_succ_of_lt I.lt)) (.inr (Nat.le_succ_of_le I.sz)) (λx c e=>Nat.ne_of_lt (Nat.lt_succ_of_lt (I.cellLt e))) λp hp z=>?_
  . exact this
  . have:=Heap.lt_size (I.pin p hp).1
    rw[z] at this
    exact absurd this (Nat.not_lt.mpr (Nat.le_succ _))
 have outE:∀{pl:List (Addr×Obj)} {E:Value->Shared->Prop},(∀b∈s.heap.objs.size::fp,b∈pl.map (·.1)) ->
  Rs ((bD X scope N' (s.heap.objs.size+1) { s with heap:=s.heap.push (bR [] 0) } H (s.heap.objs.size::fp)).inTry pl λx s'=>wpAny (model X.prog X.w) X.A (noteFrame x (compEnvC scope (dY X.env.cells scope.names []) (s.heap.objs.size+1) X.env)) (λ_ s''=>RR (.ref s.heap.objs.size) (s.heap.objs.size+1) (.error x) s'') E s') λc _ H=>WX c σ H:=by
  intro pl E hpl pins' σ' H' s' a cls I' fl hW
  obtain⟨hst,hW⟩:=hWX _ _ _ hW
  have I0':=I'.outTry
  obtain⟨T,rc,nw⟩:=fl
  have nw0:∀b,(b=a\/T=some b)->¬ (Old (s.heap.push (bR [] 0)) b/\b∉s.heap.objs.size::fp)/\H' b=none/\b∉pl.map (·.1):=λb z=>⟨(nw b z).1,(nw b z).2.1,λy=>(nw b z).2.2 (by
   obtain⟨p,hp,e⟩:=List.mem_map.mp y
   exact List.mem_map.mpr ⟨p,List.mem_append_left _ (List.mem_append_right _ hp),e⟩)⟩
  have hfr:X.env.frame=some X.env.locals:=by
   rcases I.ok.stk with z|⟨_,z⟩
   . rw[hst] at z;exact absurd (congrArg List.length z) (by simp)
   . exact z
  show wpAny (model X.prog X.w) X.A (noteFrame (.ref a) (compEnvC scope (dY X.env.cells scope.names []) (s.heap.objs.size+1) X.env)) _ _ s'
  rw[iT (env:=X.env) (env':=compEnvC scope (dY X.env.cells scope.names []) (s.heap.objs.size+1) X.env) rfl]
  refine aAN (base:=X.base) (outer:=X.outer) (by rw[<-hst];exact I0'.ok.frames) (by rw[<-hst];exact I0'.stack) hfr rc λh1 T1 l1 x1 r1=>?_
  have I1:=I0'.note x1 (λb hb=>by rw[<-hst] at hb;exact hb) (λb hb=>.inl (by rw[<-hst];exact hb)) rc (λb z=>⟨(nw0 b z).1,(nw0 b z).2.1,by
   show b∉(([]:List (Addr×Obj))++pl).map (·.1)
   rw[List.nil_append]
   exact(nw0 b z).2.2⟩)
  have u4:=I1.base
  have u:Un (frs X.stack) fp H H' s.heap h1:={
   keep:=λb o e nn hb hx=>u4.keep b o (Heap.get?_push_of_some _ e) nn hb (nb e hx)
   slot:=λb o e nn hb hx=>u4.slot b o (Heap.get?_push_of_some _ e) nn hb (nb e hx)
   free:=λb o e nn hx=>u4.free b o (Heap.get?_push_of_some _ e) nn (nb e hx)
   there:=λb o e hx=>u4.there b o (Heap.get?_push_of_some _ e) (nb e hx)
   tups:=u4.tups
   frzs:=u4.frzs
   tbls:=u4.tbls }
  have I5:Inv X pins σ H' { s' with heap:=h1 }:=I.call' I1.os u I1.hok I1.bare λb hb=>⟨(f b hb).2.2.2.1,(f b hb).2.1,(f b hb).2.2.2.2.1,(f b hb).2.2.2.2.2⟩
  obtain⟨m4,hn4,_⟩:=I1.loc
  have new:∀b,(b=a\/T=some b)->¬ Old s.heap b:=λb z ⟨o,q⟩=>(nw0 b z).1 ⟨⟨o,Heap.get?_push_of_some _ q⟩,λy=>(nw0 b z).2.2 (hpl b y)⟩
  refine hE s.heap.objs.size (s.heap.objs.size+1) { s' with heap:=h1 } H' m4 a cls T1 I5 hn4 (Nat.lt_succ_self _) (allC I1.free) r1 (λb z=>?_) hW
  have nold:¬ Old s.heap b/\H' b=none:=by
   rcases z with z|z
   . exact⟨new b (.inl z),(nw0 b (.inl z)).2.1⟩
   . cases z
     rcases l1 with l1|l1
     . exact⟨λq=>absurd (Nat.lt_of_lt_of_le q.lt (Nat.le_trans (Nat.le_of_lt (Nat.lt_of_lt_of_le (show s.heap.objs.size<(s.heap.push (bR [] 0)).objs.size by rw[hsz];exact Nat.lt_succ_self _) I0'.sz)) l1)) (Nat.lt_irrefl _),I0'.hok.fresh l1⟩
     . exact⟨new _ (.inr l1),(nw0 _ (.inr l1)).2.1⟩
  exact⟨λy=>nold.1 (qN I b y.1 y.2),nold.2,λy=>nold.1 (iY I b y)⟩
 have start:codeAny (model X.prog X.w) X.A (.compLoop (.ListComp elt [⟨tg,iter,ifs,0⟩] scope pos) 0 (.ref it) (.ref s.heap.objs.size) (compEnvC scope (dY X.env.cells scope.names []) (s.heap.objs.size+1) X.env))
  (RR (.ref s.heap.objs.size) (s.heap.objs.size+1)) { s with heap:=h₁,toks:=s.toks+([]:List (Str×Value)).length }:=by
  refine eM (λn s'=>∃i ys its cnt σ1 H',Inv (bD X scope N' (s.heap.objs.size+1) { s with heap:=s.heap.push (bR [] 0) } H (s.heap.objs.size::fp)) [(s.heap.objs.size,bR its cnt)] σ1 H' s' /\
   tn i s'.heap/\(∀b∈fp,H' b=none)/\aJ ys its/\W i n ys σ1 H') ?_ m0 ⟨0,[],[],0,_,H,pinD I0 hD1 hDn,T.keep _ _ _ st λb _ o e=>hk b o (Heap.get?_push_of_some _ e),λb hb=>(f b hb).1,.nil,w0⟩
  rintro n s3 ⟨i,ys,its,cnt,σ1,H3,I3,st3,fr3,rv3,w3⟩
  obtain⟨hD3,nD3,_⟩:=I3.pin (s.heap.objs.size,bR its cnt) (by simp[bD])
  have pl1:∀p∈[(s.heap.objs.size,bR its cnt)],p.1=s.heap.objs.size:=λp hp=>by
   have:p=(s.heap.objs.size,bR its cnt):=by simpa using hp
   rw[this]
  rcases turn i n ys σ1 H3 w3 with⟨stop,hz,qn⟩|⟨go,hz,step⟩
  . refine thn (T.done (bD X scope N' (s.heap.objs.size+1) { s with heap:=s.heap.push (bR [] 0) } H (s.heap.objs.size::fp)) rfl rfl rfl hc i _ s3 _ H3 _ I3 (fpc _ pl1 fr3) st3 stop) λr s4 ⟨hr,I4⟩=>?_
    subst hr
    obtain⟨hD4,nD4,_⟩:=I4.pin (s.heap.objs.size,bR its cnt) (by simp[bD])
    have u4:=I4.base
    have neD:∀{b:Addr} {o:Obj},s.heap.get? b=some o->b≠s.heap.objs.size:=λ{b o} e=>Nat.ne_of_lt (Heap.lt_size e)
    have trD:∀{b:Addr} {o:HO},H b=some o->b≠s.heap.objs.size:=λ{b o} e=>aO e hDn
    have u:Un (frs X.stack) fp H (upd H3 s.heap.objs.size (.lst ys)) s.heap s4.heap:={
     keep:=λb o e nn hb hx=>u4.keep b o (Heap.get?_push_of_some _ e) nn hb (nb e hx)
     slot:=λb o e nn hb hx=>u4.slot b o (Heap.get?_push_of_some _ e) nn hb (nb e hx)
     free:=λb o e nn hx=>by rw[aE (neD e)];exact u4.free b o (Heap.get?_push_of_some _ e) nn (nb e hx)
     there:=λb o e hx=>u4.there b o (Heap.get?_push_of_some _ e) (nb e hx)
     tups:=λb xs e=>by rw[aE (trD e)];exact u4.tups b xs e
     frzs:=λb o u e=>by rw[aE (trD e)];exact u4.frzs b o u e
     tbls:=λb ps e=>by rw[aE (trD e)];exact u4.tbls b ps e }
    have hl:=rv3.length
    have hok:HOk X.prog X.w (upd H3 s.heap.objs.size (.lst ys)) s4.heap:=HOk.track I4.hok nD4 ⟨hz,its,cnt,rv3,hD4⟩
    have I5:Inv X pins σ (upd H3 s.heap.objs.size (.lst ys)) s4:=I.call' I4.os u hok I4.bare λb hb=>⟨(f b hb).2.2.2.1,(f b hb).2.1,(f b hb).2.2.2.2.1,(f b hb).2.2.2.2.2⟩
    obtain⟨m4,hn4,_⟩:=I4.loc
    exact hR s.heap.objs.size (s.heap.objs.size+1) s4 _ m4 I5 hn4 (Nat.lt_succ_self _) (allC (by rw[aE (Nat.ne_of_gt (Nat.lt_succ_self _))];exact I4.free)) (qn _ nD4)
  . refine thn (T.item (bD X scope N' (s.heap.objs.size+1) { s with heap:=s.heap.push (bR [] 0) } H (s.heap.objs.size::fp)) rfl rfl rfl hc i _ s3 _ H3 _ I3 (fpc _ pl1 fr3) st3 go) λr s4 ⟨u,hr,h4⟩=>?_
    subst hr
    refine thn h4 λ_ s5 ⟨x,H5,I5,r5,y5,st5,fr5⟩=>?_
    obtain⟨hg,ht,he⟩:=hch (s.heap.objs.size+1) { s with heap:=s.heap.push (bR [] 0) } H (s.heap.objs.size::fp)
    have I5':=I5.pinned (fpc _ pl1 fr5) (T.obj _ _ st5)
    have keep:∀{σ7:St} {H7:Hp} {s7:Shared},Inv (bD X scope N' (s.heap.objs.size+1) { s with heap:=s.heap.push (bR [] 0) } H (s.heap.objs.size::fp)) ([(s.heap.objs.size,bR its cnt)]++gM fp s5.heap) σ7 H7 s7 ->
     tn (i+1) s7.heap/\(∀b∈fp,H7 b=none)/\s7.heap.get? s.heap.objs.size=some (bR its cnt)/\H7 s.heap.objs.size=none:=by
     intro σ7 H7 s7 I7
     obtain⟨hD7,nD7,_⟩:=I7.pin (s.heap.objs.size,bR its cnt) (by simp[bD])
     refine⟨T.keep _ _ _ st5 λb hb o e=>(I7.pin (b,o) (List.mem_append_right _ (List.mem_append_right _ (cX hb e)))).1,λb hb=>?_,hD7,nD7⟩
     obtain⟨o,e,d⟩:=T.obj _ _ st5 b hb
     exact(I7.pin (b,o) (List.mem_append_right _ (List.mem_append_right _ (cX hb e)))).2.1
    refine thn (hg _ s5 _ H5 x u _ I5' r5 (step x H5 y5)) λ_ s6 ⟨σ6,H6,I6,q6⟩=>?_
    refine thn (ht _ s6 σ6 H6 _ I6 q6) λb s7 ⟨H7,I7,q7⟩=>?_
    cases b with
    | false=>
     rw[if_neg bN] at q7 ⊢
     obtain⟨m',hm,w7⟩:=q7
     obtain⟨t7,f7,d7,n7⟩:=keep I7
     exact⟨m',hm,i+1,ys,its,cnt,σ6,H7,pinD I7 d7 n7,t7,f7,rv3,w7⟩
    | true=>
     rw[if_pos rfl] at q7 ⊢
     refine wpAny_mono (he ([(s.heap.objs.size,bR its cnt)]++gM fp s5.heap) _ _ PassesOwn.looking (outE λb hb=>?_) [] s7 σ6 H7 _ I7.inTry q7) (λyv s8 ⟨y,H8,I8,r8,q8⟩=>?_) λ_ _ z=>z
     . rcases List.mem_cons.mp hb with z|z
       . rw[z];simp
       . obtain⟨o,e,d⟩:=T.obj _ _ st5 b z
         exact List.mem_map.mpr ⟨(b,o),List.mem_append_right _ (cX z e),rfl⟩
     have I8:=I8.outTry
     obtain⟨m',hm,w8⟩:=q8
     obtain⟨t8,f8,d8,n8⟩:=keep I8
     have hl:=rv3.length
     have hzv:its.toArray.size<=sizeLine:=by rw[List.size_toArray];omega
     refine call_meets F.slot_list_append ⟨_,d8,rfl⟩ F.entry_list_append (F.args_list_append_2 _ _) (PySem.list_append s.heap.objs.size its.toArray cnt yv hzv) ⟨d8,?_⟩
     have q:=PySem.IsL.update d8 (λa=>a.push yv)
     have e':its.toArray.push yv=(its++[yv]).toArray:=by simp
     rw[e'] at q
     have I9:=(I8.unpinned (pins:=[(s.heap.objs.size,bR its cnt)])).pins_of (pins':=[]) (λp hp=>absurd hp (by simp))
     have I10:=I9.turned (t':=s8.toks) (it:=s.heap.objs.size) (h':=s8.heap.update s.heap.objs.size (Obj.mapSeq λa=>a.push yv)) (λb o hb e=>(Heap.get?_update_other s8.heap _ (Ne.symm hb)).trans e) n8
      (Nat.ne_of_lt (Nat.lt_succ_self _)) (.inl List.mem_cons_self) (λx c e=>Nat.ne_of_lt (I.cellLt (bG hh e))) (λp hp=>absurd (show p∈([]:List (Addr×Obj)) from by simpa[bD] using hp) (by simp))
     refine⟨m',hm,i+1,ys++[y],its++[yv],_,σ6,H8,pinD I10 q n8,?_,f8,rv3.append (.cons r8 .nil),w8⟩
     refine T.keep _ _ _ t8 λb hb o e=>(Heap.get?_update_other s8.heap _ ?_).trans e
     intro z
     exact absurd (hf b hb) (by rw[<-z];exact Nat.lt_irrefl _)
 have startC:∀C,C=s.heap.objs.size+1->codeAny (model X.prog X.w) X.A (.compLoop (.ListComp elt [⟨tg,iter,ifs,0⟩] scope pos) 0 (.ref it) (.ref s.heap.objs.size) (compEnvC scope (dY X.env.cells scope.names []) C X.env))
  (RR (.ref s.heap.objs.size) C) { s with heap:=h₁,toks:=s.toks+([]:List (Str×Value)).length }:=by
  rintro C rfl
  exact start
 exact codeAny_compStart_list (startC _ hsz) (T.self X.A 0 _ _ _ (T.keep _ _ _ st λb _ o e=>hk b o (Heap.get?_push_of_some _ e)) (startC _ hsz))
end
section
variable {X:Cx} {scope:Scope} {k:Nat} {caps:List Nat} {N':List Str} {tg iter elt:Expr} {ifs:List Expr} {pos:Pos} {wi:TI} {g:TG} {tt:TT} {te:(Value->St->Hp->Prop)->TE} {WX:Value->St->Hp->Prop}
theorem oP{pins:List (Addr×Obj)}{σ:St}{H':Hp}{s':Shared}{C a T:Addr}{cls:Value}{m:Str->Option Value}{Q:Value->Shared->Prop}{acc:Value}{use:Option (Value->Sem Unit)}(I:Inv X pins σ H' s')(hn:s'.heap.Ns C m)
 (hall:∀(σ':St) (s'':Shared) (h':Heap),Inv X pins σ' H' s''->Heap.SameBut C s''.heap h'->Inv X pins σ' H' { s'' with heap:=h' }) (r:Rec s'.heap a cls (some T)) (nw:∀b,(b=a\/some T=some b)->¬ (Old X.s₀.heap b/\b∉X.ex)/\H' b=none/\b∉pinA X pins) (hx:RX X cls σ H') :
 compPost (model X.prog X.w) X.A X.xe use Q acc C (.error (.ref a)) s':=by
 have key:∃m,s'.heap.Ns C m/\∀h',Heap.SameBut C s'.heap h'->∀cenv:Env,cenv.locals=C->wpAny (model X.prog X.w) X.A (PySem.passOn "comprehension.variables-let-go" (.ref a) cenv:Sem Value) (λ_ _=>False) X.xe { s' with heap:=h' }:=by
  refine⟨m,hn,λh' hs cenv _=>?_⟩
  have I1:=hall σ s' h' I hs
  have ne:∀b o,s'.heap.get? b=some o->(∃vs,o.data=.fields vs)->b≠C:=λb o q ⟨vs,d⟩ z=>by
   obtain⟨oC,es,ep,ho,hd,_⟩:=hn
   rw[z,ho] at q
   cases q
   rw[hd] at d
   cases d
  have r1:Rec h' a cls (some T):=by
   obtain⟨oe,vs,he,hc,hdi,hd,h1,hTe,oT,ts,hT,hdT,fl,h3⟩:=r
   exact⟨oe,vs,(hs.2 a (ne a oe he ⟨vs,hd⟩)).trans he,hc,hdi,hd,h1,hTe,oT,ts,(hs.2 T (ne T oT hT ⟨ts,hdT⟩)).trans hT,hdT,fl,h3⟩
  unfold PySem.passOn
  obtain⟨oe,vs,he,_,_,hd,h1,_⟩:=id r1
  refine wpAny_bind (wpAny_field (s:={ s' with heap:=h' }) he hd h1 ?_)
  rw[if_neg (show ¬ ((Value.ref T==Value.none)=true) from by simp)]
  refine wpAny_bind (aDt (s:={ s' with heap:=h' }) r1 λh2 x2 r2=>?_)
  refine wpAny_throw ?_
  exact hx pins _ a (Inv.note (s:={ s' with heap:=h' }) (fr:=[]) I1 x2 (λb hb=>by cases hb) (λb hb=>.inr rfl) r1 nw) ⟨some T,r2,nw⟩
 cases use with
 | none=>exact key
 | some u=>exact key
theorem sF(CS:bU X scope k caps N')(hc:X.calm=true)(hi:PI X tg iter wi)
 (hch:∀C s₀ H₀ ex,PG (bD X scope N' C s₀ H₀ ex) tg g/\PTs (bD X scope N' C s₀ H₀ ex) ifs tt/\∀pl E W,PassesOwn (model X.prog X.w) X.A (bD X scope N' C s₀ H₀ ex).env E->Rs ((bD X scope N' C s₀ H₀ ex).inTry pl E) W->PE ((bD X scope N' C s₀ H₀ ex).inTry pl E) elt (te W)) (hWX:∀c σ H,WX c σ H->X.stack=X.env::X.outer/\RX X c σ H) (hs:∀x,foldedSetIterable iter X.env x=pure x) :
 PE X (.ListComp elt [⟨tg,iter,ifs,0⟩] scope pos) (xQ WX k caps wi g tt te):=by
 intro pins s σ H Q I h
 rw[eval_ListComp]
 refine wpAny_comprehension_free (use:=none) rfl hs (eD λn hn=>I.ok.has n (CS.free n hn)) CS.kind CS.loc (thn (hi pins s σ H _ I h) λxv s1 h1=>thn h1 λitv s2 h2=>?_)
 obtain⟨it,fp,tn,J,H2,e,I2,T,st2,f2,hw⟩:=h2
 subst e
 exact oO (RR:=λacc C=>compPost (model X.prog X.w) X.A X.xe none (EP X pins σ Q) acc C) (Q:=Q) CS hc I2 T st2 f2 hch hWX hw (λD C s' H' m a cls T I hn _ hall r nw hx=>oP I hn hall r nw hx) λD C s' H' m J hn _ hall q=>⟨m,hn,λh' hs'=>⟨.ref D,H',hall σ s' h' J hs',rfl,q⟩⟩
theorem qS{i:Nat}{x:Str}{pos' spos:Pos}(CS:bU X scope k caps N')(hc:X.calm=true)(hi:PI X tg iter wi)
 (hch:∀C s₀ H₀ ex,PG (bD X scope N' C s₀ H₀ ex) tg g/\PTs (bD X scope N' C s₀ H₀ ex) ifs tt/\∀pl E W,PassesOwn (model X.prog X.w) X.A (bD X scope N' C s₀ H₀ ex).env E->Rs ((bD X scope N' C s₀ H₀ ex).inTry pl E) W->PE ((bD X scope N' C s₀ H₀ ex).inTry pl E) elt (te W)) (hWX:∀c σ H,WX c σ H->X.stack=X.env::X.outer/\RX X c σ H) (hs:∀x,foldedSetIterable iter X.env x=pure x)
 (hN:X.N.Nodup) (hx':X.N[i]? = some x) (hx:Loc X.env.scope x) (hf:X.fn x=true\/X.env.scope.names.lookup x=some .local) :
 PS X (.Assign [.Name x pos'] (.ListComp elt [⟨tg,iter,ifs,0⟩] scope pos) spos) (aCR (xQ WX k caps wi g tt te) (kR i)):=by
 have hb:∃b,swapsWith (.ListComp elt [⟨tg,iter,ifs,0⟩] scope pos) (some (.Name x pos')) spos.line X.env=pure b:=⟨_,rfl⟩
 obtain⟨b,hb⟩:=hb
 cases b with
 | false=>exact mH hN hx' hx (sF CS hc hi hch hWX hs) hb hf
 | true=>
  intro pins s σ H D I h
  rw[exec_Assign_Name_used x pos' _ spos hb]
  refine wpAny_bind (wpAny_standAt (wpAny_bind ?_))
  show wpAny _ _ (comprehension (.ListComp elt [⟨tg,iter,ifs,0⟩] scope pos) scope X.env (firstIterPos [⟨tg,iter,ifs,0⟩] pos) (newList []) (firstAsync [⟨tg,iter,ifs,0⟩]) (firstIter [⟨tg,iter,ifs,0⟩] X.env) (some (assign (.Name x pos') X.env)) >>= λ_=>pure ()) _ _ s
  refine wpAny_bind (wpAny_comprehension_free (use:=some (assign (.Name x pos') X.env)) rfl hs (eD λn hn=>I.ok.has n (CS.free n hn)) CS.kind CS.loc (thn (hi pins s σ H _ I h) λxv s1 h1=>thn h1 λitv s2 h2=>?_))
  obtain⟨it,fp,tn,J,H2,e,I2,T,st2,f2,hw⟩:=h2
  subst e
  refine oO (Q:=λv H'=>D.nx (σ.set i (some v)) H') (RR:=λacc C=>compPost (model X.prog X.w) X.A X.xe (some (assign (.Name x pos') X.env)) (λ_ s'=>wpAny (model X.prog X.w) X.A (pure ()) (λ_ s'=>wpAny (model X.prog X.w) X.A (pure Flow.next) (SP X pins D) X.xe s') X.xe s') acc C) CS hc I2 T st2 f2 hch hWX hw (λD C s' H' m a cls T I hn _ hall r nw hx=>oP I hn hall r nw hx) λD' C s' H' m J hn lt hall q=>?_
  show wpAny _ _ (assign (.Name x pos') X.env (.ref D')) _ _ s'
  refine wpAny_assign_Name (kQ (v:=V.ref D') J hN hx' hx rfl (λs'' J' hsb=>?_) hf)
  obtain⟨a,sb,ha⟩:=hsb
  refine⟨m,hn.sameBut sb ?_,λh' hs'=>?_⟩
  . rcases ha with z|z
    . rw[z];exact Nat.ne_of_gt (Nat.lt_trans I2.lt lt)
    . exact Nat.ne_of_gt (Nat.lt_trans (I2.cellLt z) lt)
  . exact wpAny_pure (wpAny_pure ⟨_,H',hall _ s'' h' J' hs',q⟩)
end
end L2
end
noncomputable section
set_option maxRecDepth 100000
namespace L2
open PySem PySem.Spec PyProof.Rows PySem.W
section
variable {prog:Program} {w:World} {A:Around} {E:Value->Shared->Prop} {K:PySem.W.Frag} {h:Heap} {g:Array GenState} {d:Drawn} {t:Nat} {os:OsState} {a C:Addr} {o:Obj}
theorem xS{tk:Tok}{Q:PySem.Fin->Shared->Prop}(X:K.In h)(I:InstAt h a o C none)(g3:findIn K (.ref C) "__class__" = some (some (.builtin "object.__class__")))(hm:mroIn K C (.type "object")=some true)(hq:Q (.done (.ret (.ref C))) ⟨h,g,d,t,os⟩) :
 wpAny (model prog w) A (Builtin.«object.__getattribute__» ⟨[.ref a,.str "__class__" tk],[]⟩) Q E ⟨h,g,d,t,os⟩:=by
 have hx:=I.at_
 have hc:=I.cls
 have hT5:(⟨h,g,d,t,os⟩:Shared).TypeIs (.builtin "object.__class__") "getset_descriptor" := F.typeOf_object_class
 have f5:=F.typeOf_object_class
 have f6:=F.slot_gs_get.lookup
 have f7:=F.slot_gs_set.lookup
 repeat (any_goals (first|assumption|(with_reducible refine wpAny_loadPart_at hx ?_;rw[hc])|with_reducible refine(looks_findIn X g3).at ?_|wp_step))
 refine class_get (s:=⟨h,g,d,t,os⟩) X I hm ?_
 repeat (any_goals (first|assumption|wp_step))
theorem xT{M:Model}{nameV:Value}{Q:Unit->Shared->Prop}(X:K.In h)(I:InstAt h a o C none)(hb:subIn K (.ref C) (.type "BaseException")=some true)(hq:Q () ⟨h,g,d,t,os⟩) :
 wpAny M A (checkBuiltinCall "BaseException.__getattribute__" ⟨[.ref a,nameV],[]⟩) Q E ⟨h,g,d,t,os⟩:=by
 have hk:builtinKind "BaseException.__getattribute__" = some .slot:=by decide +kernel
 have hsplit:splitId "BaseException.__getattribute__" = some ("BaseException", "__getattribute__"):=by decide +kernel
 have ha:=F.args_bexc_ga (.ref a) nameV
 have LI:Looks M h (isInstance (.ref a) (.type "BaseException")) true:=(I.type (M:=M)).andThen (looks_subIn X hb)
 simp only[checkBuiltinCall,hk,hsplit]
 refine wpAny_bind (LI.at ?_)
 repeat (first|wp_step)
 exact hq
theorem aAZ{tk:Tok}{R:Result->Shared->Prop}(X:K.In h)(I:InstAt h a o C none)(hb:subIn K (.ref C) (.type "BaseException")=some true)(g3:findIn K (.ref C) "__class__" = some (some (.builtin "object.__class__")))(hm:mroIn K C (.type "object")=some true)(hq:R (.ok (.ret (.ref C))) ⟨h,g,d,t,os⟩) :
 codeAny (model prog w) A (.call (.builtin "BaseException.__getattribute__") ⟨[.ref a,.str "__class__" tk],[]⟩) R ⟨h,g,d,t,os⟩:=
 codeAny_call_builtin F.attrBase_ValueError.ga.plain F.entry_bexc_ga (xT X I hb (xS X I g3 hm hq))
theorem aFQ{tk:Tok}{fill expr:Bool}{Q:Value->Shared->Prop}(X:K.In h)(I:InstAt h a o C none)(hb:subIn K (.ref C) (.type "BaseException")=some true)(g1:findIn K (.ref C) "__getattribute__" = some (some (.builtin "BaseException.__getattribute__")))(g2:findIn K (.ref C) "__getattr__" = some none)
 (g3:findIn K (.ref C) "__class__" = some (some (.builtin "object.__class__"))) (hm:mroIn K C (.type "object")=some true) (hq:Q (.ref C) ⟨h,g,d,t,os⟩) :
 wpAny (model prog w) A (getAttrBy (.ref a) (.str "__class__" tk) fill expr) Q E ⟨h,g,d,t,os⟩:=by
 have hx:=I.at_
 have hc:=I.cls
 have f3:=F.attrBase_ValueError.ga.bind (.ref a)
 have hx0:(expr&&onTheHeap (Value.builtin "BaseException.__getattribute__"))=false:=by cases expr <;> rfl
 have hx2:(Value.builtin "BaseException.__getattribute__" == Value.builtin "object.__getattribute__")=false:=by decide +kernel
 have hx1:(onTheHeap (Value.ref C)&&Value.builtin "BaseException.__getattribute__" == Value.builtin "object.__getattribute__")=false:=by rw[hx2];rfl
 repeat (any_goals (first|assumption|(with_reducible refine wpAny_loadPart_at hx ?_;rw[hc])|with_reducible refine(looks_findIn X g1).at ?_|with_reducible refine(looks_findIn X g2).at ?_|wp_step))
 refine aAZ X I hb g3 hm ?_
 repeat (any_goals (first|assumption|wp_step))
theorem aBa{Q:Option Value->Shared->Prop}(X:K.In h)(I:InstAt h a o C none)(hb:subIn K (.ref C) (.type "BaseException")=some true)(g1:findIn K (.ref C) "__getattribute__" = some (some (.builtin "BaseException.__getattribute__")))(g2:findIn K (.ref C) "__getattr__" = some none)
 (g3:findIn K (.ref C) "__class__" = some (some (.builtin "object.__class__"))) (hm:mroIn K C (.type "object")=some true) (hq:Q (some (.ref C)) ⟨h,g,d,t+1,os⟩):wpAny (model prog w) A (getAttr? (.ref a) "__class__") Q E ⟨h,g,d,t,os⟩:=by
 unfold getAttr? getAttrBy?
 repeat (any_goals (first|assumption|with_reducible apply aFQ X I hb g1 g2 g3 hm|wp_step))
end
structure XC (K:PySem.W.Frag) (C:Addr):Prop where
 isc:(clsIn K C).isSome=true
 hb:subIn K (.ref C) (.type "BaseException")=some true
 g1:findIn K (.ref C) "__getattribute__" = some (some (.builtin "BaseException.__getattribute__"))
 g2:findIn K (.ref C) "__getattr__" = some none
 g3:findIn K (.ref C) "__class__" = some (some (.builtin "object.__class__"))
 hm:mroIn K C (.type "object")=some true
theorem oQ{K:PySem.W.Frag}{a C:Addr}(c:XC K C):KitX K (.ref a) (.ref C) (λh=>∃o,InstAt h a o C none) where
 ty:=λ_ _ _ ⟨_,I⟩=>I.type
 it:=λ_ _ X _=>by
  obtain⟨cdD,hcD⟩:=Option.isSome_iff_exists.mp c.isc
  unfold clsIn at hcD
  split at hcD
  . rename_i c' d' cd' sl' ho
    intro A' Q' E' s' k q
    unfold isType loadHead
    exact wpAny_bind (wpAny_loadPart (k _ _ (X _ _ ho)) (wpAny_pure q))
  . cases hcD
 ne:=λh tp dd its n sl X htp=>by
  obtain⟨cdD,hcD⟩:=Option.isSome_iff_exists.mp c.isc
  refine Bool.eq_false_iff.mpr λq=>?_
  have e:C=tp:=Value.ref.inj (beq_iff_eq.mp q)
  subst e
  unfold clsIn at hcD
  split at hcD
  . rename_i c' d' cd' sl' ho
    have z:=(X _ _ ho).symm.trans htp
    cases z
  . cases hcD
 ca:=λ{prog w A E Q s} X ⟨o,I⟩ k=>by
  obtain⟨h,g,d,t,os⟩:=s
  exact aBa X I c.hb c.g1 c.g2 c.g3 c.hm k
end L2
end
noncomputable section
namespace Hp
open PySem PySem.Spec PyProof.Rows L2
def Rr(K:Fg)(H H':Hp)(Y:Addr->Prop)(r:Rt)(u:V):Prop:=
 if r.2.1=true then ∃a xs ds,u=.ref a/\r.1=.lst ds/\H a=none/\H' a=some (.lst xs)/\Reps K H' (λb=>b=a\/Y b\/(r.2.2=false/\H b≠none)) ds xs
 else Rep K H' (λb=>Y b\/(r.2.2=false/\H b≠none)) r.1 u
def xE(K:Fg)(H:Hp)(E:XK):D->Prop
 | .err c _=>∀(cls:Value) (H':Hp),PySem.W.nsIn K mainGlobals c=some (some cls)->Tk K H'->aG H H'->E cls none H'
 | _=>False
def spF(K:Fg)(P:Pg)(n:Nat)(f:Nat):Sp:=λvs H Q E=>∃(ds:List D) (Y:Addr->Prop),(∀a,Y a->H a≠none)/\Reps K H Y ds vs/\RE (xE K H E) (call P n f ds) λr=>∀u H',Tk K H'->aG H H'->Rr K H H' Y r u->Q u H'
def bltNames:List Str:=["len", "list", "tuple", "min", "max", "abs", "int", "str", "sum", "all", "any", "sorted", "bool", "range", "zip", "enumerate", "reversed", "set", "isinstance", "dict", "repr", "ValueError"]
structure lH (K:Fg) (mg:Str->Option Value) (cls:List Str) (c:Str) (ab:List Cl) (C:Addr):Prop where
 bd:mg c=some (.ref C)
 ns:PySem.W.nsIn K mainGlobals c=some (some (.ref C))
 ex:PySem.W.excIn K C bmV "ValueError.__new__" = true
 xc:XC K C
 ve:PySem.W.kitOne K (.ref C) (.type "ValueError")=some (ab.contains .tValueError)
 ow:∀x∈cls,∃C2,mg x=some (.ref C2)/\PySem.W.kitOne K (.ref C) (.ref C2)=some (ab.contains (.own x))/\(ab.contains (.own x)=true->lG K C C2=true/\PySem.W.excIn K C2 bmV "ValueError.__new__" = true)
structure Md (X:Cx) (P:Pg) (Γ:Ct) (n:Nat):Prop where
 fn:∀(f:Nat) (x:Str),Γ.fns[f]? = some x->∃fa fd ps,X.mg x=some (.ref fa)/\PySem.W.keepIn X.K (.ref fa)=true/\iK X.K fd ps []/\mI X.prog X.w X.K X.mg X.base (CX1 X.prog X.w) n fa fd ps (spF X.K P n f)
 blt:∀x∈bltNames,X.mg x=none
 cns:∀(x:Str) (d:D),Γ.cns.lookup x=some d->∃u v,X.mg x=some u/\aR v u/\∀H ex,Rep X.K H ex d v
 tab:∀(i:Nat) (x:Str),Γ.tbs[i]? = some x->∃a t,X.mg x=some (.ref a)/\P.tabs[i]? = some t/\lF X.prog X.w X.K a t
 exc:∀(c:Str) (ab:List Cl),P.above.lookup c=some ab->∃C,lH X.K X.mg Γ.cls c ab C
 rsd:∀c∈Γ.rsd,∃ab,P.above.lookup c=some ab
 cls:∀x∈Γ.cls,∃C2,X.mg x=some (.ref C2)
structure Mc (X:Cx) (P:Pg) (Γ:Ct) (n:Nat):Prop where
 md:Md X P Γ n
 N:X.N=Γ.N
 nd:X.N.Nodup
 sc:X.env.scope.names=Γ.sc
 calm:X.calm=true
 room:iR n X.A
 own:PassesOwn (model X.prog X.w) X.A X.env X.xe
 st:∀x:Str,oE Γ x=true->X.fn x=true\/X.env.scope.names.lookup x=some .local
 fk:X.env.scope.kind=.function
 stk:Γ.fn=true->X.stack=X.env::X.outer
section
variable {X:Cx} {P:Pg} {Γ:Ct} {n:Nat}
theorem Mc.inTry(M:Mc X P Γ n){pins:List (Addr×Obj)}{E:Value->Shared->Prop}(h:PassesOwn (model X.prog X.w) X.A X.env E):Mc (X.inTry pins E) P Γ n:=
 ⟨⟨M.md.fn,M.md.blt,M.md.cns,M.md.tab,M.md.exc,M.md.rsd,M.md.cls⟩,M.N,M.nd,M.sc,M.calm,M.room,h,M.st,M.fk,M.stk⟩
theorem Mc.units(M:Mc X P Γ n):X.A.units+200<cLine:=by have:=M.room.un;omega
theorem Mc.vis(M:Mc X P Γ n){x:Str}(h:wZ Γ x=true):Vis X.env.scope x:=by
 unfold wZ at h
 unfold Vis
 rw[M.sc]
 cases q:Γ.sc.lookup x with
 | none=>rw[q] at h;cases h
 | some k=>rw[q] at h;cases k <;> first|exact .inl rfl|exact .inr (.inl rfl)|exact .inr (.inr rfl)|cases h
theorem Mc.loc(M:Mc X P Γ n){x:Str}(h:oE Γ x=true):L2.Loc X.env.scope x:=by
 unfold oE at h
 unfold L2.Loc
 rw[M.sc]
 cases q:Γ.sc.lookup x with
 | none=>rw[q] at h;cases h
 | some k=>rw[q] at h;cases k <;> first|exact .inl rfl|exact .inr rfl|cases h
theorem Mc.gl(M:Mc X P Γ n){x:Str}(h:bZ Γ x=true):Gl X x:=by
 unfold bZ at h
 unfold Gl
 show X.env.scope.names.lookup x=_
 rw[M.sc]
 cases q:Γ.sc.lookup x with
 | none=>rw[q] at h;cases h
 | some k=>rw[q] at h;cases k <;> first|rfl|cases h
theorem aH{x:Str}(h:aY x=true):(x==("__debug__" : Str))=false:=by
 unfold aY at h
 simp only[bA,Bool.not_eq_true'] at h
 exact h.1
theorem eX{x:Str}(h:aY x=true):(x==("__classdict__" : Str))=false:=by
 unfold aY at h
 simp only[bA,Bool.not_eq_true'] at h
 exact h.2
theorem aDv:∀{d d':D},eqK d d'=true->d=d':=by
 intro d d' h
 cases d <;> cases d' <;> simp[eqK] at h <;> first|rfl|(subst h;rfl)
def aN:Expr->Bool
 | .Starred _ _=>false
 | .Slice _ _ _ _=>false
 | .Set _ _ _=>false
 | _=>true
theorem xU{α:Type}{o:Option α}{f:α->Bool}(h:oB o f=true):∃a,o=some a/\f a=true:=by
 cases o with
 | none=>cases h
 | some a=>exact⟨a,rfl,h⟩
theorem aD{α:Type}{q:α->Prop}{o:Option { a:α // q a }}{f:α->Bool}(h:oS o f=true):∃a,q a/\f a=true:=by
 cases o with
 | none=>cases h
 | some a=>exact⟨a.1,a.2,h⟩
theorem dic_of{ks vs:Es}{e:Expr}(h:aK Γ (.dic ks vs) e=true):(ks=.nil/\vs=.nil/\∃p,e=.Dict [] [] p)\/∃a b,(ks=.cons a .nil/\vs=.cons b .nil)/\∃r:Expr×Expr,(∃p,e=.Dict [some r.1] [r.2] p)/\aK Γ a r.1=true/\aK Γ b r.2=true:=by
 rcases ks with _|⟨a,_|⟨_,_⟩⟩
 . rcases vs with _|⟨_,_⟩
   . obtain⟨_,⟨p,rfl⟩,_⟩:=aD h
     exact .inl ⟨rfl,rfl,p,rfl⟩
   . cases h
 . rcases vs with _|⟨b,_|⟨_,_⟩⟩
   . cases h
   . obtain⟨r,⟨p,rfl⟩,g⟩:=aD h
     obtain⟨h1,h2⟩:=(bA _ _).mp g
     exact .inr ⟨a,b,⟨rfl,rfl⟩,r,⟨p,rfl⟩,h1,h2⟩
   . cases h
 . cases h
theorem aI{c:E}{e:Expr}(h:aK Γ c e=true):aN e=true:=by
 cases c with
 | c d=>
  rcases(Bool.or_eq_true _ _).mp (show(oS (asC e) (eqC d)||oS (asN e) λx=>bZ Γ x&&aY x&&oB (Γ.cns.lookup x) (eqK d))=true from h) with h|h
  . obtain⟨_,⟨_,_,rfl⟩,_⟩:=aD h;rfl
  . obtain⟨_,⟨_,rfl⟩,_⟩:=aD h;rfl
 | v i=>obtain⟨_,⟨_,rfl⟩,_⟩:=aD h;rfl
 | op o a b=>obtain⟨_,⟨_,rfl⟩,_⟩:=aD h;rfl
 | neg a=>obtain⟨_,⟨_,rfl⟩,_⟩:=aD h;rfl
 | nt a=>obtain⟨_,⟨_,rfl⟩,_⟩:=aD h;rfl
 | an a b=>obtain⟨_,rfl,_⟩:=aD h;rfl
 | orr a b=>obtain⟨_,rfl,_⟩:=aD h;rfl
 | ife t a b=>obtain⟨_,⟨_,rfl⟩,_⟩:=aD h;rfl
 | cmp o a b=>obtain⟨_,⟨_,rfl⟩,_⟩:=aD h;rfl
 | dnin _ _=>cases h
 | dget _ _=>cases h
 | dlen _=>cases h
 | cmp2 o1 o2 a b c=>obtain⟨_,⟨_,rfl⟩,_⟩:=aD h;rfl
 | idx a b=>obtain⟨_,⟨_,rfl⟩,_⟩:=aD h;rfl
 | sli a lo hi=>obtain⟨_,⟨_,rfl⟩,_⟩:=aD h;rfl
 | tup es=>obtain⟨_,⟨_,_,rfl⟩,_⟩:=aD h;rfl
 | lst es=>obtain⟨_,⟨_,rfl⟩,_⟩:=aD h;rfl
 | call f es=>obtain⟨_,⟨_,_,rfl⟩,_⟩:=aD h;rfl
 | callP _ _ _=>cases h
 | bi b es=>obtain⟨_,⟨_,_,rfl⟩,_⟩:=aD h;rfl
 | mth _ _ _=>cases h
 | isi a cs=>obtain⟨_,⟨_,_,rfl⟩,_⟩:=aD h;rfl
 | comp k caps t it cond elt=>obtain⟨_,⟨_,rfl⟩,_⟩:=aD h;rfl
 | numset _=>cases h
 | tget i a=>obtain⟨_,⟨_,_,rfl,_⟩,_⟩:=aD h;rfl
 | lzip _ _=>cases h
 | dic ks vs=>rcases dic_of h with⟨_,_,_,rfl⟩|⟨_,_,_,_,⟨_,rfl⟩,_⟩ <;> rfl
 | isx _ _=>obtain⟨_,⟨_,_,rfl⟩,_⟩:=aD h;rfl
theorem aA{e:Expr}{es:List Expr}{env:Env}(h:aN e=true):starEach (e::es) env=(false,eval e env)::starEach es env:=by
 cases e <;> first|rfl|cases h
theorem eN:∀{cs:Es} {es:List Expr},chkEs Γ cs es=true->es.all aN=true
 | .nil,[],_=>rfl
 | .nil,_::_,h=>by cases h
 | .cons _ _,[],h=>by cases h
 | .cons c cs,e::es,h=>by
  simp only[chkEs,bA] at h
  rw[List.all_cons,aI h.1,eN h.2]
  rfl
theorem cZ{pos:Pos}{env:Env}:∀{es:List Expr},es.all aN=true->(backTo pos (starEach es env)).any (·.1)=false
 | [],_=>rfl
 | e::es,h=>by
  rw[List.all_cons,bA] at h
  rw[aA h.1]
  show(false||(backTo pos (starEach es env)).any (·.1))=false
  rw[cZ h.2]
  rfl
theorem qT{e:Expr}(h:aN e=true):rT e:=by
 intro o i
 cases e <;> first|rfl|cases h
theorem gU{e:Expr}{env:Env}(h:aN e=true):∀x,foldedSetIterable e env x=pure x:=by
 intro x
 cases e <;> first|rfl|cases h
theorem jR{op:CmpOp}{e:Expr}(h:aN e=true):behindInMarks op e=false:=by
 cases e <;> first|rfl|cases h
variable {RT Y old:Addr->Prop} {σ:Sg} {pos:Pos}
abbrev WE(X:Cx)(P:Pg)(n:Nat)(RT Y old:Addr->Prop)(σ:Sg)(c:E):TE:=wE X P (call P n) RT Y old σ c
abbrev WT(X:Cx)(P:Pg)(n:Nat)(RT Y old:Addr->Prop)(σ:Sg)(c:E):TT:=wT X P (call P n) RT Y old σ c
abbrev WA(X:Cx)(P:Pg)(n:Nat)(RT Y old:Addr->Prop)(σ:Sg)(c:Es):TA:=wA X P (call P n) RT Y old σ c
theorem RE.bind'{α β:Type}{x:R α}{f:α->R β}{p:β->Prop}{w:D->Prop}(h:RE w (x >>= f) p):RE w x λa=>RE w (f a) p:=by rwa [RE.bind] at h
theorem RE.calmEq{α:Type}{x:R α}{p:α->Prop}{w:D->Prop}(h:RE w x.calm p):∃a,x=.ok a/\p a:=by
 cases x with
 | ok a=>exact⟨a,rfl,h⟩
 | exc e=>exact h.elim
 | bad=>exact h.elim
theorem wE.one{a:E}{σV:L2.St}{H:Hp}{p:Vl->Prop}{Q:V->Hp->Prop}(S:Sx X.K RT Y old σ σV H)(h:RE (wx X σV H) (ev P (call P n) σ a) p)
 (f:∀x u H',p x->Tk X.K H'->Sx X.K RT Y old σ σV H'->Ro X.K RT Y old σ σV H H' x u->Q u H'):WE X P n RT Y old σ a σV H Q:=
 ⟨S,h.mono λx hx u H' t r=>f x u H' hx t (S.grow r.1 t) r⟩
theorem aIn{o:Operator}{a b:E}{ea eb:Expr}(ha:PE X ea (WE X P n RT Y old σ a))(hb:PE X eb (WE X P n RT Y old σ b)):PE X (.BinOp ea o eb pos) (WE X P n RT Y old σ (.op o a b)):=by
 intro pins s σV H Q I hw
 obtain⟨S,h⟩:=hw
 have h:=RE.bind' (show RE _ (ev P (call P n) σ a >>= λx=>ev P (call P n) σ b >>= λy=>opD o x y) _ from h)
 refine wpAny_BinOp (thn (ha pins s σV H (λux H1=>WE X P n RT Y old σ b σV H1 λuy H2=>∃x y,Sx X.K RT Y old σ σV H2/\aG H H2/\Rv X.K RT Y old σ σV H2 x ux/\Rv X.K RT Y old σ σV H2 y uy/\(x.fr=true->∃a xs,ux=.ref a/\H2 a=some (.lst xs))/\RE (λ_=>True) (opD o x y) (Wn X RT Y old σ σV H Q)) I
  (wE.one S h λx u H1 hx t1 S1 r1=>wE.one S1 ((RE.bind' hx).at r1.1) λy u' H2 hy t2 S2 r2=>⟨x,y,S2,r1.1.trans r2.1,(r1.rv S).grow r2.1,r2.rv S1,λhf=>?_,hy.weak λ_ _=>trivial⟩)) λv s1 ⟨x',H1,I1,rx,q1⟩=>thn (hb pins s1 σV H1 _ I1 q1) λu s2 ⟨y',H2,I2,ry,q2⟩=>?_)
 . have:=r1.2
   rw[if_pos hf] at this
   obtain⟨a',xs,ds,e1,_,_,e4,_⟩:=this
   exact⟨a',xs,e1,r2.1 _ _ e4⟩
 . obtain⟨x,y,S2,sm,hx,hy,hf,h⟩:=q2
   exact xG I2 S2 rx ry hx hy hf (h.mono λv hv u H' t r=>hv u H' t (r.from sm))
theorem aFR{a:E}{ea:Expr}(ha:PE X ea (WE X P n RT Y old σ a)):PE X (.UnaryOp .USub ea pos) (WE X P n RT Y old σ (.neg a)):=by
 refine(aFa aDa ha).imp λσV H Q t ⟨S,h⟩=>?_
 have h:=RE.bind' (show RE _ (ev P (call P n) σ a >>= λx=>(match x.d with|.int i=>R.ok (Vl.cl (.int (-i)))|_=>.bad)) _ from h)
 refine wE.one S h λx u H1 hx t1 S1 r1=>?_
 split at hx
 . rename_i i d1
   exact⟨i,(r1.rv S).int d1,λt'=>hx _ _ t' (Ro.cl r1.1 rfl)⟩
 . exact hx.elim
theorem xV{H:Hp}{σV:L2.St}{x:Vl}{u:V}{k:Bool}(hx:Rv X.K RT Y old σ σV H x u)(h:uE x.d=some k):aAz X.K u H k:=by
 unfold uE at h
 split at h
 . rename_i d;rw[hx.non d];exact(Option.some.inj h).symm
 . rename_i b d;rw[hx.bl d];exact(Option.some.inj h).symm
 . rename_i i d;rw[hx.int d];exact(Option.some.inj h).symm
 . rename_i z d
   by_cases hl:z.length<=lim
   . rw[if_pos hl] at h
     rw[hx.str d]
     refine⟨cN hl,?_⟩
     rw[<-Option.some.inj h]
     cases hz:z.length with
     | zero=>rfl
     | succ m=>simp;omega
   . rw[if_neg hl] at h;cases h
 . rename_i ds d
   obtain⟨a,xs,e,q,r⟩:=hx.tup d
   rw[e]
   refine .inr (.inl ⟨xs,q,?_⟩)
   rw[<-Option.some.inj h]
   have:=r.length
   cases ds <;> cases xs <;> first|rfl|(simp at this)
 . rename_i ds d
   obtain⟨a,xs,e,q,_,r⟩:=hx.lst d
   rw[e]
   refine .inl ⟨xs,q,?_⟩
   rw[<-Option.some.inj h]
   have:=r.length
   cases ds <;> cases xs <;> first|rfl|(simp at this)
 . cases h
theorem RE.tru{x:Vl}{p:Bool->Prop}{w:D->Prop}(h:RE w (dG x) p):∃k,uE x.d=some k/\p k:=by
 unfold dG at h
 cases q:uE x.d with
 | none=>rw[q] at h;exact h.elim
 | some k=>rw[q] at h;exact⟨k,rfl,h⟩
theorem aFS{a:E}{ea:Expr}(ha:PE X ea (WE X P n RT Y old σ a)):PE X (.UnaryOp .Not ea pos) (WE X P n RT Y old σ (.nt a)):=by
 intro pins s σV H Q I hw
 obtain⟨S,h⟩:=hw
 have h:=RE.bind' (show RE _ (ev P (call P n) σ a >>= λx=>dG x >>= λk=>R.ok (Vl.cl (.bl (!k)))) _ from h)
 refine UnaryOp_ (thn (ha pins s σV H (λu H1=>∃k,aAz X.K u H1 k/\Q (.bl (!k)) H1) I (wE.one S h λx u H1 hx t1 S1 r1=>?_)) λv s1 ⟨u,H1,I1,ru,k,hk,q⟩=>?_)
 . obtain⟨k,hk,hp⟩:=RE.tru (RE.bind' hx)
   exact⟨k,xV (r1.rv S) hk,(show Wn X RT Y old σ σV H Q (Vl.cl (.bl (!k))) from hp) _ _ t1 (Ro.cl r1.1 rfl)⟩
 . refine not_of (thn (vZ pins s1 σV H1 u v (λk' H'=>k'=k/\H'=H1) I1 ru ⟨k,hk,rfl,rfl⟩) λb s2 ⟨H2,I2,e1,e2⟩=>?_)
   subst e1 e2
   exact⟨.bl (!b),H2,I2,rfl,q⟩
theorem jS{c:E}{e:Expr}(ha:PE X e (WE X P n RT Y old σ c))(he:∀whole,isTrue e X.env whole=(do let v<-whole;standAt e.pos;holding [v] (truthy v)))
 (hc:∀w p,RE w (tst P (call P n) σ c) p->RE w (ev P (call P n) σ c) λx=>RE w (dG x) p):PT X e (WT X P n RT Y old σ c):=by
 refine(wB ha he).imp λσV H Q t ⟨S,h⟩=>?_
 refine wE.one S (hc _ _ h) λx u H1 hx t1 S1 r1=>?_
 obtain⟨k,hk,hp⟩:=RE.tru hx
 exact⟨k,xV (r1.rv S) hk,λt'=>hp _ t' r1.1⟩
theorem aFT{a b:E}{ea eb:Expr}{r:List Expr}(ha:PE X ea (WE X P n RT Y old σ a))(hb:PE X (.BoolOp .And (eb::r) pos) (WE X P n RT Y old σ b)):PE X (.BoolOp .And (ea::eb::r) pos) (WE X P n RT Y old σ (.an a b)):=by
 refine(aCN ha hb).imp λσV H Q t ⟨S,h⟩=>?_
 have h:=RE.bind' (show RE _ (ev P (call P n) σ a >>= λx=>(match x.d with|.bl true=>ev P (call P n) σ b|.bl false=>R.ok (Vl.cl (.bl false))|_=>.bad)) _ from h)
 refine wE.one S h λx u H1 hx t1 S1 r1=>?_
 split at hx
 . rename_i d1
   refine⟨true,(r1.rv S).bl d1,?_⟩
   rw[if_pos rfl]
   exact⟨S1,(hx.at r1.1).mono λv hv u H' t r=>λ_=>hv u H' t (r.from r1.1)⟩
 . rename_i d1
   refine⟨false,(r1.rv S).bl d1,?_⟩
   rw[if_neg bN]
   exact λt'=>hx _ _ t' (Ro.cl r1.1 rfl)
 . exact hx.elim
theorem aCl{a b:E}{ea eb:Expr}{r:List Expr}(ha:PE X ea (WE X P n RT Y old σ a))(hb:PE X (.BoolOp .Or (eb::r) pos) (WE X P n RT Y old σ b)):PE X (.BoolOp .Or (ea::eb::r) pos) (WE X P n RT Y old σ (.orr a b)):=by
 refine(aEQ ha hb).imp λσV H Q t ⟨S,h⟩=>?_
 have h:=RE.bind' (show RE _ (ev P (call P n) σ a >>= λx=>(match x.d with|.bl true=>R.ok (Vl.cl (.bl true))|.bl false=>ev P (call P n) σ b|_=>.bad)) _ from h)
 refine wE.one S h λx u H1 hx t1 S1 r1=>?_
 split at hx
 . rename_i d1
   refine⟨true,(r1.rv S).bl d1,?_⟩
   rw[if_pos rfl]
   exact λt'=>hx _ _ t' (Ro.cl r1.1 rfl)
 . rename_i d1
   refine⟨false,(r1.rv S).bl d1,?_⟩
   rw[if_neg bN]
   exact⟨S1,(hx.at r1.1).mono λv hv u H' t r=>λ_=>hv u H' t (r.from r1.1)⟩
 . exact hx.elim
theorem aFU{t a b:E}{et ea eb:Expr}(ht:PT X et (WT X P n RT Y old σ t))(ha:PE X ea (WE X P n RT Y old σ a))(hb:PE X eb (WE X P n RT Y old σ b)):PE X (.IfExp et ea eb pos) (WE X P n RT Y old σ (.ife t a b)):=by
 refine(vP ht ha hb).imp λσV H Q t0 ⟨S,h⟩=>?_
 have h:=RE.bind' (show RE _ (tst P (call P n) σ t >>= λx=>if x=true then ev P (call P n) σ a else ev P (call P n) σ b) _ from h)
 refine⟨S,h.mono λk hk H1 t1 s1=>?_⟩
 cases k with
 | true=>rw[if_pos rfl] at hk ⊢;exact⟨S.grow s1 t1,(hk.at s1).mono λv hv u H' t r=>λ_=>hv u H' t (r.from s1)⟩
 | false=>rw[if_neg bN] at hk ⊢;exact⟨S.grow s1 t1,(hk.at s1).mono λv hv u H' t r=>λ_=>hv u H' t (r.from s1)⟩
def w2(X:Cx)(P:Pg)(n:Nat)(RT Y old:Addr->Prop)(σ:Sg)(σV:L2.St)(H:Hp)(p:Vl->Vl->Prop)(ux uy:V)(H2:Hp):Prop:=
 ∃x y,Sx X.K RT Y old σ σV H2/\aG H H2/\Rv X.K RT Y old σ σV H2 x ux/\Rv X.K RT Y old σ σV H2 y uy/\p x y
theorem eY(M:Mc X P Γ n)(o:CmpOp):OpR X (compareOp o) (λux uy H Q=>∃(σ:Sg) (σV:L2.St) (x y:Vl) (k:Bool),Rv X.K RT Y old σ σV H x ux/\Rv X.K RT Y old σ σV H y uy/\bP o x.d y.d=some k/\Q (.bl k) H):=by
 intro pins s σV H ux uy v u Q I rx ry h
 obtain⟨σ',σV',x,y,k,hx,hy,hk,q⟩:=h
 exact uI I M.units rx ry hx hy hk q
theorem aFV(M:Mc X P Γ n){o:CmpOp}{a b:E}{ea eb:Expr}(ha:PE X ea (WE X P n RT Y old σ a))(hb:PE X eb (WE X P n RT Y old σ b))(hp:aN eb=true):PE X (.Compare ea [o] [eb] pos) (WE X P n RT Y old σ (.cmp o a b)):=by
 refine(aAx (eY (RT:=RT) (Y:=Y) (old:=old) M o) ha hb (jR hp)).imp λσV H Q t ⟨S,h⟩=>?_
 have h:=RE.bind' (show RE _ (ev P (call P n) σ a >>= λx=>ev P (call P n) σ b >>= λy=>(match bP o x.d y.d with|some k=>R.ok (Vl.cl (.bl k))|none=>.bad)) _ from h)
 refine wE.two S (h.mono λx hx=>RE.bind' hx) λx y ux uy H2 hp t2 s2 S2 hx hy=>?_
 split at hp
 . rename_i k hk
   exact⟨σ,σV,x,y,k,hx,hy,hk,λt'=>hp _ _ t' (Ro.cl s2 rfl)⟩
 . exact hp.elim
theorem aFW(M:Mc X P Γ n){o:CmpOp}{a b:E}{ea eb:Expr}(ha:PE X ea (WE X P n RT Y old σ a))(hb:PE X eb (WE X P n RT Y old σ b))(hp:aN eb=true):PT X (.Compare ea [o] [eb] pos) (WT X P n RT Y old σ (.cmp o a b)):=by
 refine(aAy (eY (RT:=RT) (Y:=Y) (old:=old) M o) ha hb (jR hp)).imp λσV H Q t ⟨S,h⟩=>?_
 have h:=RE.bind' (show RE _ (ev P (call P n) σ a >>= λx=>ev P (call P n) σ b >>= λy=>(match bP o x.d y.d with|some k=>R.ok k|none=>.bad)) _ from h)
 refine wE.two S (h.mono λx hx=>RE.bind' hx) λx y ux uy H2 hp t2 s2 S2 hx hy=>?_
 split at hp
 . rename_i k hk
   exact⟨σ,σV,x,y,k,hx,hy,hk,k,rfl,λt'=>hp _ t' s2⟩
 . exact hp.elim
theorem aFX{a b:E}{ea eb:Expr}(ha:PE X ea (WE X P n RT Y old σ a))(hb:PE X eb (WE X P n RT Y old σ b))(hp:aN eb=true):PE X (.Subscript ea eb pos) (WE X P n RT Y old σ (.idx a b)):=by
 refine(aFk aDh ha hb (qT hp)).imp λσV H Q t ⟨S,h⟩=>?_
 have h:=RE.bind' (show RE _ (ev P (call P n) σ a >>= λx=>ev P (call P n) σ b >>= λy=>eE x y) _ from h)
 refine wE.two S (h.mono λx hx=>RE.bind' hx) λx y ux uy H2 hp t2 s2 S2 hx hy=>?_
 exact uJ t2 hx hy (hp.mono λv hv u H' t r=>hv u H' t (r.from s2))
theorem sG:PA X [] (WA X P n RT Y old σ .nil):=jJ.imp λσV H Q t ⟨S,h⟩ t'=>h [] H t' (aG.refl H) rfl
theorem gW{c:E}{cs:Es}{e:Expr}{es:List Expr}(ha:PE X e (WE X P n RT Y old σ c))(hr:PA X es (WA X P n RT Y old σ cs))(hp:aN e=true):PA X (e::es) (WA X P n RT Y old σ (.cons c cs)):=by
 refine(fV ha hr (aA hp)).imp λσV H Q t ⟨S,h⟩=>?_
 have h:=RE.bind' (show RE _ (ev P (call P n) σ c >>= λx=>evs P (call P n) σ cs >>= λxs=>R.ok (x::xs)) _ from h)
 refine wE.one S h λx u H1 hx t1 S1 r1=>⟨S1,((RE.bind' hx).at r1.1).mono λvs hv us H2 t2 s2 r2 t'=>?_⟩
 exact hv (u::us) H2 t' (r1.1.trans s2) ⟨u,us,rfl,(r1.rv S).grow s2,r2⟩
theorem nA:∀{cs:Es} {es:List Expr} {vs:List Vl},chkEs Γ cs es=true->evs P (call P n) σ cs=.ok vs->vs.length=es.length
 | .nil,[],vs,_,h=>by cases(show R.ok []=R.ok vs from h);rfl
 | .nil,_::_,_,h,_=>by cases h
 | .cons _ _,[],_,h,_=>by cases h
 | .cons c cs,e::es,vs,hc,h=>by
  simp only[chkEs,bA] at hc
  have h:(ev P (call P n) σ c >>= λx=>evs P (call P n) σ cs >>= λxs=>R.ok (x::xs))=R.ok vs:=h
  cases q1:ev P (call P n) σ c with
  | ok x=>
   cases q2:evs P (call P n) σ cs with
   | ok xs=>
    rw[q1] at h
    have h:(evs P (call P n) σ cs >>= λxs=>R.ok (x::xs))=R.ok vs:=h
    rw[q2] at h
    cases(show R.ok (x::xs)=R.ok vs from h)
    rw[lC,lC,nA hc.2 q2]
   | exc z=>rw[q1] at h;have h:(evs P (call P n) σ cs >>= λxs=>R.ok (x::xs))=R.ok vs:=h;rw[q2] at h;cases h
   | bad=>rw[q1] at h;have h:(evs P (call P n) σ cs >>= λxs=>R.ok (x::xs))=R.ok vs:=h;rw[q2] at h;cases h
  | exc z=>rw[q1] at h;cases h
  | bad=>rw[q1] at h;cases h
theorem RE.with{α:Type}{x:R α}{p:α->Prop}{w:D->Prop}(h:RE w x p):RE w x λa=>x=.ok a/\p a:=by
 cases x with
 | ok a=>exact⟨rfl,h⟩
 | exc e=>exact h
 | bad=>exact h
theorem aFY{cs:Es}{es:List Expr}{k:Nat}(ha:PA X es (WA X P n RT Y old σ cs))(hc:chkEs Γ cs es=true)(hl:es.length<=1000):PE X (.Tuple es k pos) (WE X P n RT Y old σ (.tup cs)):=by
 refine(wC ha).imp λσV H Q t ⟨S,h⟩=>?_
 have h:=RE.bind' (show RE _ (evs P (call P n) σ cs >>= λvs=>R.ok (nZ vs)) _ from h)
 refine⟨S,h.with.mono λvs ⟨e,hv⟩ us H1 t1 s1 r1=>?_⟩
 have hn:us.length<=sizeLine:=by rw[<-r1.length,nA hc e,sizeLine_eq];omega
 exact⟨hn,λp hp t'=>(show Wn X RT Y old σ σV H Q (nZ vs) from hv) _ _ t' ((Ro.tup hp rfl rfl r1.all).from s1)⟩
theorem aFZ{cs:Es}{es:List Expr}(ha:PA X es (WA X P n RT Y old σ cs))(hc:chkEs Γ cs es=true)(hl:es.length<=1000):PE X (.List es pos) (WE X P n RT Y old σ (.lst cs)):=by
 refine(aDc ha).imp λσV H Q t ⟨S,h⟩=>?_
 have h:=RE.bind' (show RE _ (evs P (call P n) σ cs >>= λvs=>R.ok (lB vs)) _ from h)
 refine⟨S,h.with.mono λvs ⟨e,hv⟩ us H1 t1 s1 r1=>?_⟩
 have hn:us.length<=sizeLine:=by rw[<-r1.length,nA hc e,sizeLine_eq];omega
 exact⟨hn,λp hp t'=>(show Wn X RT Y old σ σV H Q (lB vs) from hv) _ _ t' ((Ro.fresh hp t' rfl rfl (S.grow s1 t1) r1.all).from s1)⟩
theorem aBb:∀b:Bi,xA b=true->bootBuiltins (fL b)=some (aCk b):=by
 intro b hb
 cases b <;> first|kernel_rfl|cases hb
theorem fN:∀b:Bi,fL b∈bltNames:=by
 intro b
 cases b <;> decide +kernel
theorem gX:∀b:Bi,fL b ≠ "__name__" := by
 intro b
 cases b <;> decide +kernel
theorem aIo(M:Mc X P Γ n){b:Bi}{cs:Es}{x:Str}{p:Pos}{e:Expr}{es:List Expr}(hb:xA b=true)(hx:fL b=x)(hg:bZ Γ x=true)(ho:aY x=true)(ha:PA X (e::es) (WA X P n RT Y old σ cs))(hp:(e::es).all aN=true) :
 PE X (.Call (.Name x p) (e::es) [] pos) (WE X P n RT Y old σ (.bi b cs)):=by
 subst hx
 have hp':aN e=true/\es.all aN=true:=by simpa using hp
 have body:∀(f:PE X (.Call (.Name (fL b) p) (e::es) [] pos) (tCB (rBi X b) (WA X P n RT Y old σ cs))),PE X (.Call (.Name (fL b) p) (e::es) [] pos) (WE X P n RT Y old σ (.bi b cs)):=λf=>f.imp λσV H Q t ⟨S,h⟩=>by
  have h:=RE.bind' (show RE _ (evs P (call P n) σ cs >>= λvs=>biD b vs) _ from h)
  refine⟨S,h.mono λvs hv us H1 t1 s1 r1=>?_⟩
  exact xL hb (S.grow s1 t1) r1 (hv.mono λv hv u H' t r=>hv u H' t (r.from s1))
 refine body ?_
 have r:=aAU M.calm M.room.gd M.units b hb
 have bo:=aBb b hb
 cases b with
 | len=>exact wD r (M.gl hg) (M.md.blt _ (fN _)) bo ha (gX _) (aH ho) (aA hp'.1) (cZ hp'.2)
 | list=>exact kY r (M.gl hg) (M.md.blt _ (fN _)) bo ha (gX _) (aH ho) (aA hp'.1) (cZ hp'.2)
 | int=>exact kY r (M.gl hg) (M.md.blt _ (fN _)) bo ha (gX _) (aH ho) (aA hp'.1) (cZ hp'.2)
 | _=>cases hb
theorem aBc{σV:L2.St}{H H1 H':Hp}{vs:List Vl}{r:Rt}{u:V}(S1:Sx X.K RT Y old σ σV H1)(s1:aG H H1)(s':aG H1 H')(h:Rr X.K H1 H' (λb=>H1 b≠none/\exV RT Y old σ σV (dO vs) (bI vs) b) r u) :
 Ro X.K RT Y old σ σV H H' (eF vs r) u:=by
 obtain⟨d,fr,pa⟩:=r
 have key:∀b,exV RT Y old σ σV (eF vs (d,fr,pa)).pa (eF vs (d,fr,pa)).al b->(H1 b≠none/\exV RT Y old σ σV (dO vs) (bI vs) b)\/(pa=false/\H1 b≠none):=by
  intro b z
  have tk:=exV.trk S1 z
  cases pa with
  | true=>exact .inl ⟨tk,z⟩
  | false=>exact .inr ⟨rfl,tk⟩
 have efr:(eF vs (d,fr,pa)).fr=fr:=by unfold eF;split <;> rfl
 have ed:(eF vs (d,fr,pa)).d=d:=by unfold eF;split <;> rfl
 refine⟨s1.trans s',?_⟩
 rw[efr]
 unfold Rr at h
 cases fr with
 | true=>
  rw[if_pos rfl] at h ⊢
  obtain⟨a,xs,ds,e1,e2,e3,e4,rr⟩:=h
  exact⟨a,xs,ds,e1,by rw[ed];exact e2,s1.free e3,e4,rr.weak λb z=>z.elim (λz=>.inl z) λz=>.inr (key b z)⟩
 | false=>
  rw[if_neg bN] at h ⊢
  unfold Rv
  rw[ed]
  exact Rep.weak h key
theorem xW{f:Nat}{cs:Es}{σV:L2.St}{H:Hp}{Q:VK}(S:Sx X.K RT Y old σ σV H)(h:RE (wx X σV H) (ev P (call P n) σ (.call f cs)) (Wn X RT Y old σ σV H Q)) :
 WA X P n RT Y old σ cs σV H λus H1=>spF X.K P n f (us++[]) H1 (λv H'=>Tk X.K H'->Q v H') (λc _ H'=>RX X c σV H'):=by
 have h:=RE.bind' (show RE _ (evs P (call P n) σ cs >>= λvs=>call P n f (vs.map (·.d)) >>= λr=>R.ok (eF vs r)) _ from h)
 refine⟨S,h.mono λvs hv us H1 t1 s1 r1=>?_⟩
 have S1:=S.grow s1 t1
 refine⟨vs.map (·.d),λb=>H1 b≠none/\exV RT Y old σ σV (dO vs) (bI vs) b,λa z=>z.1,by rw[List.append_nil];exact r1.all.weak λa z=>z.2,((RE.bind' hv).weak λx hx=>?_).mono λr hr u H' t' s' rr _=>?_⟩
 . cases x with
   | err c fs=>exact λcls H' q t' s'=>hx H' t' (s1.trans s') cls q
   | _=>exact(hx H1 t1 s1).elim
 exact(show Wn X RT Y old σ σV H Q (eF vs r) from hr) u H' t' (aBc S1 s1 s' rr)
theorem aDw(M:Mc X P Γ n){f:Nat}{cs:Es}{x:Str}{p:Pos}{es:List Expr}(hf:Γ.fns[f]? = some x)(hg:bZ Γ x=true)(ho:aY x=true)(ha:PA X es (WA X P n RT Y old σ cs))(hp:es.all aN=true)(hc:chkEs Γ cs es=true) :
 PE X (.Call (.Name x p) es [] pos) (WE X P n RT Y old σ (.call f cs)):=by
 obtain⟨fa,fd,ps,h1,h2,h3,h4⟩:=M.md.fn f x hf
 cases es with
 | cons e es=>
  have hp':aN e=true/\es.all aN=true:=by simpa using hp
  intro pins s σV H Q I h
  have hw:=xW h.1 h.2
  refine wpAny_Call_Name_kw (fT I (M.gl hg) h1 ?_ (aH ho))
  refine PySem.W.callWith_K (h₀:=X.base) I.ok.mod.kin h2 (thn (ha pos pins s σV H _ I hw) λus s1 ⟨vs,H1,I1,r,q⟩=>⟨I1.kIn,?_⟩) (aA hp'.1) (cZ hp'.2)
  exact thn (sA h4 M.room h3 .nil (xC X) I1 r q) λu s2 z=>EP.tk z
 | nil=>
  cases cs with
  | cons _ _=>cases hc
  | nil=>
   intro pins s σV H Q I h
   have hw:=(xW h.1 h.2).2 [] H I.tk (aG.refl H) rfl
   refine wpAny_Call_Name_kw (fT I (M.gl hg) h1 ?_ (aH ho))
   exact PySem.W.callWith_K0 I.kIn h2 (thn (sA (us:=[]) h4 M.room h3 .nil (xC X) I .nil hw) λu s2 z=>EP.tk z)
theorem aDx(M:Mc X P Γ n){i:Nat}{a:E}{m x:Str}{p ap:Pos}{ea:Expr}(hm:m=("get" : Str))(hx:Γ.tbs[i]? = some x)(hg:bZ Γ x=true)(ho:aY x=true)(hl:(ap.endLine==pos.line)=true)
 (ha:PE X ea (WE X P n RT Y old σ a)) (hp:aN ea=true):PE X (.Call (.Attribute (.Name x p) m ap) [ea] [] pos) (WE X P n RT Y old σ (.tget i a)):=by
 subst hm
 obtain⟨b,t,h1,h2,h3⟩:=M.md.tab i x hx
 refine(aAV h3 (M.gl hg) h1 (aH ho) ha hl (aA hp)).imp λσV H Q tk ⟨S,h⟩=>?_
 have h:=RE.bind' (show RE _ (ev P (call P n) σ a >>= λx=>(match x.d,P.tabs[i]? with|.str k,some t=>R.ok (Vl.cl ((t.lookup k).getD .non))|_,_=>.bad)) _ from h)
 refine wE.one S h λy u H1 hy t1 S1 r1=>?_
 rw[h2] at hy
 cases hd:y.d with
 | str k=>
  rw[hd] at hy
  have hu:u=.str k:=by
   have z:=r1.rv S
   unfold Rv at z
   rw[hd] at z
   exact z
  exact⟨k,hu,λv hv t'=>(show Wn X RT Y old σ σV H Q (Vl.cl ((t.lookup k).getD .non)) from hy) v H1 t' (Ro.val r1.1 (hv H1))⟩
 | _=>rw[hd] at hy;exact hy.elim
theorem uO{c:Cl}{cv:Value}{x:Str}(hc:oM c=some cv)(hx:qK Γ c=some x):bootBuiltins x=some cv/\x∈bltNames/\x ≠ "__name__" := by
 cases c <;> cases hc <;> cases hx <;> exact⟨by kernel_rfl,by decide +kernel,by decide +kernel⟩
theorem aGa(M:Mc X P Γ n){a:E}{c:Cl}{cv:Value}{f x:Str}{pf py:Pos}{ea:Expr}(hf:f=("isinstance" : Str))(hg:bZ Γ f=true)(hc:oM c=some cv)(hx:qK Γ c=some x)(hgx:bZ Γ x=true)(hox:aY x=true)
 (ha:PE X ea (WE X P n RT Y old σ a)) (hp:aN ea=true):PE X (.Call (.Name f pf) [ea,.Name x py] [] pos) (WE X P n RT Y old σ (.isi a [c])):=by
 subst hf
 intro pins s σV H Q I hw
 obtain⟨S,h⟩:=hw
 have h:=RE.bind' (show RE _ (ev P (call P n) σ a >>= λx=>(match isI [c] P x.d with|some k=>R.ok (Vl.cl (.bl k))|none=>.bad)) _ from h)
 obtain⟨b1,b2,b3⟩:=uO hc hx
 refine wpAny_Call_Name_kw (dS I (M.gl hg) (M.md.blt _ (by decide +kernel)) (show bootBuiltins "isinstance" = some (.builtin "isinstance") by kernel_rfl) ?_ (by decide +kernel) (by decide +kernel))
 refine PyProof.Rows.callWith_builtin1 ?_ (aA hp) rfl
 rw[aA hp]
 show wpAny _ _ (spliced ((false,eval ea X.env)::backTo pos (starEach [.Name x py] X.env))) _ _ s
 refine Calls.spliced_cons (thn (ha pins s σV H (λu H1=>∃y k,Rv X.K RT Y old σ σV H1 y u/\isI [c] P y.d=some k/\Q (.bl k) H1) I (wE.one S h λy u H1 hy t1 S1 r1=>?_)) λv s1 ⟨u,H1,I1,ru,y,k,hy,hk,q⟩=>?_)
 . split at hy
   . rename_i k hk
     exact⟨y,k,r1.rv S,hk,(show Wn X RT Y old σ σV H Q (Vl.cl (.bl k)) from hy) _ _ t1 (Ro.cl r1.1 rfl)⟩
   . exact hy.elim
 . show wpAny _ _ (spliced ((false,eval (.Name x py) X.env)::backTo pos (starEach [] X.env))) _ _ s1
   refine Calls.spliced_cons (dS I1 (M.gl hgx) (M.md.blt _ b2) b1 (Calls.spliced_nil ?_) b3 (aH hox))
   exact uM P I1 ru hy hc hk q
def xX(X:Cx)(cls:List Str):Cl->V->Prop
 | .own x,v=>x∈cls/\∃C2,X.mg x=some (.ref C2)/\v=.ref C2
 | .tValueError,v=>v=.ty "ValueError"
 | _,_=>False
def sH(X:Cx)(cls:List Str):List Cl->List V->Prop
 | [],vs=>vs=[]
 | c::cs,vs=>∃v r,vs=v::r/\xX X cls c v/\sH X cls cs r
def ClV(X:Cx)(cls:List Str)(cs:List Cl)(v:V)(H:Hp):Prop:=(∃c,cs=[c]/\xX X cls c v)\/∃p vs,v=.ref p/\SqT X.K H p vs/\sH X cls cs vs
theorem xY{c:Str}{ab:List Cl}{C:Addr}(E:lH X.K X.mg Γ.cls c ab C){z:Cl}{v:V}{u:Value}(h:xX X Γ.cls z v)(r:aR v u):PySem.W.kitOne X.K (.ref C) u=some (ab.contains z):=by
 cases z with
 | own x=>
  obtain⟨hm,C2,h1,rfl⟩:=h
  obtain⟨C2',q1,q2,_⟩:=E.ow x hm
  rw[h1] at q1
  cases q1
  cases r
  exact q2
 | tValueError=>
  have h:v=.ty "ValueError" := h
  subst h
  cases r
  exact E.ve
 | _=>exact h.elim
theorem xZ{c:Str}{ab:List Cl}{C:Addr}(E:lH X.K X.mg Γ.cls c ab C):∀{cs:List Cl} {vs:List V} {us:List Value},sH X Γ.cls cs vs->aJ vs us->PySem.W.kitAny X.K (.ref C) us=some (cs.any λz=>ab.contains z)
 | [],vs,us,h,r=>by
  have h:vs=[]:=h
  subst h
  cases r
  rfl
 | z::cs,vs,us,h,r=>by
  obtain⟨v,rr,e,h1,h2⟩:=h
  subst e
  cases r with
  | cons q t=>
   have k:=xY E h1 q
   have ih:=xZ E h2 t
   rw[List.any_cons]
   unfold PySem.W.kitAny
   rw[k]
   cases hb:ab.contains z with
   | true=>rfl
   | false=>exact ih
theorem yA(M:Mc X P Γ n){a:E}{cs:List Cl}{f:Str}{pf:Pos}{ea y:Expr}{tc:TE}(hf:f=("isinstance" : Str))(hg:bZ Γ f=true)(ha:PE X ea (WE X P n RT Y old σ a))(hp:aN ea=true)(hy:PE X y tc)(hpy:aN y=true)
 (htc:∀σV H Q,(∀v H',aG H H'->ClV X Γ.cls cs v H'->Q v H')->tc σV H Q):PE X (.Call (.Name f pf) [ea,y] [] pos) (WE X P n RT Y old σ (.isx a cs)):=by
 subst hf
 intro pins s σV H Q I hw
 obtain⟨S,h⟩:=hw
 have h:=RE.bind' (show RE _ (ev P (call P n) σ a >>= λx=>(match isX cs P x.d with|some k=>R.ok (Vl.cl (.bl k))|none=>.bad)) _ from h)
 refine wpAny_Call_Name_kw (dS I (M.gl hg) (M.md.blt _ (by decide +kernel)) (show bootBuiltins "isinstance" = some (.builtin "isinstance") by kernel_rfl) ?_ (by decide +kernel) (by decide +kernel))
 refine PyProof.Rows.callWith_builtin1 ?_ (aA hp) (by rw[aA hpy];rfl)
 rw[aA hp]
 show wpAny _ _ (spliced ((false,eval ea X.env)::backTo pos (starEach [y] X.env))) _ _ s
 refine Calls.spliced_cons (thn (ha pins s σV H (λu H1=>∃z k,Rv X.K RT Y old σ σV H1 z u/\isX cs P z.d=some k/\∀H2,Tk X.K H2->aG H1 H2->Q (.bl k) H2) I (wE.one S h λz u H1 hz t1 S1 r1=>?_)) λv s1 ⟨u,H1,I1,ru,z,k,hz,hk,q⟩=>?_)
 . split at hz
   . rename_i k hk
     exact⟨z,k,r1.rv S,hk,λH2 t2 s2=>(show Wn X RT Y old σ σV H Q (Vl.cl (.bl k)) from hz) _ _ t2 (Ro.cl (r1.1.trans s2) rfl)⟩
   . exact hz.elim
 . rw[aA hpy]
   show wpAny _ _ (spliced ((false,eval y X.env)::backTo pos (starEach [] X.env))) _ _ s1
   refine Calls.spliced_cons (thn (hy pins s1 σV H1 (λv H2=>aG H1 H2/\ClV X Γ.cls cs v H2) I1 (htc σV H1 _ λv H2 s2 c=>⟨s2,c⟩)) λcv s2 ⟨v2,H2,I2,r2,sm,hc⟩=>Calls.spliced_nil ?_)
   have fin:∀tk,EP X pins σV Q (.bool k) { s2 with toks:=tk }:=λtk=>⟨.bl k,H2,I2.tok tk,rfl,q H2 I2.tk sm⟩
   have hz:=hz.grow sm
   unfold isX at hk
   split at hk
   . rename_i hd
     unfold Rv at hz
     rw[hd] at hz
     have hz:u=.non:=hz
     subst hz
     have hv:v=.none:=ru
     subst hv
     split at hk
     . have hk:=Option.some.inj hk
       subst hk
       rcases hc with⟨c1,e1,hc⟩|⟨p,vs,rfl,hq,w0,r0,rfl,hc,hc2⟩
       . cases e1
         have hc:v2=.ty "ValueError" := hc
         subst hc
         cases r2
         exact PySem.W.kia_one PySem.W.kitx_none I2.kIn trivial rfl (λz=>nomatch z) fin
       . have hc:w0=.ty "ValueError" := hc
         have hc2:r0=[]:=hc2
         subst hc hc2
         obtain⟨its,v3,t3,_⟩:=I2.tuple hq
         obtain⟨o,h1,h2,nn,h3⟩:=t3
         obtain⟨oc,od,oda,osl⟩:=o
         dsimp only at h2 h3
         subst h2 h3
         cases r2
         cases v3 with
         | cons r3 r4=>
          cases r3
          cases r4
          exact PySem.W.kia_tup PySem.W.kitx_none I2.kIn trivial h1 rfl (λz=>nomatch z) fin
     . cases hk
   . rename_i c fs hd
     unfold Rv at hz
     rw[hd] at hz
     obtain⟨b,C1,e1,hH,hns⟩:=hz
     subst e1
     cases ru
     split at hk
     . rename_i ab hab
       obtain⟨C,E⟩:=M.md.exc c ab hab
       have e:C=C1:=by
        have:=E.ns.symm.trans hns
        simpa using this
       subst e
       have hk:=Option.some.inj hk
       obtain⟨hI,_⟩:=(show bW X.prog X.w H2 s2.heap b (excO b C) from I2.hok b _ hH)
       rcases hc with⟨c1,rfl,hc⟩|⟨p,vs,rfl,hq,hc⟩
       . refine PySem.W.kia_one (oQ E.xc) I2.kIn hI ?_ (λz=>nomatch z) fin
         rw[xY E hc r2,<-hk]
         simp
       . obtain⟨its,v3,t3,_⟩:=I2.tuple hq
         obtain⟨o,h1,h2,nn,h3⟩:=t3
         obtain⟨oc,od,oda,osl⟩:=o
         dsimp only at h2 h3
         subst h2 h3
         cases r2
         refine PySem.W.kia_tup (oQ E.xc) I2.kIn hI h1 ?_ (λz=>nomatch z) fin
         rw[xZ E hc v3,<-hk]
     . cases hk
   . cases hk
def tCs(vs:List V):TA:=λ_ H Q=>Q vs H
theorem oR{c:Cl}{y:Expr}(h:rW Γ c y=true):∃x p,c=.own x/\y=.Name x p/\bZ Γ x=true/\aY x=true/\x∈Γ.cls:=by
 unfold rW at h
 split at h
 . rename_i x z p
   simp only[bA] at h
   obtain⟨⟨⟨h1,h2⟩,h3⟩,h4⟩:=h
   have e:z=x:=eq_of_beq h1
   subst e
   exact⟨z,p,rfl,rfl,h2,h3,by simpa using h4⟩
 . cases h
theorem yB(M:Mc X P Γ n):∀{cs:List Cl} {es:List Expr},rX Γ cs es=true->∃vs,PA X es (tCs vs)/\sH X Γ.cls cs vs/\vs.length=es.length
 | [],[],_=>⟨[],jJ,rfl,rfl⟩
 | [],_::_,h=>by cases h
 | _::_,[],h=>by cases h
 | z::cs,y::ys,h=>by
  unfold rX at h
  obtain⟨h1,h2⟩:=(bA _ _).mp h
  obtain⟨vs,i1,i2,i3⟩:=yB M h2
  obtain⟨x,p,rfl,rfl,g1,g2,g3⟩:=oR h1
  obtain⟨C2,q⟩:=M.md.cls x g3
  exact⟨.ref C2::vs,fV (iX (v:=.ref C2) (M.gl g1) q rfl (aH g2)) i1 (aA rfl),⟨_,_,rfl,⟨g3,C2,q,rfl⟩,i2⟩,by rw[lC,lC,i3]⟩
end
section
variable {X:Cx} {P:Pg} {Γ:Ct} {n:Nat} {RT Y old:Addr->Prop} {σ:Sg} {pos:Pos}
theorem jT{o o':CmpOp}{eb ec:Expr}(hq:aN ec=true):lastMarks [o,o'] [eb,ec]=false:=jR hq
theorem aDy(M:Mc X P Γ n){o o':CmpOp}{a b c:E}{ea eb ec:Expr}(ha:PE X ea (WE X P n RT Y old σ a))(hb:PE X eb (WE X P n RT Y old σ b))(hc:PE X ec (WE X P n RT Y old σ c))(hq:aN ec=true) :
 PE X (.Compare ea [o,o'] [eb,ec] pos) (WE X P n RT Y old σ (.cmp2 o o' a b c)):=by
 refine(vX (eY (RT:=RT) (Y:=Y) (old:=old) M o) (eY (RT:=RT) (Y:=Y) (old:=old) M o') ha hb hc (jT hq)).imp λσV H Q t ⟨S,h⟩=>?_
 have h:=RE.bind' (show RE _ (ev P (call P n) σ a >>= λx=>ev P (call P n) σ b >>= λy=>(match bP o x.d y.d with
  | some true=>ev P (call P n) σ c >>= λz=>(match bP o' y.d z.d with|some k=>R.ok (Vl.cl (.bl k))|none=>.bad)
  | some false=>R.ok (Vl.cl (.bl false))
  | none=>.bad)) _ from h)
 refine wE.two S (h.mono λx hx=>RE.bind' hx) λx y ux uy H2 hp t2 s2 S2 hx hy=>?_
 split at hp
 . rename_i hk
   refine⟨σ,σV,x,y,true,hx,hy,hk,true,rfl,?_⟩
   rw[if_pos rfl]
   refine wE.one S2 ((RE.bind' hp).at s2) λz u H3 hz t3 S3 r3=>?_
   split at hz
   . rename_i k' hk'
     exact⟨σ,σV,y,z,k',hy.grow r3.1,r3.rv S2,hk',λt'=>hz _ _ t' (Ro.cl (s2.trans r3.1) rfl)⟩
   . exact hz.elim
 . rename_i hk
   refine⟨σ,σV,x,y,false,hx,hy,hk,false,rfl,?_⟩
   rw[if_neg bN]
   exact λt'=>hp _ _ t' (Ro.cl s2 rfl)
 . exact hp.elim
theorem aDz(M:Mc X P Γ n){o o':CmpOp}{a b c:E}{ea eb ec:Expr}(ha:PE X ea (WE X P n RT Y old σ a))(hb:PE X eb (WE X P n RT Y old σ b))(hc:PE X ec (WE X P n RT Y old σ c))(hq:aN ec=true) :
 PT X (.Compare ea [o,o'] [eb,ec] pos) (WT X P n RT Y old σ (.cmp2 o o' a b c)):=by
 refine(vY (eY (RT:=RT) (Y:=Y) (old:=old) M o) (eY (RT:=RT) (Y:=Y) (old:=old) M o') ha hb hc (jT hq)).imp λσV H Q t ⟨S,h⟩=>?_
 have h:=RE.bind' (show RE _ (ev P (call P n) σ a >>= λx=>ev P (call P n) σ b >>= λy=>(match bP o x.d y.d with
  | some true=>ev P (call P n) σ c >>= λz=>(match bP o' y.d z.d with|some k=>R.ok k|none=>.bad)
  | some false=>R.ok false
  | none=>.bad)) _ from h)
 refine wE.two S (h.mono λx hx=>RE.bind' hx) λx y ux uy H2 hp t2 s2 S2 hx hy=>?_
 split at hp
 . rename_i hk
   refine⟨σ,σV,x,y,true,hx,hy,hk,true,rfl,?_⟩
   rw[if_pos rfl]
   refine wE.one S2 ((RE.bind' hp).at s2) λz u H3 hz t3 S3 r3=>?_
   split at hz
   . rename_i k' hk'
     exact⟨σ,σV,y,z,k',hy.grow r3.1,r3.rv S2,hk',k',rfl,λt'=>hz _ t' (s2.trans r3.1)⟩
   . exact hz.elim
 . rename_i hk
   refine⟨σ,σV,x,y,false,hx,hy,hk,false,rfl,?_⟩
   rw[if_neg bN]
   exact⟨false,rfl,λt'=>hp _ t' s2⟩
 . exact hp.elim
theorem aIp{a:E}{ea:Expr}(ha:PT X ea (WT X P n RT Y old σ a)):PT X (.UnaryOp .Not ea pos) (WT X P n RT Y old σ (.nt a)):=by
 refine(aCM ha).imp λσV H Q t ⟨S,h⟩=>?_
 have h:=RE.bind' (show RE _ (tst P (call P n) σ a >>= λx=>R.ok (!x)) _ from h)
 exact⟨S,h.mono λk hk H1 t1 s1 t'=>(show ∀H',Tk X.K H'->aG H H'->Q (!k) H' from hk) _ t' s1⟩
theorem yC{e:Expr}{t t':TT}(h:PW X e t)(f:∀σV H Q,Tk X.K H->t' σV H Q->t σV H λv H'=>Tk X.K H'->Q v H'):PW X e t':=λwh pins s σV H Q I hw=>
 thn (h wh pins s σV H _ I (f σV H Q I.tk hw)) λk s' ⟨H',I',q⟩=>⟨H',I',q I'.tk⟩
theorem aGb{a b:E}{ea eb:Expr}{r:List Expr}(ha:PT X ea (WT X P n RT Y old σ a))(hb:PW X (.BoolOp .And (eb::r) pos) (WT X P n RT Y old σ b)):PW X (.BoolOp .And (ea::eb::r) pos) (WT X P n RT Y old σ (.an a b)):=by
 refine yC (aCL ha hb) λσV H Q t ⟨S,h⟩=>?_
 have h:=RE.bind' (show RE _ (tst P (call P n) σ a >>= λx=>if x=true then tst P (call P n) σ b else R.ok false) _ from h)
 refine⟨S,h.mono λk hk H1 t1 s1=>?_⟩
 cases k with
 | true=>rw[if_pos rfl] at hk ⊢;exact⟨S.grow s1 t1,(hk.at s1).mono λv hv H' t s' _=>hv H' t (s1.trans s')⟩
 | false=>rw[if_neg bN] at hk ⊢;exact λt'=>(show ∀H',Tk X.K H'->aG H H'->Q false H' from hk) _ t' s1
theorem aCm{a b:E}{ea eb:Expr}{r:List Expr}(ha:PT X ea (WT X P n RT Y old σ a))(hb:PW X (.BoolOp .Or (eb::r) pos) (WT X P n RT Y old σ b)):PW X (.BoolOp .Or (ea::eb::r) pos) (WT X P n RT Y old σ (.orr a b)):=by
 refine yC (aEO ha hb) λσV H Q t ⟨S,h⟩=>?_
 have h:=RE.bind' (show RE _ (tst P (call P n) σ a >>= λx=>if x=true then R.ok true else tst P (call P n) σ b) _ from h)
 refine⟨S,h.mono λk hk H1 t1 s1=>?_⟩
 cases k with
 | true=>rw[if_pos rfl] at hk ⊢;exact λt'=>(show ∀H',Tk X.K H'->aG H H'->Q true H' from hk) _ t' s1
 | false=>rw[if_neg bN] at hk ⊢;exact⟨S.grow s1 t1,(hk.at s1).mono λv hv H' t s' _=>hv H' t (s1.trans s')⟩
def wO(X:Cx)(P:Pg)(n:Nat)(RT Y old:Addr->Prop)(σ:Sg)(cs:Es):TO:=λσV H Q=>Sx X.K RT Y old σ σV H/\RE (wx X σV H) (evs P (call P n) σ cs) λvs=>
 (vs=[]/\∀H',Tk X.K H'->aG H H'->Q none H')\/∃v i,vs=[v]/\v.d=.int i/\∀H',Tk X.K H'->aG H H'->Q (some i) H'
theorem yD{e:Option Expr}{t t':TO}(h:PO X e t)(f:∀σV H Q,Tk X.K H->t' σV H Q->t σV H λv H'=>Tk X.K H'->Q v H'):PO X e t':=λpins s σV H Q I hw=>
 thn (h pins s σV H _ I (f σV H Q I.tk hw)) λu s' ⟨o,H',I',r,q⟩=>⟨o,H',I',r,q I'.tk⟩
theorem aGc:PO X none (wO X P n RT Y old σ .nil):=yD aAC λσV H Q t ⟨S,h⟩ t'=>by
 rcases(show([]:List Vl)=[]/\_\/_ from h) with⟨_,q⟩|⟨v,i,e,_⟩
 . exact q H t' (aG.refl H)
 . cases e
theorem aGd{c:E}{e:Expr}(ha:PE X e (WE X P n RT Y old σ c)):PO X (some e) (wO X P n RT Y old σ (.cons c .nil)):=by
 refine yD (aAD ha) λσV H Q t ⟨S,h⟩=>?_
 have h:=RE.bind' (show RE _ (ev P (call P n) σ c >>= λx=>evs P (call P n) σ .nil >>= λxs=>R.ok (x::xs)) _ from h)
 refine wE.one S h λx u H1 hx t1 S1 r1=>?_
 rcases(show([x]:List Vl)=[]/\_\/∃v i,([x]:List Vl)=[v]/\_/\_ from hx) with⟨e,_⟩|⟨v,i,e,hd,q⟩
 . cases e
 . cases e
   exact⟨i,(r1.rv S).int hd,λt'=>q _ t' r1.1⟩
theorem RE.eqc{α:Type}{x:R α}{p:α->Prop}{w:D->Prop}(h:RE w x p)(n:∀z,x≠.exc z):∃a,x=.ok a/\p a:=by
 cases x with
 | ok a=>exact⟨a,rfl,h⟩
 | exc e=>exact absurd rfl (n e)
 | bad=>exact h.elim
theorem eZ{α:Type}{c:Bool}{x:R α}(h:∀z,x≠.exc z):∀z,R.iff c x≠.exc z:=λz q=>by
 unfold R.iff at q
 split at q
 . exact h z q
 . cases q
theorem eO{α:Type}{a:α}:∀z,R.ok a≠.exc z:=λz q=>by cases q
theorem aBd{α:Type}:∀z,(R.bad:R α)≠.exc z:=λz q=>by cases q
theorem dA{α β:Type}{x:R α}{f:α->R β}(h:∀z,x≠.exc z)(g:∀a z,f a≠.exc z):∀z,(x >>= f)≠.exc z:=λz q=>by
 cases x with
 | ok a=>exact g a z q
 | exc e=>exact h e rfl
 | bad=>cases q
theorem aDA(o:Operator)(x y:Vl):∀z,opD o x y≠.exc z:=λz q=>by
 unfold opD at q
 split at q
 . unfold aAL at q;split at q <;> first|(cases q;done)|exact eZ eO z q
 . unfold aAM at q;split at q <;> first|(cases q;done)|exact eZ eO z q
 all_goals first|(cases q;done)|(unfold mV at q;split at q <;> first|(cases q;done)|exact eZ eO z q)
theorem aBe(x y:Vl):∀z,eE x y≠.exc z:=λz q=>by
 unfold eE at q
 repeat' split at q
 all_goals first|(cases q;done)|exact eZ eO z q|exact eZ aBd z q
theorem aBf(xs:List Vl):∀z,biD .len xs≠.exc z:=λz q=>by
 unfold biD at q
 split at q
 . dsimp only[wQ] at q
   split at q <;> first|(cases q;done)|exact eZ eO z q
 . cases q
 . cases q
theorem yE(σ:Sg)(i:Nat):∀z,bH σ i≠.exc z:=λz q=>by
 unfold bH at q
 split at q
 . unfold Sl.val at q;split at q <;> cases q
 . cases q
mutual
theorem fA{cl:Caller}:∀{c:E},eC c=true->∀z,ev P cl σ c≠.exc z
 | .c _,_=>eO
 | .v i,_=>yE σ i
 | .op o a b,h=>by
  obtain⟨h1,h2⟩:=(bA _ _).mp h
  exact dA (fA h1) λx=>dA (fA h2) λy=>aDA o x y
 | .idx a b,h=>by
  obtain⟨h1,h2⟩:=(bA _ _).mp h
  exact dA (fA h1) λx=>dA (fA h2) λy=>aBe x y
 | .bi b es,h=>by
  obtain⟨h1,h2⟩:=(bA _ _).mp h
  have h1:b=.len:=by simpa using h1
  subst h1
  exact dA (calm_evs h2) aBf
theorem calm_evs{cl:Caller}:∀{cs:Es},calmEs cs=true->∀z,evs P cl σ cs≠.exc z
 | .nil,_=>eO
 | .cons a r,h=>by
  obtain⟨h1,h2⟩:=(bA _ _).mp h
  exact dA (fA h1) λx=>dA (calm_evs h2) λy=>eO
end
theorem aGe{a:E}{lo hi:Es}{ea:Expr}{el eh:Option Expr}{p2:Pos}(ha:PE X ea (WE X P n RT Y old σ a))(hl:PO X el (wO X P n RT Y old σ lo))(hh:PO X eh (wO X P n RT Y old σ hi))(hcm:calmEs hi=true) :
 PE X (.Subscript ea (.Slice el eh none p2) pos) (WE X P n RT Y old σ (.sli a lo hi)):=by
 refine(wG (aDs (X:=X)) ha hl hh).imp λσV H Q t ⟨S,h⟩=>?_
 have h:=RE.bind' (show RE _ (ev P (call P n) σ a >>= λx=>evs P (call P n) σ lo >>= λl=>evs P (call P n) σ hi >>= λh=>(match l,h with
  | [],[]=>cH x none none
  | [l],[]=>(match l.d with|.int l=>R.iff (aF l) (cH x (some l) none)|_=>.bad)
  | [],[h]=>(match h.d with|.int h=>R.iff (aF h) (cH x none (some h))|_=>.bad)
  | [l],[h]=>(match l.d,h.d with|.int l,.int h=>R.iff (aF l&&aF h) (cH x (some l) (some h))|_,_=>.bad)
  | _,_=>.bad)) _ from h)
 refine wE.one S h λx u H1 hx t1 S1 r1=>?_
 have hx:=RE.bind' hx
 refine⟨S1,(hx.at r1.1).mono λl hl=>?_⟩
 have hl:=RE.bind' hl
 have up:∀(L:Option Int) (H2:Hp),Tk X.K H2->aG H1 H2->(RE (wx X σV H) (evs P (call P n) σ hi) λh=>(h=[]/\RE (wx X σV H) (cH x L none) (Wn X RT Y old σ σV H Q))\/∃v i,h=[v]/\v.d=.int i/\RE (wx X σV H) (cH x L (some i)) (Wn X RT Y old σ σV H Q)) ->
  wO X P n RT Y old σ hi σV H2 λhv H3=>wJ X.K u L hv H3 (λv H'=>Tk X.K H'->Q v H')\/wH X.K u L hv H3 (λv H'=>Tk X.K H'->Q v H')\/oK X.K u L hv H3 (λv H'=>Tk X.K H'->Q v H')\/xI u L hv H3 (λv H'=>Tk X.K H'->Q v H'):=by
  intro L H2 t2 s2 hh
  refine⟨S1.grow s2 t2,(hh.at (r1.1.trans s2)).mono λhv hq=>?_⟩
  have fin:∀(U:Option Int) (H3:Hp),Tk X.K H3->aG H2 H3->RE (wx X σV H) (cH x L U) (Wn X RT Y old σ σV H Q) ->
   wJ X.K u L U H3 (λv H'=>Tk X.K H'->Q v H')\/wH X.K u L U H3 (λv H'=>Tk X.K H'->Q v H')\/oK X.K u L U H3 (λv H'=>Tk X.K H'->Q v H')\/xI u L U H3 (λv H'=>Tk X.K H'->Q v H'):=λU H3 t3 s3 hs=>
   uL (S1.grow (s2.trans s3) t3) t3 ((r1.rv S).grow (s2.trans s3)) (hs.mono λv hv u H' t r=>hv u H' t (r.from (r1.1.trans (s2.trans s3))))
  rcases hq with⟨e,hs⟩|⟨v,i,e,hd,hs⟩
  . exact .inl ⟨e,λH3 t3 s3=>fin none H3 t3 s3 hs⟩
  . exact .inr ⟨v,i,e,hd,λH3 t3 s3=>fin (some i) H3 t3 s3 hs⟩
 match l,hl with
 | [],hl=>
  refine .inl ⟨rfl,λH2 t2 s2=>up none H2 t2 s2 (hl.mono λh hh=>?_)⟩
  match h,hh with
  | [],hh=>exact .inl ⟨rfl,hh⟩
  | [h],hh=>
   have hh:RE _ (match h.d with|.int h=>R.iff (aF h) (cH x none (some h))|_=>.bad) _:=hh
   split at hh
   . rename_i i hd
     exact .inr ⟨h,i,rfl,hd,hh.iff.2⟩
   . exact hh.elim
  | _::_::_,hh=>exact hh.elim
 | [l],hl=>
  have hd:∃i,l.d=.int i:=by
   obtain⟨h,_,hh⟩:=hl.eqc (calm_evs hcm)
   match h,hh with
   | [],hh=>
    have hh:RE _ (match l.d with|.int l=>R.iff (aF l) (cH x (some l) none)|_=>.bad) _:=hh
    split at hh
    . rename_i i hd;exact⟨i,hd⟩
    . exact hh.elim
   | [h],hh=>
    have hh:RE _ (match l.d,h.d with|.int l,.int h=>R.iff (aF l&&aF h) (cH x (some l) (some h))|_,_=>.bad) _:=hh
    split at hh
    . rename_i i j hd _;exact⟨i,hd⟩
    . exact hh.elim
   | _::_::_,hh=>exact hh.elim
  obtain⟨i,hd⟩:=hd
  refine .inr ⟨l,i,rfl,hd,λH2 t2 s2=>up (some i) H2 t2 s2 (hl.mono λh hh=>?_)⟩
  match h,hh with
  | [],hh=>
   have hh:RE _ (match l.d with|.int l=>R.iff (aF l) (cH x (some l) none)|_=>.bad) _:=hh
   rw[hd] at hh
   exact .inl ⟨rfl,hh.iff.2⟩
  | [h],hh=>
   have hh:RE _ (match l.d,h.d with|.int l,.int h=>R.iff (aF l&&aF h) (cH x (some l) (some h))|_,_=>.bad) _:=hh
   rw[hd] at hh
   split at hh
   . rename_i i' j e1 e2
     cases e1
     exact .inr ⟨h,j,rfl,e2,hh.iff.2⟩
   . exact hh.elim
  | _::_::_,hh=>exact hh.elim
 | _::_::_,hl=>exact(by
     obtain⟨h,_,hh⟩:=hl.eqc (calm_evs hcm)
     match h,hh with
     | [],hh=>exact hh.elim
     | [_],hh=>exact hh.elim
     | _::_::_,hh=>exact hh.elim)
end
end Hp
end
noncomputable section
namespace L2
open PySem PySem.Spec PyProof.Rows
set_option maxRecDepth 100000
instance:LawfulBEq Key where
 eq_of_beq:=λ{a b} h=>by
  cases a with
  | inl x=>cases b with
   | inl y=>exact congrArg Sum.inl (eq_of_beq (show(x==y)=true from h))
   | inr y=>cases h
  | inr x=>cases b with
   | inl y=>cases h
   | inr y=>exact congrArg Sum.inr (eq_of_beq (show(x==y)=true from h))
 rfl:=λ{a}=>by
  cases a with
  | inl x=>exact(beq_self_eq_true x:(x==x)=true)
  | inr x=>exact(beq_self_eq_true x:(x==x)=true)
def aDB(prog:Program)(w:World)(vs:List Value)(ks:List Key):Prop:=Paired (λv k=>(cA prog w).is k v=true) vs ks
theorem aDB.get{prog:Program}{w:World}:∀{vs:List Value} {ks:List Key},aDB prog w vs ks->∀{i:Nat} {v:Value},vs[i]? = some v->∃k,ks[i]? = some k/\(cA prog w).is k v=true
 | _,_,.nil,_,_,h=>by simp at h
 | _,_,.cons r _,0,_,h=>by simp at h;subst h;exact⟨_,rfl,r⟩
 | _,_,.cons _ t,i+1,v,h=>by
  obtain⟨k,h1,h2⟩:=aDB.get t (i:=i) (v:=v) (by simpa using h)
  exact⟨k,by simpa using h1,h2⟩
section
variable {prog:Program} {w:World} {A:Around} {R:Result->Shared->Prop} {I:Addr} {fp wr:List Addr} {G:Array GenState->Array GenState->Prop} {n:Nat} {P:Nat->Value->Prop} {St:Nat->Shared->Prop}
end
section
variable {prog:Program} {w:World} {A:Around} {E:Value->Shared->Prop} {s:Shared}
end
end L2
end
noncomputable section
namespace Hp
open PySem PySem.Spec PyProof.Rows L2
section
variable {X:Cx} {P:Pg} {Γ:Ct} {n:Nat} {RT Y old:Addr->Prop} {σ:Sg} {pos:Pos} {K:Fg} {H:Hp}
end
end Hp
end
noncomputable section
namespace L2
open PySem PySem.Spec PyProof.Rows
section
variable {X:Cx} {pins:List (Addr×Obj)} {σ:St} {H:Hp} {s:Shared} {h':Heap}
theorem Inv.turnsNew{its:List Addr}{T:Addr}{o:HO}{t':Nat}(I:Inv X pins σ H s)(f:∀b∈its,fU X pins H b)(k:∀b o,b∉its->s.heap.get? b=some o->h'.get? b=some o)(there:∀b∈its,∃o,h'.get? b=some o)
 (hT:s.heap.objs.size<=T) (new:bW X.prog X.w (upd H T o) h' T o):Inv X pins σ (upd H T o) { s with heap:=h',toks:=t' }:=by
 have nit:∀b u,H b=some u->b∉its:=λb u e z=>by rw[(f b z).1] at e;cases e
 have hn:H T=none:=I.hok.fresh hT
 have neT:∀b o,s.heap.get? b=some o->b≠T:=λb o e=>Nat.ne_of_lt (Nat.lt_of_lt_of_le (Heap.lt_size e) hT)
 refine I.step (g':=s.gens) (d':=s.drawn) (ch:=its) (λb hb=>?_) (λb o _ _ hc e _=>k b o hc e) (λb o _ _ hc e _=>⟨o.slots,k b o hc e⟩) (λb o _ e n=>by rw[aE (neT b o e)];exact n)
  (λb o hc e=>⟨o,k b o hc e⟩) (λb xs e=>by rw[aE (aO e hn)];exact e) (λb o u e=>by rw[aE (aO e hn)];exact e) (λb ps e=>⟨#[],by rw[aE (aO e hn),e];simp⟩) (λm hm=>?_) (λb u e=>?_) I.bare
 . obtain⟨_,f1,f2,f3,f4,f5⟩:=f b hb
   exact⟨f3,f1,f4,f5⟩
 . obtain⟨o,es,ep,ho,r⟩:=hm
   exact⟨o,es,ep,k _ o (λz=>(f _ z).2.1 rfl) ho,r⟩
 . by_cases hb:b=T
   . subst hb
     rw[aV] at e
     cases e
     exact new
   . rw[aE hb] at e
     refine(I.hok b u e).stay (λc v hc q=>k c v ?_ q) (λc q=>by rw[aE (aO q hn)];exact q) λc xs q=>by rw[aE (aO q hn)];exact q
     rcases hc with z|z
     . rw[z];exact nit b u e
     . exact nit c _ z
theorem Inv.turns{its:List Addr}{t':Nat}(I:Inv X pins σ H s)(f:∀b∈its,fU X pins H b)(k:∀b o,b∉its->s.heap.get? b=some o->h'.get? b=some o):Inv X pins σ H { s with heap:=h',toks:=t' }:=by
 have nit:∀b u,H b=some u->b∉its:=λb u e z=>by rw[(f b z).1] at e;cases e
 refine I.step (g':=s.gens) (d':=s.drawn) (ch:=its) (λb hb=>?_) (λb o _ _ hc e _=>k b o hc e) (λb o _ _ hc e _=>⟨o.slots,k b o hc e⟩) (λb o _ e n=>n)
  (λb o hc e=>⟨o,k b o hc e⟩) (λb xs e=>e) (λb o u e=>e) (λb ps e=>⟨#[],by rw[e];simp⟩) (λm hm=>?_) (λb u e=>?_) I.bare
 . obtain⟨_,f1,f2,f3,f4,f5⟩:=f b hb
   exact⟨f3,f1,f4,f5⟩
 . obtain⟨o,es,ep,ho,r⟩:=hm
   exact⟨o,es,ep,k _ o (λz=>(f _ z).2.1 rfl) ho,r⟩
 . refine(I.hok b u e).stay (λc v hc q=>k c v ?_ q) (λc q=>q) λc xs q=>q
   rcases hc with z|z
   . rw[z];exact nit b u e
   . exact nit c _ z
theorem Inv.newK(I:Inv X pins σ H s):X.K.lookup s.heap.objs.size=none:=by
 cases q:X.K.lookup s.heap.objs.size with
 | none=>rfl
 | some o=>exact absurd (Heap.lt_size (I.bk _ o (I.ok.mod.kin _ o q))) (Nat.lt_irrefl _)
def Sq(k:Bool)(K:PySem.W.Frag)(H:Hp)(a:Addr)(xs:List V):Prop:=match k with
 | true=>SqL K H a xs
 | false=>SqT K H a xs
def cP(k:Bool)(h:Heap)(a:Addr)(its:Array Value):Prop:=match k with
 | true=>h.IsList a its
 | false=>h.IsTuple a its
def bX(k:Bool)(h:Heap)(it a:Addr)(i:Nat):Prop:=match k with
 | true=>h.IsListIter it a i
 | false=>h.IsTupleIter it a i
theorem cP.at{k:Bool}{h:Heap}{a:Addr}{its:Array Value}(q:cP k h a its)(e:∀o,h.get? a=some o->h'.get? a=some o):cP k h' a its:=by
 cases k with
 | true=>exact Heap.IsList.at q e
 | false=>exact Heap.IsTuple.at q e
theorem bX.at{k:Bool}{h:Heap}{a it:Addr}{i:Nat}(q:bX k h it a i)(e:∀o,h.get? it=some o->h'.get? it=some o):bX k h' it a i:=by
 cases k with
 | true=>exact Heap.IsListIter.at q e
 | false=>exact Heap.IsTupleIter.at q e
theorem bX.obj{k:Bool}{h:Heap}{a it:Addr}{i:Nat}(q:bX k h it a i):∃o,h.get? it=some o/\∀v,o.data≠.cell v:=by
 cases k with
 | true=>obtain⟨o,e,c,d⟩:=q;exact⟨o,e,λv z=>by rw[d] at z;cases z⟩
 | false=>obtain⟨o,e,c,d⟩:=q;exact⟨o,e,λv z=>by rw[d] at z;cases z⟩
theorem Inv.sq{k:Bool}{a:Addr}{xs:List V}(I:Inv X pins σ H s)(h:Sq k X.K H a xs):∃its:List Value,aJ xs its/\cP k s.heap a its.toArray/\xs.length<=sizeLine:=by
 cases k with
 | true=>obtain⟨its,r,p,z⟩:=I.list h;exact⟨its,r,p.isList,z⟩
 | false=>obtain⟨its,r,p,z⟩:=I.tuple h;exact⟨its,r,p,z⟩
theorem Inv.sq_inj{k:Bool}{a:Addr}{xs ys:List V}(I:Inv X pins σ H s)(h:Sq k X.K H a xs)(h':Sq k X.K H a ys):xs=ys:=by
 cases k with
 | true=>exact I.list_inj h h'
 | false=>exact I.tuple_inj h h'
theorem Sq.there{k:Bool}{K:PySem.W.Frag}{a:Addr}{xs:List V}(h:Sq k K H a xs):H a≠none\/∃o,K.lookup a=some o:=by
 cases k with
 | true=>
  rcases h with(h|⟨o,h⟩)|⟨o,its,n,q,_⟩
  . exact .inl (by rw[h];simp)
  . exact .inl (by rw[h];simp)
  . exact .inr ⟨_,q⟩
 | false=>
  rcases h with(h|⟨o,h⟩)|⟨o,its,n,q,_⟩
  . exact .inl (by rw[h];simp)
  . exact .inl (by rw[h];simp)
  . exact .inr ⟨_,q⟩
theorem Inv.sqNe{k:Bool}{a b:Addr}{xs:List V}(I:Inv X pins σ H s)(h:Sq k X.K H a xs)(f:fU X pins H b):a≠b:=by
 intro e
 subst e
 rcases h.there with z|⟨o,z⟩
 . exact z f.1
 . have hb:=I.ok.mod.kin a o z
   rcases f.2.2.2.1 with q|q
   . exact I.ok.noex a o hb q
   . exact absurd (Nat.lt_of_lt_of_le (Heap.lt_size hb) (Nat.le_trans I.ok.bsz q)) (Nat.lt_irrefl _)
end
section
variable {prog:Program} {w:World} {A:Around} {E:Value->Shared->Prop} {s:Shared}
theorem gB{it l:Addr}{i:Nat}{items}{x:Value}{Q:Value->Shared->Prop}(hit:s.heap.IsTupleIter it l i)
 (hl:s.heap.IsTuple l items) (hx:items[i]? = some x)
 (hQ:∀h',h'.IsTupleIter it l (i+1)->Heap.SameBut it s.heap h'->Q x { s with heap:=h' }) :
 wpAny (model prog w) A (Builtin.SmallTypes.nextOf (.ref it)) Q E s:=by
 obtain⟨o,ho,hc,hd⟩:=id hit
 obtain⟨ol,hol,_,nl,hdl⟩:=hl
 unfold Builtin.SmallTypes.nextOf
 refine wpAny_bind (wpAny_callSpecial?_slot (name:=Str.ofString "__next__") hit.typeIs F.slot_tuple_iterator_next
  (wpAny_call_entry F.slot_tuple_iterator_next hit.typeIs F.entry_tuple_iterator_next ?_ (F.args_tuple_iterator_next_1 _)))
 show wpAny _ _ (field (.ref it) 0 >>= _) _ _ s
 refine wpAny_bind (wpAny_field ho hd (x:=.ref l) rfl ?_)
 show wpAny _ _ (if (Value.ref l==Value.none)=true then _ else _) _ _ s
 rw[if_neg (show ¬ ((Value.ref l==Value.none)=true) from bN)]
 show wpAny _ _ (field (.ref it) 1 >>= _) _ _ s
 refine wpAny_bind (wpAny_field ho hd (x:=.int i 0) rfl ?_)
 show wpAny _ _ (seqItems? (.ref l) >>= _) _ _ s
 refine wpAny_bind (wpAny_seqItems hol hdl ?_)
 simp only[Int.toNat_natCast,hx]
 refine wpAny_bind (wpAny_setField ho hd (by simp) (wpAny_pure ⟨x,rfl,wpAny_pure (hQ _ ?_ (Heap.SameBut.update ..))⟩))
 exact⟨_,Heap.get?_update_self _ ho (Obj.isFreed_of_fields (Obj.data_mapFields hd _)),(Obj.cls_mapFields ..).trans hc,by
  rw[Obj.data_mapFields hd];simp[rawInt]⟩
theorem gY{it l:Addr}{i:Nat}{items}{Q:Value->Shared->Prop}(hh:A.handled=none)
 (hit:s.heap.IsTupleIter it l i) (hl:s.heap.IsTuple l items) (hx:items[i]? = none)
 (hE:∀h' e,Heap.ExtBut it s.heap h'->(∃o,h'.get? e=some o/\o.cls=.type "StopIteration")->E (.ref e) { s with heap:=h' }) :
 wpAny (model prog w) A (Builtin.SmallTypes.nextOf (.ref it)) Q E s:=by
 obtain⟨o,ho,hc,hd⟩:=id hit
 obtain⟨ol,hol,_,nl,hdl⟩:=hl
 unfold Builtin.SmallTypes.nextOf
 refine wpAny_bind (wpAny_callSpecial?_slot (name:=Str.ofString "__next__") hit.typeIs F.slot_tuple_iterator_next
  (wpAny_call_entry F.slot_tuple_iterator_next hit.typeIs F.entry_tuple_iterator_next ?_ (F.args_tuple_iterator_next_1 _)))
 show wpAny _ _ (field (.ref it) 0 >>= _) _ _ s
 refine wpAny_bind (wpAny_field ho hd (x:=.ref l) rfl ?_)
 show wpAny _ _ (if (Value.ref l==Value.none)=true then _ else _) _ _ s
 rw[if_neg (show ¬ ((Value.ref l==Value.none)=true) from bN)]
 show wpAny _ _ (field (.ref it) 1 >>= _) _ _ s
 refine wpAny_bind (wpAny_field ho hd (x:=.int i 0) rfl ?_)
 show wpAny _ _ (seqItems? (.ref l) >>= _) _ _ s
 refine wpAny_bind (wpAny_seqItems hol hdl ?_)
 simp only[Int.toNat_natCast,hx]
 refine wpAny_bind (wpAny_rule (wpAny_bind (wpAny_setField ho hd (by simp) ?_)))
 show wpAny _ _ (newExc (.type "StopIteration") [] >>= _) _ _ _
 refine wpAny_bind ?_
 simp only[newExc,newTuple]
 refine wpAny_bind (wpAny_newObj_type ?_ (by size_fits))
 refine wpAny_bind (m:=firstArgMember _ _) (wpAny_of_eq (a:=Value.none) (by first|rfl|(simp only[firstArgMember];rfl)) ?_)
 refine wpAny_newObj_type ?_ (by size_fits)
 simp only[raiseNew]
 refine wpAny_bind (wpAny_handled ?_)
 first|rw[show A.in1.handled=none from hh]|rw[hh]
 refine wpAny_bind (wpAny_pure (wpAny_throw ?_))
 exact hE _ _ (((Heap.SameBut.update ..).extBut.push _).push _) ⟨_,Heap.get?_push_size _ rfl,rfl⟩
theorem eP{k:Bool}{it l:Addr}{i:Nat}{items:Array Value}{x:Value}{Q:Value->Shared->Prop}(hit:bX k s.heap it l i)(hl:cP k s.heap l items)(hx:items[i]? = some x)
 (hQ:∀h',bX k h' it l (i+1)->Heap.SameBut it s.heap h'->Q x { s with heap:=h' }):wpAny (model prog w) A (Builtin.SmallTypes.nextOf (.ref it)) Q E s:=by
 cases k with
 | true=>exact wpAny_nextOf_list_item hit hl hx hQ
 | false=>exact gB hit hl hx hQ
theorem jU{k:Bool}{it l:Addr}{i:Nat}{items:Array Value}{Q:Value->Shared->Prop}(hh:A.handled=none)(hit:bX k s.heap it l i)(hl:cP k s.heap l items)(hx:items[i]? = none)
 (hE:∀h' e,Heap.ExtBut it s.heap h'->(∃o,h'.get? e=some o/\o.cls=.type "StopIteration")->E (.ref e) { s with heap:=h' }):wpAny (model prog w) A (Builtin.SmallTypes.nextOf (.ref it)) Q E s:=by
 cases k with
 | true=>exact wpAny_nextOf_list_end hh hit hl hx hE
 | false=>exact gY hh hit hl hx hE
theorem uP{ka kb:Bool}{z TI TO i1 i2 l1 l2:Addr}{k1 k2:Nat}{xs ys:Array Value}{x y a b:Value}{Q:Value->Shared->Prop}(D:ZipApart z TI TO i1 i2 l1 l2)
 (hz:IsZip s.heap z TI TO .none) (hTI:IsPair s.heap TI (.ref i1) (.ref i2)) (hTO:IsPair s.heap TO a b)
 (h1:bX ka s.heap i1 l1 k1) (h2:bX kb s.heap i2 l2 k2) (hl1:cP ka s.heap l1 xs) (hl2:cP kb s.heap l2 ys) (hx:xs[k1]? = some x) (hy:ys[k2]? = some y)
 (hQ:∀h',IsZip h' z TI TO (rawInt s.heap.objs.size)->IsPair h' TO x y->bX ka h' i1 l1 (k1+1)->bX kb h' i2 l2 (k2+1)->IsPair h' s.heap.objs.size x y->h'.objs.size=s.heap.objs.size+1 ->
  (∀c o,c≠z->c≠TO->c≠i1->c≠i2->s.heap.get? c=some o->h'.get? c=some o)->Q (.ref s.heap.objs.size) { s with heap:=h' }) :
 wpAny (model prog w) A (Builtin.«zip.__next__» ⟨[.ref z],[]⟩) (λfin s'=>∃v,fin=.done (.ret v)/\Q v s') E s:=by
 show wpAny _ _ (field (.ref z) 2 >>= _) _ _ _
 refine wpAny_bind (wpAny_field hz rfl (x:=.bool false) rfl ?_)
 show wpAny _ _ (field (.ref z) 3 >>= _) _ _ _
 refine wpAny_bind (wpAny_field hz rfl (x:=.ref TI) rfl ?_)
 refine wpAny_bind (wpAny_seqItems hTI rfl ?_)
 show wpAny _ _ (Builtin.SmallTypes.ownedTupleIsFree (.ref z) >>= _) _ _ _
 refine wpAny_bind ?_
 unfold Builtin.SmallTypes.ownedTupleIsFree
 refine wpAny_bind (wpAny_field hz rfl (x:=.none) rfl (wpAny_pure ?_))
 simp only[if_true]
 refine wpAny_bind (wpAny_rule ?_)
 refine wpAny_bind (wpAny_field hz rfl (x:=.ref TO) rfl ?_)
 refine wpAny_bind (wpAny_setField_rec hz (by simp) λh₁ hz₁ hs₁=>?_)
 replace hz₁:IsZip h₁ z TI TO .ellipsis:=hz₁
 refine wpAny_bind ?_
 simp only[List.zipIdx_cons,List.zipIdx_nil,List.forIn_cons,List.forIn_nil]
 refine wpAny_bind (wpAny_bind (wpAny_onRaise ?_))
 show wpAny _ _ (Builtin.SmallTypes.nextOf (.ref i1) >>= _) _ _ _
 refine wpAny_bind (eP (h1.at λo e=>hs₁.extBut _ _ D.i1z e) (hl1.at λo e=>hs₁.extBut _ _ D.l1z e) hx λh₂ h1₂ hs₂=>wpAny_pure ?_)
 have hTO₂:IsPair h₂ TO a b:=hs₂.extBut _ _ D.TOi1 (hs₁.extBut _ _ D.TOz hTO)
 refine wpAny_bind (wpAny_seqItems hTO₂ rfl ?_)
 refine wpAny_bind (wpAny_updateSeq_pair hTO₂ λh₃ hTO₃ hs₃=>?_)
 replace hTO₃:IsPair h₃ TO x b:=hTO₃
 refine wpAny_bind (wpAny_letGo (wpAny_pure ?_))
 refine wpAny_bind (wpAny_bind (wpAny_onRaise ?_))
 show wpAny _ _ (Builtin.SmallTypes.nextOf (.ref i2) >>= _) _ _ _
 refine wpAny_bind (eP (h2.at λo e=>hs₃.extBut _ _ D.TOi2.symm (hs₂.extBut _ _ D.i12.symm (hs₁.extBut _ _ D.i2z e)))
  (hl2.at λo e=>hs₃.extBut _ _ D.l2TO (hs₂.extBut _ _ D.l2i1 (hs₁.extBut _ _ D.l2z e))) hy λh₄ h2₄ hs₄=>wpAny_pure ?_)
 have hTO₄:IsPair h₄ TO x b:=hs₄.extBut _ _ D.TOi2 hTO₃
 refine wpAny_bind (wpAny_seqItems hTO₄ rfl ?_)
 refine wpAny_bind (wpAny_updateSeq_pair hTO₄ λh₅ hTO₅ hs₅=>?_)
 replace hTO₅:IsPair h₅ TO x y:=hTO₅
 refine wpAny_bind (wpAny_letGo (wpAny_pure (wpAny_pure ?_)))
 refine wpAny_bind (wpAny_seqItems hTO₅ rfl ?_)
 refine wpAny_bind (wpAny_newTuple ?_)
 have hsz:h₅.objs.size=s.heap.objs.size:=by rw[hs₅.1,hs₄.1,hs₃.1,hs₂.1,hs₁.1]
 have hz₅:IsZip h₅ z TI TO .ellipsis:=hs₅.extBut _ _ D.TOz.symm (hs₄.extBut _ _ D.i2z.symm (hs₃.extBut _ _ D.TOz.symm (hs₂.extBut _ _ D.i1z.symm hz₁)))
 have hk₅:∀c o,c≠z->c≠TO->c≠i1->c≠i2->s.heap.get? c=some o->h₅.get? c=some o:=λc o c1 c2 c3 c4 e=>
  hs₅.extBut _ _ c2 (hs₄.extBut _ _ c4 (hs₃.extBut _ _ c2 (hs₂.extBut _ _ c3 (hs₁.extBut _ _ c1 e))))
 have h1₅:bX ka h₅ i1 l1 (k1+1):=h1₂.at λo e=>hs₅.extBut _ _ D.TOi1.symm (hs₄.extBut _ _ D.i12 (hs₃.extBut _ _ D.TOi1.symm e))
 have h2₅:bX kb h₅ i2 l2 (k2+1):=h2₄.at λo e=>hs₅.extBut _ _ D.TOi2.symm e
 have hzlt:z<h₅.objs.size:=Heap.lt_size hz₅
 have hTOlt:TO<h₅.objs.size:=Heap.lt_size hTO₅
 show wpAny _ _ (Builtin.SmallTypes.ownedTupleHandOut (.ref z) (.ref h₅.objs.size) >>= _) _ _ _
 refine wpAny_bind ?_
 unfold Builtin.SmallTypes.ownedTupleHandOut
 have hz₆:IsZip (h₅.push { cls:=.type "tuple",data:=.seq #[x,y] }) z TI TO .ellipsis:=Heap.get?_push_of_some _ hz₅
 refine wpAny_bind (wpAny_setField_rec hz₆ (by simp) λh₇ hz₇ hs₇=>?_)
 replace hz₇:IsZip h₇ z TI TO (rawInt h₅.objs.size):=hz₇
 refine wpAny_setField_rec hz₇ (by simp) λh₈ hz₈ hs₈=>?_
 replace hz₈:IsZip h₈ z TI TO (rawInt h₅.objs.size):=hz₈
 have up:∀c o,c≠z->h₅.get? c=some o->h₈.get? c=some o:=λc o c1 e=>hs₈.extBut _ _ c1 (hs₇.extBut _ _ c1 (Heap.get?_push_of_some _ e))
 have hT₈:IsPair h₈ h₅.objs.size x y:=hs₈.extBut _ _ (Nat.ne_of_gt hzlt) (hs₇.extBut _ _ (Nat.ne_of_gt hzlt) (Heap.get?_push_size _ rfl))
 have hz8:h₈.objs.size=h₅.objs.size+1:=by rw[hs₈.1,hs₇.1,Heap.size_push]
 rw[hsz] at hz₈ hT₈ hz8
 refine wpAny_pure ⟨_,rfl,?_⟩
 show Q (.ref h₅.objs.size) _
 rw[hsz]
 exact hQ h₈ hz₈ (up _ _ D.TOz hTO₅) (h1₅.at λo e=>up _ o D.i1z e) (h2₅.at λo e=>up _ o D.i2z e) hT₈ hz8 λc o c1 c2 c3 c4 e=>up c o c1 (hk₅ c o c1 c2 c3 c4 e)
theorem yF{ka kb:Bool}{z TI TO i1 i2 l1 l2:Addr}{k1 k2:Nat}{xs ys:Array Value}{a b:Value}{Q:Fin->Shared->Prop}(hh:A.handled=none)(D:ZipApart z TI TO i1 i2 l1 l2)
 (hz:IsZip s.heap z TI TO .none) (hTI:IsPair s.heap TI (.ref i1) (.ref i2)) (hTO:IsPair s.heap TO a b)
 (h1:bX ka s.heap i1 l1 k1) (h2:bX kb s.heap i2 l2 k2) (hl1:cP ka s.heap l1 xs) (hl2:cP kb s.heap l2 ys) (hend:xs[k1]? = none\/ys[k2]? = none)
 (hE:∀h' e,(∀c o,c≠z->c≠TO->c≠i1->c≠i2->s.heap.get? c=some o->h'.get? c=some o)->(∃o,h'.get? e=some o/\o.cls=.type "StopIteration")->E (.ref e) { s with heap:=h' }) :
 wpAny (model prog w) A (Builtin.«zip.__next__» ⟨[.ref z],[]⟩) Q E s:=by
 show wpAny _ _ (field (.ref z) 2 >>= _) _ _ _
 refine wpAny_bind (wpAny_field hz rfl (x:=.bool false) rfl ?_)
 show wpAny _ _ (field (.ref z) 3 >>= _) _ _ _
 refine wpAny_bind (wpAny_field hz rfl (x:=.ref TI) rfl ?_)
 refine wpAny_bind (wpAny_seqItems hTI rfl ?_)
 show wpAny _ _ (Builtin.SmallTypes.ownedTupleIsFree (.ref z) >>= _) _ _ _
 refine wpAny_bind ?_
 unfold Builtin.SmallTypes.ownedTupleIsFree
 refine wpAny_bind (wpAny_field hz rfl (x:=.none) rfl (wpAny_pure ?_))
 simp only[if_true]
 refine wpAny_bind (wpAny_rule ?_)
 refine wpAny_bind (wpAny_field hz rfl (x:=.ref TO) rfl ?_)
 refine wpAny_bind (wpAny_setField_rec hz (by simp) λh₁ hz₁ hs₁=>?_)
 replace hz₁:IsZip h₁ z TI TO .ellipsis:=hz₁
 refine wpAny_bind ?_
 simp only[List.zipIdx_cons,List.zipIdx_nil,List.forIn_cons,List.forIn_nil]
 refine wpAny_bind (wpAny_bind (wpAny_onRaise ?_))
 show wpAny _ _ (Builtin.SmallTypes.nextOf (.ref i1) >>= _) _ _ _
 cases hx:xs[k1]? with
 | none=>
  refine wpAny_bind (jU hh (h1.at λo e=>hs₁.extBut _ _ D.i1z e) (hl1.at λo e=>hs₁.extBut _ _ D.l1z e) hx λh₂ e hs₂ he=>?_)
  obtain⟨oe,hoe,hce⟩:=he
  have hz₂:IsZip h₂ z TI TO .ellipsis:=hs₂ _ _ D.i1z.symm hz₁
  have hez:e≠z:=λx=>by subst x;rw[hz₂] at hoe;cases hoe;simp at hce
  refine wpAny_setField_rec hz₂ (by simp) λh₃ _ hs₃=>hE h₃ e (λc o c1 _ c3 _ x=>hs₃.extBut _ _ c1 (hs₂ _ _ c3 (hs₁.extBut _ _ c1 x))) ⟨oe,hs₃.extBut _ _ hez hoe,hce⟩
 | some x=>
  have hy:ys[k2]? = none:=by rcases hend with h|h;rw[hx] at h;cases h;exact h
  refine wpAny_bind (eP (h1.at λo e=>hs₁.extBut _ _ D.i1z e) (hl1.at λo e=>hs₁.extBut _ _ D.l1z e) hx λh₂ h1₂ hs₂=>wpAny_pure ?_)
  have hTO₂:IsPair h₂ TO a b:=hs₂.extBut _ _ D.TOi1 (hs₁.extBut _ _ D.TOz hTO)
  refine wpAny_bind (wpAny_seqItems hTO₂ rfl ?_)
  refine wpAny_bind (wpAny_updateSeq_pair hTO₂ λh₃ hTO₃ hs₃=>?_)
  refine wpAny_bind (wpAny_letGo (wpAny_pure ?_))
  refine wpAny_bind (wpAny_bind (wpAny_onRaise ?_))
  show wpAny _ _ (Builtin.SmallTypes.nextOf (.ref i2) >>= _) _ _ _
  refine wpAny_bind (jU hh (h2.at λo e=>hs₃.extBut _ _ D.TOi2.symm (hs₂.extBut _ _ D.i12.symm (hs₁.extBut _ _ D.i2z e)))
   (hl2.at λo e=>hs₃.extBut _ _ D.l2TO (hs₂.extBut _ _ D.l2i1 (hs₁.extBut _ _ D.l2z e))) hy λh₄ e hs₄ he=>?_)
  obtain⟨oe,hoe,hce⟩:=he
  have hz₄:IsZip h₄ z TI TO .ellipsis:=hs₄ _ _ D.i2z.symm (hs₃.extBut _ _ D.TOz.symm (hs₂.extBut _ _ D.i1z.symm hz₁))
  have hez:e≠z:=λx=>by subst x;rw[hz₄] at hoe;cases hoe;simp at hce
  refine wpAny_setField_rec hz₄ (by simp) λh₅ _ hs₅=>hE h₅ e (λc o c1 c2 c3 c4 x=>hs₅.extBut _ _ c1 (hs₄ _ _ c4 (hs₃.extBut _ _ c2 (hs₂.extBut _ _ c3 (hs₁.extBut _ _ c1 x))))) ⟨oe,hs₅.extBut _ _ hez hoe,hce⟩
theorem iU{ka kb:Bool}{z TI TO i1 i2 l1 l2:Addr}{k1 k2:Nat}{xs ys:Array Value}{x y a b:Value}{Q:Option Value->Shared->Prop}(D:ZipApart z TI TO i1 i2 l1 l2)
 (hz:IsZip s.heap z TI TO .none) (hTI:IsPair s.heap TI (.ref i1) (.ref i2)) (hTO:IsPair s.heap TO a b)
 (h1:bX ka s.heap i1 l1 k1) (h2:bX kb s.heap i2 l2 k2) (hl1:cP ka s.heap l1 xs) (hl2:cP kb s.heap l2 ys) (hx:xs[k1]? = some x) (hy:ys[k2]? = some y)
 (hQ:∀h',IsZip h' z TI TO (rawInt s.heap.objs.size)->IsPair h' TO x y->bX ka h' i1 l1 (k1+1)->bX kb h' i2 l2 (k2+1)->IsPair h' s.heap.objs.size x y->h'.objs.size=s.heap.objs.size+1 ->
  (∀c o,c≠z->c≠TO->c≠i1->c≠i2->s.heap.get? c=some o->h'.get? c=some o)->Q (some (.ref s.heap.objs.size)) { s with heap:=h' }) :
 wpAny (model prog w) A (pyNext (.ref z)) Q E s:=by
 have hT:s.TypeIs (.ref z) "zip" := ⟨_,hz,rfl⟩
 unfold pyNext
 exact wpAny_bind (wpAny_attempt (wpAny_callSpecial?_slot (name:=Str.ofString "__next__") hT F.slot_zip_next
  (wpAny_call_entry F.slot_zip_next hT F.entry_zip_next
   (uP D hz hTI hTO h1 h2 hl1 hl2 hx hy λh' a1 a2 a3 a4 a5 a6 a7=>wpAny_pure (hQ h' a1 a2 a3 a4 a5 a6 a7)) (F.args_zip_next_1 _))))
theorem jV{ka kb:Bool}{z TI TO i1 i2 l1 l2:Addr}{k1 k2:Nat}{xs ys:Array Value}{a b:Value}{Q:Option Value->Shared->Prop}(hh:A.handled=none)(D:ZipApart z TI TO i1 i2 l1 l2)
 (hz:IsZip s.heap z TI TO .none) (hTI:IsPair s.heap TI (.ref i1) (.ref i2)) (hTO:IsPair s.heap TO a b)
 (h1:bX ka s.heap i1 l1 k1) (h2:bX kb s.heap i2 l2 k2) (hl1:cP ka s.heap l1 xs) (hl2:cP kb s.heap l2 ys) (hend:xs[k1]? = none\/ys[k2]? = none)
 (hQ:∀h',(∀c o,c≠z->c≠TO->c≠i1->c≠i2->s.heap.get? c=some o->h'.get? c=some o)->Q none { s with heap:=h' }):wpAny (model prog w) A (pyNext (.ref z)) Q E s:=by
 have hT:s.TypeIs (.ref z) "zip" := ⟨_,hz,rfl⟩
 unfold pyNext
 refine wpAny_bind (wpAny_attempt (wpAny_callSpecial?_slot (name:=Str.ofString "__next__") hT F.slot_zip_next
  (wpAny_call_entry F.slot_zip_next hT F.entry_zip_next (yF hh D hz hTI hTO h1 h2 hl1 hl2 hend λh' e hk he=>?_) (F.args_zip_next_1 _))))
 obtain⟨o,ho,hc⟩:=he
 refine wpAny_bind (wpAny_isInstance (T:= "StopIteration") (b:=true) ⟨o,ho,hc⟩ isSubtype_stop ?_)
 exact wpAny_pure (hQ _ hk)
end
def lI(k:Bool)(l:Addr):Obj:=match k with
 | true=>{ cls:=.type "list_iterator",data:=.fields #[.ref l,.int 0 0] }
 | false=>{ cls:=.type "tuple_iterator",data:=.fields #[.ref l,.int 0 0] }
abbrev zH1(k:Bool)(h:Heap)(l1:Addr):Heap:=h.push (lI k l1)
abbrev zH2(ka kb:Bool)(h:Heap)(l1 l2:Addr):Heap:=(zH1 ka h l1).push (lI kb l2)
abbrev zH3(ka kb:Bool)(h:Heap)(l1 l2:Addr):Heap:=(zH2 ka kb h l1 l2).push { cls:=.type "tuple",data:=.seq #[.ref h.objs.size,.ref (zH1 ka h l1).objs.size] }
abbrev zH4(ka kb:Bool)(h:Heap)(l1 l2:Addr):Heap:=(zH3 ka kb h l1 l2).push { cls:=.type "tuple",data:=.seq #[.none,.none] }
abbrev zH5(ka kb:Bool)(h:Heap)(l1 l2:Addr):Heap:=(zH4 ka kb h l1 l2).push { cls:=.type "zip",data:=.fields #[.none,.bool false,.bool false,.ref (zH2 ka kb h l1 l2).objs.size,.ref (zH3 ka kb h l1 l2).objs.size] }
theorem lJ{prog:Program}{w:World}{A:Around}{E:Value->Shared->Prop}{s:Shared}{k:Bool}{l:Addr}{items:Array Value}{Q:Value->Shared->Prop}(hl:cP k s.heap l items)
 (hQ:Q (.ref s.heap.objs.size) { s with heap:=s.heap.push (lI k l) }):wpAny (model prog w) A (pyIter (.ref l)) Q E s:=by
 cases k with
 | true=>exact wpAny_pyIter_list hl hQ
 | false=>exact wpAny_pyIter_tuple hl hQ
theorem qU(ka kb:Bool)(l1 l2:Addr)(xs ys:Array Value) :
 Meets (Builtin.«zip.__new__» ⟨[.type "zip",.ref l1,.ref l2],[]⟩) (λ_ R s=>cP ka s.heap l1 xs/\cP kb s.heap l2 ys /\
  R (.ok (.ret (.ref (zH4 ka kb s.heap l1 l2).objs.size))) { s with heap:=zH5 ka kb s.heap l1 l2 }):=
 .of_wp λprog w A R s h=>by
  obtain⟨hp,g,d,tk,os⟩:=s;obtain⟨hl1,hl2,h⟩:=h
  have hsub:=sub_zip
  have hL1:cP ka (Shared.heap ⟨hp,g,d,tk,os⟩) l1 xs:=hl1
  have hL2:cP kb (Shared.heap ⟨hp.push (lI ka l1),g,d,tk,os⟩) l2 ys:=hl2.at λo e=>Heap.get?_push_of_some _ e
  wp_walk using lJ hL1,lJ hL2
  exact⟨_,rfl,h⟩
theorem oU{k:Bool}{h:Heap}{it a:Addr}(e:h.get? it=some (lI k a)):bX k h it a 0:=by
 cases k with
 | true=>exact⟨_,e,rfl,rfl⟩
 | false=>exact⟨_,e,rfl,rfl⟩
theorem uQ{prog:Program}{w:World}{A:Around}{E:Value->Shared->Prop}{s:Shared}{ka kb:Bool}{l1 l2:Addr}{xs ys:Array Value}{Q:Value->Shared->Prop}(hl1:cP ka s.heap l1 xs)(hl2:cP kb s.heap l2 ys)
 (h:∀h',IsZip h' (s.heap.objs.size+4) (s.heap.objs.size+2) (s.heap.objs.size+3) .none->IsPair h' (s.heap.objs.size+2) (.ref s.heap.objs.size) (.ref (s.heap.objs.size+1)) ->
  IsPair h' (s.heap.objs.size+3) .none .none->bX ka h' s.heap.objs.size l1 0->bX kb h' (s.heap.objs.size+1) l2 0->h'.objs.size=s.heap.objs.size+5 ->
  (∀c o,s.heap.get? c=some o->h'.get? c=some o)->Q (.ref (s.heap.objs.size+4)) { s with heap:=h' }) :
 wpAny (model prog w) A (call (.type "zip") [.ref l1,.ref l2]) Q E s:=by
 refine callType_new F.called_zip (by decide) (F.typeCall_zip_2 _ _) (F.newCall_zip_2 _ _) (λobj=>F.args_object_init_3 obj _ _) F.entry_zip_new
  (qU ka kb l1 l2 xs ys) ⟨hl1,hl2,?_⟩
 have z1:(zH1 ka s.heap l1).objs.size=s.heap.objs.size+1:=Heap.size_push ..
 have z2:(zH2 ka kb s.heap l1 l2).objs.size=s.heap.objs.size+2:=by rw[Heap.size_push,z1]
 have z3:(zH3 ka kb s.heap l1 l2).objs.size=s.heap.objs.size+3:=by rw[Heap.size_push,z2]
 have z4:(zH4 ka kb s.heap l1 l2).objs.size=s.heap.objs.size+4:=by rw[Heap.size_push,z3]
 have z5:(zH5 ka kb s.heap l1 l2).objs.size=s.heap.objs.size+5:=by rw[Heap.size_push,z4]
 have nf:∀k l,(lI k l).isFreed=false:=by intro k l;cases k <;> rfl
 have g5:(zH5 ka kb s.heap l1 l2).get? (zH4 ka kb s.heap l1 l2).objs.size=some _:=Heap.get?_push_size _ rfl
 have g4:(zH5 ka kb s.heap l1 l2).get? (zH3 ka kb s.heap l1 l2).objs.size=some _:=Heap.get?_push_of_some _ (Heap.get?_push_size _ rfl)
 have g3:(zH5 ka kb s.heap l1 l2).get? (zH2 ka kb s.heap l1 l2).objs.size=some _:=Heap.get?_push_of_some _ (Heap.get?_push_of_some _ (Heap.get?_push_size _ rfl))
 have g2:(zH5 ka kb s.heap l1 l2).get? (zH1 ka s.heap l1).objs.size=some _:=Heap.get?_push_of_some _ (Heap.get?_push_of_some _ (Heap.get?_push_of_some _ (Heap.get?_push_size _ (nf _ _))))
 have g1:(zH5 ka kb s.heap l1 l2).get? s.heap.objs.size=some _:=Heap.get?_push_of_some _ (Heap.get?_push_of_some _ (Heap.get?_push_of_some _ (Heap.get?_push_of_some _ (Heap.get?_push_size _ (nf _ _)))))
 show _/\_
 rw[z2,z3,z4] at g5
 rw[z1,z2] at g3
 rw[z3] at g4
 rw[z1] at g2
 rw[z4]
 exact⟨⟨_,g5,rfl⟩,h _ g5 g3 g4 (oU g1) (oU g2) z5 λc o x=>
  Heap.get?_push_of_some _ (Heap.get?_push_of_some _ (Heap.get?_push_of_some _ (Heap.get?_push_of_some _ (Heap.get?_push_of_some _ x))))⟩
def Itz(K:PySem.W.Frag)(ka kb:Bool)(a b:Addr):It:=
 ⟨λi H=>∃xs ys x y,Sq ka K H a xs/\Sq kb K H b ys/\xs[i]? = some x/\ys[i]? = some y,
  λi H v H'=>∃p x y,v=.ref p/\H p=none/\K.lookup p=none/\H'=upd H p (.tup [x,y])/\∀xs ys,Sq ka K H a xs->Sq kb K H b ys->xs[i]? = some x/\ys[i]? = some y,
  λi H=>∃xs ys,Sq ka K H a xs/\Sq kb K H b ys/\(xs.length<=i\/ys.length<=i)⟩
structure aBg (z TI TO i1 i2:Addr):Prop where
 TIz:TI≠z
 TOz:TO≠z
 i1z:i1≠z
 i2z:i2≠z
 TITO:TI≠TO
 TIi1:TI≠i1
 TIi2:TI≠i2
 TOi1:TO≠i1
 TOi2:TO≠i2
 i12:i1≠i2
theorem aBg.apart{X:Cx}{pins:List (Addr×Obj)}{σ:St}{H:Hp}{s:Shared}{ka kb:Bool}{a b z TI TO i1 i2:Addr}{xs ys:List V}(F:aBg z TI TO i1 i2)(I:Inv X pins σ H s)(f:∀c∈[z,TI,TO,i1,i2],fU X pins H c)
 (ha:Sq ka X.K H a xs) (hb:Sq kb X.K H b ys):ZipApart z TI TO i1 i2 a b:=
 ⟨F.TIz,F.TOz,F.i1z,F.i2z,F.TITO,F.TIi1,F.TIi2,F.TOi1,F.TOi2,F.i12,I.sqNe ha (f z (by simp)),I.sqNe ha (f TO (by simp)),I.sqNe ha (f i1 (by simp)),I.sqNe ha (f i2 (by simp)),
  I.sqNe hb (f z (by simp)),I.sqNe hb (f TO (by simp)),I.sqNe hb (f i1 (by simp)),I.sqNe hb (f i2 (by simp))⟩
theorem yG{P:Program}{w:World}{K:PySem.W.Frag}{ka kb:Bool}{elts:List Expr}{tk:Nat}{tp:Pos}{z TI TO i1 i2 a b:Addr}(F:aBg z TI TO i1 i2) :
 pW P w K (.Tuple elts tk tp) (Itz K ka kb a b) [z,TI,TO,i1,i2] z (λi h=>IsZip h z TI TO .none/\IsPair h TI (.ref i1) (.ref i2)/\(∃u v,IsPair h TO u v)/\bX ka h i1 a i/\bX kb h i2 b i) where
 mem:=by simp
 obj:=λi h st c hc=>by
  obtain⟨hz,hTI,⟨u,v,hTO⟩,h1,h2⟩:=st
  have hc':c=z\/c=TI\/c=TO\/c=i1\/c=i2:=by simpa using hc
  rcases hc' with rfl|rfl|rfl|rfl|rfl
  . exact⟨_,hz,λv z=>by cases(show Data.fields _=Data.cell v from z)⟩
  . exact⟨_,hTI,λv z=>by cases(show Data.seq _ _=Data.cell v from z)⟩
  . exact⟨_,hTO,λv z=>by cases(show Data.seq _ _=Data.cell v from z)⟩
  . exact h1.obj
  . exact h2.obj
 keep:=λi h h' st k=>by
  obtain⟨hz,hTI,⟨u,v,hTO⟩,h1,h2⟩:=st
  exact⟨k z (by simp) _ hz,k TI (by simp) _ hTI,⟨u,v,k TO (by simp) _ hTO⟩,h1.at λo e=>k i1 (by simp) o e,h2.at λo e=>k i2 (by simp) o e⟩
 item:=by
  intro X hP hw hK hc i pins s σ H E I hf st hg
  subst hP hw hK
  obtain⟨hz,hTI,⟨u,v,hTO⟩,h1,h2⟩:=st
  obtain⟨xs,ys,x,y,ha,hb,hx,hy⟩:=hg
  obtain⟨as,ra,pa,_⟩:=I.sq ha
  obtain⟨bs,rb,pb,_⟩:=I.sq hb
  obtain⟨ux,hux,rx⟩:=ra.get hx
  obtain⟨uy,huy,ry⟩:=rb.get hy
  have D:=F.apart I hf ha hb
  refine iU D hz hTI hTO h1 h2 pa pb (x:=ux) (y:=uy) (by simpa using hux) (by simpa using huy) λh' a1 a2 a3 a4 a5 a6 hk=>?_
  refine⟨_,rfl,wpAny_letOwnedTupleGo_zip (s:={ s with heap:=h' }) a1 λh'' hz' hs'=>?_⟩
  have hTne:s.heap.objs.size≠z:=Nat.ne_of_gt (Heap.lt_size hz)
  have hk2:∀c o,c∉[z,TI,TO,i1,i2]->s.heap.get? c=some o->h''.get? c=some o:=λc o hc e=>by
   have hc':c≠z/\c≠TI/\c≠TO/\c≠i1/\c≠i2:=by simpa using hc
   exact hs'.extBut _ _ hc'.1 (hk c o hc'.1 hc'.2.2.1 hc'.2.2.2.1 hc'.2.2.2.2 e)
  have tI:IsPair h'' TI (.ref i1) (.ref i2):=hs'.extBut _ _ F.TIz (hk _ _ F.TIz F.TITO F.TIi1 F.TIi2 hTI)
  have tO:IsPair h'' TO ux uy:=hs'.extBut _ _ F.TOz a2
  have t1:bX ka h'' i1 a (i+1):=a3.at λo e=>hs'.extBut _ _ F.i1z e
  have t2:bX kb h'' i2 b (i+1):=a4.at λo e=>hs'.extBut _ _ F.i2z e
  have tT:IsPair h'' s.heap.objs.size ux uy:=hs'.extBut _ _ hTne a5
  have hn:H s.heap.objs.size=none:=I.fresh
  have I1:Inv X pins σ (upd H s.heap.objs.size (.tup [x,y])) { s with heap:=h'' }:=by
   refine I.turnsNew (t':=s.toks) hf hk2 (λc hc=>?_) (Nat.le_refl _) ⟨by show 2<=sizeLine;rw[sizeLine_eq];decide,[ux,uy],.cons rx (.cons ry .nil),_,tT,rfl,_,rfl⟩
   have hc':c=z\/c=TI\/c=TO\/c=i1\/c=i2:=by simpa using hc
   rcases hc' with rfl|rfl|rfl|rfl|rfl
   . exact⟨_,hz'⟩
   . exact⟨_,tI⟩
   . exact⟨_,tO⟩
   . obtain⟨o,e,_⟩:=t1.obj;exact⟨o,e⟩
   . obtain⟨o,e,_⟩:=t2.obj;exact⟨o,e⟩
  refine⟨.ref s.heap.objs.size,_,I1,rfl,⟨_,x,y,rfl,hn,I.newK,rfl,λxs' ys' ha' hb'=>?_⟩,⟨hz',tI,⟨_,_,tO⟩,t1,t2⟩,λc hc=>?_⟩
  . rw[I.sq_inj ha' ha,I.sq_inj hb' hb]
    exact⟨hx,hy⟩
  . rw[aE (Nat.ne_of_lt ?_)]
    . exact(hf c hc).1
    . obtain⟨o,e,_⟩:∃o,s.heap.get? c=some o/\True:=by
       have hc':c=z\/c=TI\/c=TO\/c=i1\/c=i2:=by simpa using hc
       rcases hc' with rfl|rfl|rfl|rfl|rfl
       . exact⟨_,hz,trivial⟩
       . exact⟨_,hTI,trivial⟩
       . exact⟨_,hTO,trivial⟩
       . obtain⟨o,e,_⟩:=h1.obj;exact⟨o,e,trivial⟩
       . obtain⟨o,e,_⟩:=h2.obj;exact⟨o,e,trivial⟩
      exact Heap.lt_size e
 done:=by
  intro X hP hw hK hc i pins s σ H E I hf st hg
  subst hP hw hK
  obtain⟨hz,hTI,⟨u,v,hTO⟩,h1,h2⟩:=st
  obtain⟨xs,ys,ha,hb,hend⟩:=hg
  obtain⟨as,ra,pa,_⟩:=I.sq ha
  obtain⟨bs,rb,pb,_⟩:=I.sq hb
  have la:=ra.length
  have lb:=rb.length
  refine jV (I.ok.hd hc) (F.apart I hf ha hb) hz hTI hTO h1 h2 pa pb ?_ λh' hk=>⟨rfl,I.turns (t':=s.toks) hf λc o hc e=>?_⟩
  . rcases hend with q|q
    . exact .inl (by simp;omega)
    . exact .inr (by simp;omega)
  . have hc':c≠z/\c≠TI/\c≠TO/\c≠i1/\c≠i2:=by simpa using hc
    exact hk c o hc'.1 hc'.2.2.1 hc'.2.2.2.1 hc'.2.2.2.2 e
 self:=λ_ _ _ _ _ st h=>wpAny_pyIter_zip st.1 h
def aIq(K:PySem.W.Frag)(ta:TA):TI:=λσ H R=>ta σ H λvs H1=>∃(ka kb:Bool) (a b:Addr) (xs ys:List V),vs=[.ref a,.ref b]/\Sq ka K H1 a xs/\Sq kb K H1 b ys/\R (Itz K ka kb a b) H1
theorem yH:bootBuiltins "zip" = some (.type "zip"):=by kernel_rfl
theorem yI(n:Nat):aBg (n+4) (n+2) (n+3) n (n+1) where
 TIz:=by simp
 TOz:=by simp
 i1z:=by simp
 i2z:=by simp
 TITO:=by simp
 TIi1:=by simp
 TIi2:=by simp
 TOi1:=by simp
 TOi2:=by simp
 i12:=by simp
theorem aDC{X:Cx}{a b:Expr}{ta:TA}{p pos:Pos}{elts:List Expr}{tk:Nat}{tp:Pos}(hg:Gl X "zip")(hm:X.mg "zip" = none)(ha:PA X [a,b] ta)(hs:starEach [a,b] X.env=[(false,eval a X.env),(false,eval b X.env)])(hs2:starEach [b] X.env=[(false,eval b X.env)]) :
 PI X (.Tuple elts tk tp) (.Call (.Name "zip" p) [a,b] [] pos) (aIq X.K ta):=by
 intro pins s σ H R I h
 refine Call_ (dS I hg hm yH (PyProof.Rows.callWith_type1 (thn (ha pos pins s σ H _ I h) λus s1 ⟨vs,H1,I1,r1,q1⟩=>?_) (by rw[hs,hs2]) (by rw[hs2];rfl)))
 obtain⟨ka,kb,a1,b1,xs,ys,e,q1,q2,q⟩:=q1
 subst e
 cases r1 with
 | cons r rr=>
  cases rr with
  | cons r' rr=>
   cases rr
   cases r
   cases r'
   obtain⟨as,ra,pa,_⟩:=I1.sq q1
   obtain⟨bs,rb,pb,_⟩:=I1.sq q2
   refine uQ pa pb λh' hz hTI hTO h1 h2 hsz hk=>wpAny_pyIter_zip (s:={ s1 with heap:=h' }) hz ?_
   refine⟨s1.heap.objs.size+4,_,_,_,H1,rfl,I1.kept (t':=s1.toks) hk,yG (yI _),⟨hz,hTI,⟨_,_,hTO⟩,h1,h2⟩,λc hc=>?_,q⟩
   have hc':c=s1.heap.objs.size+4\/c=s1.heap.objs.size+2\/c=s1.heap.objs.size+3\/c=s1.heap.objs.size\/c=s1.heap.objs.size+1:=by simpa using hc
   have hle:s1.heap.objs.size<=c:=by rcases hc' with rfl|rfl|rfl|rfl|rfl <;> omega
   exact I1.fpOk hle (I1.hok.fresh hle)
def Its(x:Str):It:=⟨λi _=>i<x.cps.size,λi H v H'=>H'=H/\∃c,x.cps[i]? = some c/\v=.str ⟨#[c]⟩,λi _=>x.cps.size<=i⟩
theorem oV{P:Program}{w:World}{K:PySem.W.Frag}{tg:Expr}{it:Addr}{x:Str}{t:Tok}{ty:String}(hn:["enumerate", "zip", "dict_itemiterator", "dict_reverseitemiterator", "odict_iterator", "itertools.zip_longest", "itertools.pairwise"].contains ty=false)
 (W:∀A':Around,A'.handled=none->Walks P w A' it [it] [it] x.cps.size (SignAt x) (λi h=>h.IsStrIter it ty x t i))
 (S:∀(A:Around) (i:Nat) (s:Shared) (Q:Value->Shared->Prop) (E:Value->Shared->Prop),s.heap.IsStrIter it ty x t i->Q (.ref it) s->wpAny (model P w) A (pyIter (.ref it)) Q E s):pW P w K tg (Its x) [it] it (λi h=>i<=x.cps.size/\h.IsStrIter it ty x t i) where
 mem:=by simp
 obj:=λi h st b hb=>by
  have e:b=it:=by simpa using hb
  subst e
  obtain⟨_,o,e,c,d⟩:=st
  exact⟨o,e,λv z=>by rw[d] at z;cases z⟩
 keep:=λi h h' st k=>by
  obtain⟨hi,o,e,c,d⟩:=st
  exact⟨hi,o,k it (by simp) o e,c,d⟩
 item:=by
  intro X hP hw hK hc i pins s σ H E I hf st hg
  subst hP hw hK
  obtain⟨f0,f1,f2,f3,f4,f5⟩:=hf it (by simp)
  refine(W X.A (I.ok.hd hc)).item i s _ _ hg st.2 λv h' tk hv st' kk=>?_
  obtain⟨c,u,hcc,rfl⟩:=hv
  have I1:Inv X pins σ H { s with heap:=h',toks:=tk }:=I.turned (λb o hb e=>kk b o (by simpa using hb) e) f0 f1 f3 f4 f5
  obtain⟨o,e,oc,od⟩:=id st'
  exact⟨_,rfl,jH (s:={ s with heap:=h',toks:=tk }) e oc od hn ⟨.str ⟨#[c]⟩,H,I1,⟨u,rfl⟩,⟨rfl,c,hcc,rfl⟩,⟨hg,st'⟩,λb hb=>(hf b hb).1⟩⟩
 done:=by
  intro X hP hw hK hc i pins s σ H E I hf st hg
  subst hP hw hK
  obtain⟨f0,f1,f2,f3,f4,f5⟩:=hf it (by simp)
  have e:i=x.cps.size:=Nat.le_antisymm st.1 hg
  subst e
  exact(W X.A (I.ok.hd hc)).done s _ _ st.2 λh' tk eb=>⟨rfl,I.turned (λb o hb e=>eb b o (by simpa using hb) e) f0 f1 f3 f4 f5⟩
 self:=λA i s Q E st h=>S A i s Q E st.2 h
theorem aDD{X:Cx}{tg l:Expr}{tl:TE}(hl:PE X l tl):PI X tg l (λσ H R=>tl σ H λx H1=>(∃a,x=.ref a/\(((∃xs,SqL X.K H1 a xs)/\R (Itl X.K a) H1)\/((∃xs,SqT X.K H1 a xs)/\R (Itt X.K a) H1)))\/∃z,x=.str z/\R (Its z) H1):=by
 intro pins s σ H R I h
 refine thn (hl pins s σ H _ I h) λv s1 ⟨x,H1,I1,r1,q1⟩=>?_
 rcases q1 with⟨a,e,q⟩|⟨z,e,q⟩
 . subst e
   cases r1
   rcases q with⟨⟨xs,hq⟩,q⟩|⟨⟨xs,hq⟩,q⟩
   . obtain⟨its,rv,p,hz⟩:=I1.list hq
     refine wpAny_pyIter_list p.isList ?_
     refine⟨s1.heap.objs.size,[s1.heap.objs.size],_,_,H1,rfl,I1.kept (t':=s1.toks) λb o e=>Heap.get?_push_of_some _ e,tU a _,⟨_,Heap.get?_push_size _ rfl,rfl,rfl⟩,λb hb=>?_,q⟩
     have e:b=s1.heap.objs.size:=by simpa using hb
     subst e
     exact I1.fpOk (Nat.le_refl _) (I1.hok.fresh (Nat.le_refl _))
   . obtain⟨its,rv,p,hz⟩:=I1.tuple hq
     refine wpAny_pyIter_tuple (show s1.heap.IsTuple a its.toArray from p) ?_
     refine⟨s1.heap.objs.size,[s1.heap.objs.size],_,_,H1,rfl,I1.kept (t':=s1.toks) λb o e=>Heap.get?_push_of_some _ e,pX a _,⟨_,Heap.get?_push_size _ rfl,rfl,rfl⟩,λb hb=>?_,q⟩
     have e:b=s1.heap.objs.size:=by simpa using hb
     subst e
     exact I1.fpOk (Nat.le_refl _) (I1.hok.fresh (Nat.le_refl _))
 . subst e
   obtain⟨t,rfl⟩:=r1
   cases ha:z.cps.all (·<128) with
   | false=>
    refine wpAny_pyIter_wide ha ⟨s1.heap.objs.size,[s1.heap.objs.size],_,_,H1,rfl,I1.kept (t':=s1.toks) λb o e=>Heap.get?_push_of_some _ e,oV (ty:= "str_iterator") (x:=z) (t:=t) (by decide) (λA' hA=>Walks.strWide hA _ z t) (λA i s Q E st h=>wpAny_pyIter_striter_wide st h),⟨Nat.zero_le _,_,Heap.get?_push_size _ rfl,rfl,rfl⟩,λb hb=>?_,q⟩
    have e:b=s1.heap.objs.size:=by simpa using hb
    subst e
    exact I1.fpOk (Nat.le_refl _) (I1.hok.fresh (Nat.le_refl _))
   | true=>
    refine wpAny_pyIter_ascii ha ⟨s1.heap.objs.size,[s1.heap.objs.size],_,_,H1,rfl,I1.kept (t':=s1.toks) λb o e=>Heap.get?_push_of_some _ e,oV (ty:= "str_ascii_iterator") (x:=z) (t:=t) (by decide) (λA' hA=>Walks.strAscii hA _ z t) (λA i s Q E st h=>wpAny_pyIter_striter_ascii st h),⟨Nat.zero_le _,_,Heap.get?_push_size _ rfl,rfl,rfl⟩,λb hb=>?_,q⟩
    have e:b=s1.heap.objs.size:=by simpa using hb
    subst e
    exact I1.fpOk (Nat.le_refl _) (I1.hok.fresh (Nat.le_refl _))
section
variable {prog:Program} {w:World} {A:Around} {E:Value->Shared->Prop} {s:Shared}
end
end L2
end
noncomputable section
namespace Hp
open PySem PySem.Spec PyProof.Rows L2
theorem Kp.refl(R:Addr->Prop)(H:Hp):Kp R H H:=λ_ _ h _=>h
theorem Kp.same{R:Addr->Prop}{H H':Hp}(s:aG H H'):Kp R H H':=λa o h _=>s a o h
section
variable {K:Fg} {RT Y old R:Addr->Prop} {σ:Sg} {σV:L2.St} {H H':Hp}
theorem Kp.seqL(k:Kp R H H'){a:Addr}{xs:List V}(n:¬ R a)(h:SqL K H a xs):SqL K H' a xs:=by
 rcases h with(h|⟨o,h⟩)|h
 . exact .inl (.inl (k _ _ h n))
 . exact .inl (.inr ⟨o,k _ _ h n⟩)
 . exact .inr h
theorem Kp.seqT(k:Kp R H H')(hR:∀a,R a->RtO H a){a:Addr}{xs:List V}(h:SqT K H a xs):SqT K H' a xs:=by
 have no:∀{o:HO},H a=some o->(∀ys,o≠.lst ys)->(∀φ,o≠.ext φ)->¬ R a:=λ{o} e n1 n2 z=>by
  rcases hR a z with⟨ys,e'⟩|⟨ys,e'⟩
  . rw[e] at e';cases e';exact n1 _ rfl
  . rw[e] at e';cases e';exact n2 _ rfl
 rcases h with(h|⟨o,h⟩)|h
 . exact .inl (.inl (k _ _ h (no h (λ_ z=>by cases z) λ_ z=>by cases z)))
 . exact .inl (.inr ⟨o,k _ _ h (no h (λ_ z=>by cases z) λ_ z=>by cases z)⟩)
 . exact .inr h
theorem Reps.kp{ex:Addr->Prop}{ds:List D}{xs:List V}(r:Reps K H ex ds xs)(k:Kp R H H')(hR:∀a,R a->RtO H a)(hx:∀a,R a->ex a):Reps K H' ex ds xs:=
 r.keep λa o e hl hn=>k a o e λz=>by
  rcases hR a z with⟨ys,e'⟩|⟨ys,e'⟩
  . rw[e] at e'
    cases e'
    exact hl ys rfl (hx a z)
  . rw[e] at e'
    cases e'
    exact hn _ rfl
theorem Rep.kp{ex:Addr->Prop}{d:D}{x:V}(r:Rep K H ex d x)(k:Kp R H H')(hR:∀a,R a->RtO H a)(hx:∀a,R a->ex a):Rep K H' ex d x:=
 r.keep λa o e hl hn=>k a o e λz=>by
  rcases hR a z with⟨ys,e'⟩|⟨ys,e'⟩
  . rw[e] at e'
    cases e'
    exact hl ys rfl (hx a z)
  . rw[e] at e'
    cases e'
    exact hn _ rfl
def rtF(RT:Addr->Prop)(σ:Sg)(σV:L2.St)(al:List Nat)(a:Addr):Prop:=RT a/\¬ alR σ σV al a
theorem cI:∀(al:List Nat) (σ:Sg) (i:Nat),(freeze σ al)[i]? = (σ[i]?).map λs=>if i∈al then s.freeze else s
 | [],σ,i=>by cases q:σ[i]? <;> simp[freeze,q]
 | j::al,σ,i=>by
  rw[freeze,cI al]
  cases qj:σ[j]? with
  | none=>
   simp only
   cases q:σ[i]? with
   | none=>rfl
   | some s=>
    have hne:i≠j:=λe=>by subst e;rw[q] at qj;cases qj
    simp[hne]
  | some sj=>
   simp only
   by_cases hij:i=j
   . subst hij
     have hl:i<σ.length:=(List.getElem?_eq_some_iff.mp qj).1
     rw[List.getElem?_set_self hl,qj]
     simp only[Option.map_some,List.mem_cons,true_or,if_true]
     split
     . cases sj <;> rfl
     . rfl
   . rw[List.getElem?_set_ne (Ne.symm hij)]
     simp[hij]
theorem jW:∀(al:List Nat) (σ:Sg),(freeze σ al).length=σ.length
 | [],σ=>rfl
 | j::al,σ=>by
  rw[freeze,jW al]
  split
  . rw[List.length_set]
  . rfl
theorem freeze_sh{al:List Nat}{i:Nat}{pa:Bool}{d:D}(h:(freeze σ al)[i]? = some (.sh pa d)):σ[i]? = some (.sh pa d)\/∃ds,i∈al/\σ[i]? = some (.own pa ds)/\d=.lst ds:=by
 rw[cI] at h
 cases q:σ[i]? with
 | none=>rw[q] at h;cases h
 | some s=>
  rw[q] at h
  have h:(if i∈al then s.freeze else s)=.sh pa d:=Option.some.inj h
  split at h
  . rename_i hi
    cases s with
    | dead=>cases h
    | sh pa' d'=>cases h;exact .inl rfl
    | own pa' ds'=>cases h;exact .inr ⟨ds',hi,rfl,rfl⟩
    | dct _=>cases h
    | par _ _=>cases h
  . exact .inl (by rw[h])
theorem cJ{al:List Nat}{i:Nat}{pa:Bool}{ds:List D}(h:(freeze σ al)[i]? = some (.own pa ds)):σ[i]? = some (.own pa ds)/\i∉al:=by
 rw[cI] at h
 cases q:σ[i]? with
 | none=>rw[q] at h;cases h
 | some s=>
  rw[q] at h
  have h:(if i∈al then s.freeze else s)=.own pa ds:=Option.some.inj h
  split at h
  . cases s <;> cases h
  . rename_i hi
    exact⟨by rw[h],hi⟩
theorem qV{al:List Nat}{i:Nat}{ds:List (NK×D)}(h:(freeze σ al)[i]? = some (.dct ds)):σ[i]? = some (.dct ds):=by
 rw[cI] at h
 cases q:σ[i]? with
 | none=>rw[q] at h;cases h
 | some s=>
  rw[q] at h
  have h:(if i∈al then s.freeze else s)=.dct ds:=Option.some.inj h
  split at h
  . cases s with
    | dct d=>exact congrArg some h
    | _=>cases h
  . rw[h]
theorem qW{al:List Nat}{i:Nat}{ds es:List D}(h:(freeze σ al)[i]? = some (.par ds es)):σ[i]? = some (.par ds es):=by
 rw[cI] at h
 cases q:σ[i]? with
 | none=>rw[q] at h;cases h
 | some s=>
  rw[q] at h
  have h:(if i∈al then s.freeze else s)=.par ds es:=Option.some.inj h
  split at h
  . cases s with
    | par d e=>exact congrArg some h
    | _=>cases h
  . rw[h]
theorem Sx.frz(S:Sx K RT Y old σ σV H)(al:List Nat):Sx K (rtF RT σ σV al) Y old (freeze σ al) σV H where
 sh:=λi pa d h=>by
  rcases freeze_sh h with h|⟨ds,hi,ho,e⟩
  . obtain⟨v,h1,h2⟩:=S.sh i pa d h
    exact⟨v,h1,h2.weak λa z=>z.elim (λz=>.inl z.1) .inr⟩
  . subst e
    obtain⟨a,xs,h1,h2,h3,h4,h5⟩:=S.own i pa ds ho
    refine⟨.ref a,h1,a,xs,rfl,SqL.of h2,?_,h5.weak λa z=>z.elim (λz=>.inl z.1) .inr⟩
    rintro (z|z|⟨_,z⟩)
    . exact z.2 ⟨i,hi,⟨pa,ds,ho⟩,h1⟩
    . exact h4 (S.yo a z)
    . exact h4 z
 own:=λi pa ds h=>by
  obtain⟨h,hi⟩:=cJ h
  obtain⟨a,xs,h1,h2,h3,h4,h5⟩:=S.own i pa ds h
  refine⟨a,xs,h1,h2,⟨h3,?_⟩,h4,h5.weak λa z=>z.elim (λz=>.inl z.1) .inr⟩
  rintro ⟨j,hj,⟨pa',ds',q⟩,q'⟩
  have:=S.inj i j pa pa' ds ds' a h q h1 q'
  subst this
  exact hi hj
 trk:=λa z=>S.trk a (z.elim (λz=>.inl z.1) .inr)
 yo:=S.yo
 tk:=S.tk
 rt:=λa z=>S.rt a z.1
 inj:=λi j pa pa' ds ds' a h1 h2 h3 h4=>S.inj i j pa pa' ds ds' a (cJ h1).1 (cJ h2).1 h3 h4
 len:=by rw[jW];exact S.len
 dx:=S.dx.imp id (λ_ _ e=>⟨qV e,rfl⟩) (λ_ _ _ _ _ _ e=>e) (λa xs e z o=>⟨e,z,λ⟨j,_,⟨pa,ds,q⟩,q'⟩=>by
  obtain⟨b,ys,h1,h2,h3,h4,h5⟩:=S.own j pa ds q
  rw[q'] at h1
  cases h1
  rw[e] at h2
  cases h2⟩) (λ_ _ r=>r) (λ_ _ _ e=>⟨qW e,rfl⟩) (λ_ _ _ _ _ _ _ _ e=>e) λp xs e z=>⟨e,⟨z.1,λ⟨j,_,⟨pa,ds,q⟩,q'⟩=>z.2.2 j pa ds q q'⟩,z.2.1,λk pa ds q=>z.2.2 k pa ds (cJ q).1⟩
theorem Tk.new{p:Addr}{o:HO}(t:Tk K H)(h:K.lookup p=none):Tk K (upd H p o):=λb hb=>by
 by_cases e:b=p
 . rw[e];exact h
 . rw[aE e] at hb;exact t b hb
def Nw(K:Fg)(H:Hp)(a:Addr):Prop:=H a=none/\K.lookup a=none
theorem aBh{a:Addr}{xs:List V}(q:SqL K H a xs):¬ Nw K H a:=by
 rintro ⟨n,k⟩
 rcases q with(q|⟨o,q⟩)|⟨o,its,m,q,_⟩
 . rw[n] at q;cases q
 . rw[n] at q;cases q
 . rw[k] at q;cases q
theorem Reps.outN{ex:Addr->Prop}{d:List D}{v:List V}(h:Reps K H ex d v):Reps K H (λb=>ex b\/Nw K H b) d v:=
 Reps.imp (λ_ _ q=>q) (λb xs nb q=>⟨λz=>z.elim nb (aBh q),q⟩) (λ_ _ _ _ q=>q) d v h
theorem RvN.sub{ex:Addr->Prop}{v:Vl}{d:D}{x:V}(h:Rep K H' (λa=>exV RT Y old σ σV v.pa v.al a\/ex a) d x):Rep K H' (λa=>exV RT Y old σ σV (v.sub d).pa (v.sub d).al a\/ex a) (v.sub d).d x:=by
 unfold Vl.sub
 by_cases hn:noL d=true
 . rw[if_pos hn]
   exact Rep.free d x hn h
 . rw[if_neg hn]
   exact h
structure uR (K:Fg) (RT Y old:Addr->Prop) (σ:Sg) (σV:L2.St) (H1:Hp) (J:L2.It) (xs:List Vl) (al:List Nat):Prop where
 sub:∀v∈xs,∀j∈v.al,j∈al
 nofr:∀v∈xs,v.fr=false
 ok:∀(R:Addr->Prop),(∀b,R b->rtF RT σ σV al b)->∀(i:Nat) (H:Hp),Kp R H1 H->(i<xs.length->J.go i H)/\(xs.length<=i->J.stop i H)/\∀x H',J.yld i H x H'->∀v,xs[i]? = some v->aG H H'/\(Tk K H->Tk K H')/\Rep K H' (λa=>exV RT Y old σ σV v.pa v.al a\/Nw K H1 a) v.d x
theorem sub_al{v:Vl}{d:D}:∀j∈(v.sub d).al,j∈v.al:=by
 unfold Vl.sub Vl.cl
 split
 . intro j hj;cases hj
 . intro j hj;exact hj
theorem nB{v:Vl}{d:D}:(v.sub d).fr=false:=by
 unfold Vl.sub Vl.cl
 split <;> rfl
theorem hG{x:Vl}{ds:List D}{i:Nat}{v:Vl}(h:(items x ds)[i]? = some v):∃d,ds[i]? = some d/\v=x.sub d:=by
 unfold items at h
 rw[List.getElem?_map] at h
 cases q:ds[i]? with
 | none=>rw[q] at h;cases h
 | some d=>rw[q] at h;exact⟨d,rfl,(Option.some.inj h).symm⟩
theorem hJ{al:List Nat}{pa:Bool}{b:Addr}(h:rtF RT σ σV al b):exV RT Y old σ σV pa al b:=.inl h
theorem iN:∀(as bs:List D),(fK as bs).length=min as.length bs.length
 | [],_=>by simp[fK]
 | _::_,[]=>by simp[fK]
 | _::as,_::bs=>by
  rw[fK,lC,iN as bs,lC,lC]
  omega
theorem oW:∀{as bs:List D} {i:Nat} {a b:D},as[i]? = some a->bs[i]? = some b->(fK as bs)[i]? = some (.tup [a,b])
 | [],_,_,_,_,h,_=>by simp at h
 | _::_,[],_,_,_,_,h=>by simp at h
 | _::_,_::_,0,_,_,h,h'=>by
  simp at h h'
  subst h h'
  rfl
 | _::as,_::bs,i+1,a,b,h,h'=>by
  have:=oW (as:=as) (bs:=bs) (i:=i) (a:=a) (b:=b) (by simpa using h) (by simpa using h')
  simpa[fK] using this
theorem aBi(S:Sx K RT Y old σ σV H){x:Vl}{ds:List D}{a:Addr}{xs:List V}(q:SqL K H a xs)(n:¬ exV RT Y old σ σV x.pa x.al a)(r:Reps K H (exV RT Y old σ σV x.pa x.al) ds xs) :
 uR K RT Y old σ σV H (Itl K a) (items x ds) x.al where
 sub:=λv hv j hj=>by
  obtain⟨d,_,e⟩:=List.mem_map.mp hv
  subst e
  exact sub_al j hj
 nofr:=λv hv=>by
  obtain⟨d,_,e⟩:=List.mem_map.mp hv
  subst e
  exact nB
 ok:=λR hR i H1 k=>by
  have q1:SqL K H1 a xs:=k.seqL (λz=>n (hJ (hR a z))) q
  have r1:Reps K H1 (λa=>exV RT Y old σ σV x.pa x.al a\/Nw K H a) ds xs:=r.outN.kp k (λb z=>S.rt b (hR b z).1) λb z=>.inl (hJ (hR b z))
  have hl:(items x ds).length=xs.length:=by unfold items;rw[lM,r.length]
  refine⟨λhi=>⟨xs,xs[i]'(by omega),q1,List.getElem?_eq_getElem (by omega)⟩,λhi=>⟨xs,q1,by omega⟩,λy H' hy v hv=>?_⟩
  obtain⟨e,hy⟩:=hy
  subst e
  obtain⟨d,hd,e⟩:=hG hv
  subst e
  obtain⟨y',hy',ry⟩:=r1.get hd
  rw[hy xs q1] at hy'
  cases hy'
  exact⟨aG.refl _,id,RvN.sub ry⟩
theorem aDE(S:Sx K RT Y old σ σV H){x:Vl}{ds:List D}{a:Addr}{xs:List V}(q:SqT K H a xs)(r:Reps K H (exV RT Y old σ σV x.pa x.al) ds xs) :
 uR K RT Y old σ σV H (Itt K a) (items x ds) x.al where
 sub:=λv hv j hj=>by
  obtain⟨d,_,e⟩:=List.mem_map.mp hv
  subst e
  exact sub_al j hj
 nofr:=λv hv=>by
  obtain⟨d,_,e⟩:=List.mem_map.mp hv
  subst e
  exact nB
 ok:=λR hR i H1 k=>by
  have q1:SqT K H1 a xs:=k.seqT (λb z=>S.rt b (hR b z).1) q
  have r1:Reps K H1 (λa=>exV RT Y old σ σV x.pa x.al a\/Nw K H a) ds xs:=r.outN.kp k (λb z=>S.rt b (hR b z).1) λb z=>.inl (hJ (hR b z))
  have hl:(items x ds).length=xs.length:=by unfold items;rw[lM,r.length]
  refine⟨λhi=>⟨xs,xs[i]'(by omega),q1,List.getElem?_eq_getElem (by omega)⟩,λhi=>⟨xs,q1,by omega⟩,λy H' hy v hv=>?_⟩
  obtain⟨e,hy⟩:=hy
  subst e
  obtain⟨d,hd,e⟩:=hG hv
  subst e
  obtain⟨y',hy',ry⟩:=r1.get hd
  rw[hy xs q1] at hy'
  cases hy'
  exact⟨aG.refl _,id,RvN.sub ry⟩
theorem yJ{lo:Int}{m:Nat}{xs:List Vl}(hx:xs=((List.range m).map λ(k:Nat)=>Vl.cl (.int (lo+(k:Int))))):uR K RT Y old σ σV H (Itr lo m) xs [] where
 sub:=λv hv j hj=>by
  subst hx
  obtain⟨d,_,e⟩:=List.mem_map.mp hv
  subst e
  exact hj
 nofr:=λv hv=>by
  subst hx
  obtain⟨d,_,e⟩:=List.mem_map.mp hv
  subst e
  rfl
 ok:=λR hR i H1 k=>by
  have hl:xs.length=m:=by rw[hx,lM,List.length_range]
  refine⟨λhi=>(show i<m by omega),λhi=>(show m<=i by omega),λy H' hy v hv=>?_⟩
  obtain⟨e,hy⟩:=hy
  subst e hy
  subst hx
  rw[List.getElem?_map] at hv
  have hi:i<m:=by
   have:=(List.getElem?_eq_some_iff.mp (show((List.range m).map λ(k:Nat)=>Vl.cl (.int (lo+(k:Int))))[i]? = some v by rw[List.getElem?_map];exact hv)).1
   simpa using this
  rw[List.getElem?_range hi] at hv
  cases hv
  exact⟨aG.refl _,id,rfl⟩
theorem aDF{z:Str}{xs:List Vl}(hx:xs=(z.cps.toList.map λn=>Vl.cl (.str ⟨#[n]⟩))):uR K RT Y old σ σV H (Its z) xs [] where
 sub:=λv hv j hj=>by
  subst hx
  obtain⟨d,_,e⟩:=List.mem_map.mp hv
  subst e
  exact hj
 nofr:=λv hv=>by
  subst hx
  obtain⟨d,_,e⟩:=List.mem_map.mp hv
  subst e
  rfl
 ok:=λR hR i H1 k=>by
  have hl:xs.length=z.cps.size:=by rw[hx,lM,Array.length_toList]
  refine⟨λhi=>(show i<z.cps.size by omega),λhi=>(show z.cps.size<=i by omega),λy H' hy v hv=>?_⟩
  obtain⟨e,c,hc,hy⟩:=hy
  subst e hy
  subst hx
  rw[List.getElem?_map,Array.getElem?_toList,hc] at hv
  cases hv
  exact⟨aG.refl _,id,rfl⟩
theorem aDG(S:Sx K RT Y old σ σV H){ka kb:Bool}{as bs:List D}{a b:Addr}{xs ys:List V}{pa:Bool}{al:List Nat}(qa:Sq ka K H a xs)(qb:Sq kb K H b ys)(na:ka=true->¬ exV RT Y old σ σV pa al a)(nb:kb=true->¬ exV RT Y old σ σV pa al b)
 (ra:Reps K H (exV RT Y old σ σV pa al) as xs) (rb:Reps K H (exV RT Y old σ σV pa al) bs ys):uR K RT Y old σ σV H (Itz K ka kb a b) (items ⟨.non,false,pa,al⟩ (fK as bs)) al where
 sub:=λv hv j hj=>by
  obtain⟨d,_,e⟩:=List.mem_map.mp hv
  subst e
  exact sub_al j hj
 nofr:=λv hv=>by
  obtain⟨d,_,e⟩:=List.mem_map.mp hv
  subst e
  exact nB
 ok:=λR hR i H1 k=>by
  have keep:∀{kk:Bool} {c:Addr} {zs:List V},(kk=true->¬ exV RT Y old σ σV pa al c)->Sq kk K H c zs->Sq kk K H1 c zs:=by
   intro kk c zs nn q
   cases kk with
   | true=>exact k.seqL (λz=>nn rfl (hJ (hR c z))) q
   | false=>exact k.seqT (λb z=>S.rt b (hR b z).1) q
  have qa1:=keep na qa
  have qb1:=keep nb qb
  have ra1:Reps K H1 (λa=>exV RT Y old σ σV pa al a\/Nw K H a) as xs:=ra.outN.kp k (λb z=>S.rt b (hR b z).1) λb z=>.inl (hJ (hR b z))
  have rb1:Reps K H1 (λa=>exV RT Y old σ σV pa al a\/Nw K H a) bs ys:=rb.outN.kp k (λb z=>S.rt b (hR b z).1) λb z=>.inl (hJ (hR b z))
  have hl:(items ⟨.non,false,pa,al⟩ (fK as bs)).length=min xs.length ys.length:=by unfold items;rw[lM,iN,ra.length,rb.length]
  have ge:∀(h1:i<xs.length) (h2:i<ys.length),True:=λ_ _=>trivial
  refine⟨λhi=>?_,λhi=>⟨xs,ys,qa1,qb1,by omega⟩,λy H' hy v hv=>?_⟩
  . have h1:i<xs.length:=by omega
    have h2:i<ys.length:=by omega
    exact⟨xs,ys,xs[i],ys[i],qa1,qb1,List.getElem?_eq_getElem h1,List.getElem?_eq_getElem h2⟩
  . obtain⟨p,x,y',rfl,hp,hk,rfl,hh⟩:=hy
    obtain⟨hx,hy⟩:=hh xs ys qa1 qb1
    obtain⟨d,hd,e⟩:=hG hv
    subst e
    obtain⟨d1,hd1,rd1⟩:=ra1.get' hx
    obtain⟨d2,hd2,rd2⟩:=rb1.get' hy
    rw[oW hd1 hd2] at hd
    cases hd
    have sm:aG H1 (upd H1 p (.tup [x,y'])):=aG.new hp
    refine⟨sm,λtk=>tk.new hk,RvN.sub (v:=⟨.non,false,pa,al⟩) ?_⟩
    exact⟨p,[x,y'],rfl,SqT.of aV,.cons (rd1.grow sm) (.cons (rd2.grow sm) .nil)⟩
end
section
variable {X:Cx} {P:Pg} {Γ:Ct} {n:Nat} {RT Y old:Addr->Prop} {σ:Sg} {tg:Expr}
def wI(X:Cx)(P:Pg)(n:Nat)(RT Y old:Addr->Prop)(σ:Sg)(it:Hp.It):TI:=λσV H R=>Sx X.K RT Y old σ σV H/\RE (wx X σV H) (walk P (call P n) σ it) λxs=>∀J H1,Tk X.K H1->aG H H1->uR X.K RT Y old σ σV H1 J xs.1 xs.2->R J H1
theorem nC{iter:Expr}{t t':TI}(h:PI X tg iter t)(f:∀σV H R,Tk X.K H->t' σV H R->t σV H λJ H'=>Tk X.K H'->R J H'):PI X tg iter t':=λpins s σV H R I hw=>
 thn (h pins s σV H _ I (f σV H R I.tk hw)) λv s1 h1=>thn h1 λitv s2 ⟨it,fp,tn,J,H',e,I',T,st,fo,q⟩=>⟨it,fp,tn,J,H',e,I',T,st,fo,q I'.tk⟩
theorem aGf{c:E}{e:Expr}(ha:PE X e (WE X P n RT Y old σ c)):PI X tg e (wI X P n RT Y old σ (.seq c)):=by
 refine nC (aDD ha) λσV H RR t ⟨S,h⟩=>?_
 have h:=RE.bind' (show RE _ (ev P (call P n) σ c >>= λx=>(match x.d with
  | .lst ds=>R.ok (items x ds,x.al)
  | .tup ds=>R.ok (items x ds,x.al)
  | .str a=>R.iff (decide (a.length<=lim)) (R.ok (a.cps.toList.map λn=>Vl.cl (.str ⟨#[n]⟩),[]))
  | _=>.bad)) _ from h)
 refine wE.one S h λx u H1 hx t1 S1 r1=>?_
 have rv:=r1.rv S
 split at hx
 . rename_i ds d1
   obtain⟨a,xs,e,q,nn,r⟩:=rv.lst d1
   exact .inl ⟨a,e,.inl ⟨⟨xs,q⟩,λt'=>hx _ _ t' r1.1 (aBi S1 q nn r)⟩⟩
 . rename_i ds d1
   obtain⟨a,xs,e,q,r⟩:=rv.tup d1
   exact .inl ⟨a,e,.inr ⟨⟨xs,q⟩,λt'=>hx _ _ t' r1.1 (aDE S1 q r)⟩⟩
 . rename_i z d1
   obtain⟨c,hx⟩:=hx.iff
   exact .inr ⟨z,rv.str d1,λt'=>hx _ _ t' r1.1 (aDF rfl)⟩
 . exact hx.elim
theorem jX(i j:Int):(dW i j).map Vl.cl=(List.range (j-i).toNat).map λ(k:Nat)=>Vl.cl (.int (i+(k:Int))):=by
 unfold dW
 rw[List.map_map]
 rfl
theorem hX{k:Int}(h:aF k=true):-(2 ^ 62)<=k/\k<2 ^ 62:=by
 unfold aF at h
 simp only[bA,decide_eq_true_eq] at h
 exact h
theorem aDH(M:Mc X P Γ n){b:E}{e:Expr}{f:Str}{p pos:Pos}(hf:f=("range" : Str))(hg:bZ Γ f=true)(ha:PE X e (WE X P n RT Y old σ b))(hp:aN e=true):PI X tg (.Call (.Name f p) [e] [] pos) (wI X P n RT Y old σ (.rng (.c (.int 0)) b)):=by
 subst hf
 refine nC (tV (M.gl hg) (M.md.blt _ (by decide +kernel)) (gW ha sG hp) (aA hp)) λσV H RR t ⟨S,h⟩=>?_
 have h:RE _ (ev P (call P n) σ b) λy=>RE _ (match (D.int 0),y.d with|.int i,.int j=>R.iff (aF i&&aF j) (R.ok ((dW i j).map Vl.cl,[]))|_,_=>.bad) _:=
  RE.bind' (show RE _ (ev P (call P n) σ b >>= λy=>(match (D.int 0),y.d with|.int i,.int j=>R.iff (aF i&&aF j) (R.ok ((dW i j).map Vl.cl,[]))|_,_=>.bad)) _ from h)
 refine⟨S,?_⟩
 show RE _ (ev P (call P n) σ b >>= λx=>evs P (call P n) σ .nil >>= λxs=>R.ok (x::xs)) _
 rw[RE.bind]
 refine h.mono λy hy=>?_
 split at hy
 . rename_i i j e1 e2
   cases e1
   obtain⟨c,hy⟩:=hy.iff
   rw[bA] at c
   have c2:=hX c.2
   intro us H1 t1 s1 r1
   obtain⟨u,r',eu,ru,hr⟩:=r1
   rw[show r'=[] from hr] at eu
   subst eu
   refine⟨j,by rw[ru.int e2],c2.1,c2.2,λt'=>hy _ _ t' s1 (yJ ?_)⟩
   rw[jX]
   simp
 . exact hy.elim
theorem aDI(M:Mc X P Γ n){a b:E}{ea eb:Expr}{f:Str}{p pos:Pos}(hf:f=("range" : Str))(hg:bZ Γ f=true)(ha:PE X ea (WE X P n RT Y old σ a))(hb:PE X eb (WE X P n RT Y old σ b))(hpa:aN ea=true)(hpb:aN eb=true) :
 PI X tg (.Call (.Name f p) [ea,eb] [] pos) (wI X P n RT Y old σ (.rng a b)):=by
 subst hf
 refine nC (tW (M.gl hg) (M.md.blt _ (by decide +kernel)) (gW ha (gW hb sG hpb) hpa) (by rw[aA hpa,aA hpb];rfl) (aA hpb)) λσV H RR t ⟨S,h⟩=>?_
 have h:=RE.bind' (show RE _ (ev P (call P n) σ a >>= λx=>ev P (call P n) σ b >>= λy=>(match x.d,y.d with|.int i,.int j=>R.iff (aF i&&aF j) (R.ok ((dW i j).map Vl.cl,[]))|_,_=>.bad)) _ from h)
 refine⟨S,?_⟩
 show RE _ (ev P (call P n) σ a >>= λx=>evs P (call P n) σ (.cons b .nil) >>= λxs=>R.ok (x::xs)) _
 rw[RE.bind]
 refine h.mono λx hx=>?_
 rw[RE.bind]
 show RE _ (ev P (call P n) σ b >>= λx=>evs P (call P n) σ .nil >>= λxs=>R.ok (x::xs)) _
 rw[RE.bind]
 refine(RE.bind' hx).mono λy hy=>?_
 split at hy
 . rename_i i j e1 e2
   obtain⟨c,hy⟩:=hy.iff
   rw[bA] at c
   have c1:=hX c.1
   have c2:=hX c.2
   intro us H1 t1 s1 r1
   obtain⟨u,r',eu,ru,u2,r2,eu2,ru2,hr⟩:=r1
   rw[show r2=[] from hr] at eu2
   subst eu2
   subst eu
   refine⟨i,j,by rw[ru.int e1,ru2.int e2],⟨c1.1,c1.2,c2.1,c2.2⟩,λt'=>hy _ _ t' s1 (yJ ?_)⟩
   rw[jX]
 . exact hy.elim
theorem yK{σV:L2.St}{H:Hp}{x:Vl}{u:V}{ds:List D}(hx:Rv X.K RT Y old σ σV H x u)(h:fX x.d=some ds):∃(k:Bool) (a:Addr) (xs:List V),u=.ref a/\Sq k X.K H a xs/\(k=true->¬ exV RT Y old σ σV x.pa x.al a)/\Reps X.K H (exV RT Y old σ σV x.pa x.al) ds xs:=by
 unfold fX at h
 split at h
 . rename_i ds' d1
   cases h
   obtain⟨a,xs,e,q,nn,r⟩:=hx.lst d1
   exact⟨true,a,xs,e,q,λ_=>nn,r⟩
 . rename_i ds' d1
   cases h
   obtain⟨a,xs,e,q,r⟩:=hx.tup d1
   exact⟨false,a,xs,e,q,(λz=>absurd z bN),r⟩
 . cases h
theorem aGg(M:Mc X P Γ n){a b:E}{ea eb:Expr}{f:Str}{p pos:Pos}{elts:List Expr}{tk:Nat}{tp:Pos}(hf:f=("zip" : Str))(hg:bZ Γ f=true)(ha:PE X ea (WE X P n RT Y old σ a))(hb:PE X eb (WE X P n RT Y old σ b))(hpa:aN ea=true)(hpb:aN eb=true) :
 PI X (.Tuple elts tk tp) (.Call (.Name f p) [ea,eb] [] pos) (wI X P n RT Y old σ (.zip a b)):=by
 subst hf
 refine nC (aDC (M.gl hg) (M.md.blt _ (by decide +kernel)) (gW ha (gW hb sG hpb) hpa) (by rw[aA hpa,aA hpb];rfl) (aA hpb)) λσV H RR t ⟨S,h⟩=>?_
 have h:=RE.bind' (show RE _ (ev P (call P n) σ a >>= λx=>ev P (call P n) σ b >>= λy=>(match fX x.d,fX y.d with
  | some as,some bs=>R.ok (items ⟨.non,false,x.pa||y.pa,x.al++y.al⟩ (fK as bs),x.al++y.al)
  | _,_=>.bad)) _ from h)
 refine⟨S,?_⟩
 show RE _ (ev P (call P n) σ a >>= λx=>evs P (call P n) σ (.cons b .nil) >>= λxs=>R.ok (x::xs)) _
 rw[RE.bind]
 refine h.mono λx hx=>?_
 rw[RE.bind]
 show RE _ (ev P (call P n) σ b >>= λx=>evs P (call P n) σ .nil >>= λxs=>R.ok (x::xs)) _
 rw[RE.bind]
 refine(RE.bind' hx).mono λy hy=>?_
 split at hy
 . rename_i as bs e1 e2
   intro us H1 t1 s1 r1
   obtain⟨u,r',eu,ru,u2,r2,eu2,ru2,hr⟩:=r1
   rw[show r2=[] from hr] at eu2
   subst eu2
   subst eu
   obtain⟨ka,a1,xs,rfl,qa,na,ra⟩:=yK ru e1
   obtain⟨kb,b1,ys,rfl,qb,nb,rb⟩:=yK ru2 e2
   have S1:=S.grow s1 t1
   have w1:∀c,exV RT Y old σ σV (x.pa||y.pa) (x.al++y.al) c->exV RT Y old σ σV x.pa x.al c:=λc z=>z.mono (λhp=>by rw[hp];rfl) λj hj=>List.mem_append_left _ hj
   have w2:∀c,exV RT Y old σ σV (x.pa||y.pa) (x.al++y.al) c->exV RT Y old σ σV y.pa y.al c:=λc z=>z.mono (λhp=>by rw[hp,Bool.or_true]) λj hj=>List.mem_append_right _ hj
   exact⟨ka,kb,a1,b1,xs,ys,rfl,qa,qb,λt'=>hy _ _ t' s1 (aDG S1 qa qb (λhk z=>na hk (w1 _ z)) (λhk z=>nb hk (w2 _ z)) (ra.weak w1) (rb.weak w2))⟩
 . exact hy.elim
end
def gs:List Nat->TGs
 | []=>aEV
 | i::is=>aBY (kR i) (gs is)
def gT(K:Fg):T->TG
 | .n i=>kR i
 | .t is=>aEW K is.length (gs is)
section
variable {K:Fg} {RT Y old:Addr->Prop} {σ:Sg} {σV:L2.St} {H H':Hp}
theorem set_some{α:Type}{l:List α}{i j:Nat}{x y:α}(e:(l.set i x)[j]? = some y):(i=j/\x=y/\i<l.length)\/(i≠j/\l[j]? = some y):=by
 by_cases hij:i=j
 . subst hij
   have hl:i<(l.set i x).length:=(List.getElem?_eq_some_iff.mp e).1
   rw[List.length_set] at hl
   rw[List.getElem?_set_self hl] at e
   cases e
   exact .inl ⟨rfl,rfl,hl⟩
 . rw[List.getElem?_set_ne hij] at e
   exact .inr ⟨hij,e⟩
theorem Sx.setSh(S:Sx K RT Y old σ σV H){i:Nat}{pa:Bool}{d:D}{u:V}(h:Rep K H (λa=>RT a\/exB Y old pa a) d u):Sx K RT Y old (σ.set i (.sh pa d)) (σV.set i (some u)) H where
 sh:=λj pa' d' e=>by
  rcases set_some e with⟨rfl,e,hl⟩|⟨hij,e⟩
  . cases e
    exact⟨u,List.getElem?_set_self (by rw[<-S.len];exact hl),h⟩
  . obtain⟨v,h1,h2⟩:=S.sh j pa' d' e
    exact⟨v,by rw[List.getElem?_set_ne hij];exact h1,h2⟩
 own:=λj pa' ds e=>by
  rcases set_some e with⟨rfl,e,hl⟩|⟨hij,e⟩
  . cases e
  . obtain⟨a,xs,h1,h2⟩:=S.own j pa' ds e
    exact⟨a,xs,by rw[List.getElem?_set_ne hij];exact h1,h2⟩
 trk:=S.trk
 yo:=S.yo
 tk:=S.tk
 rt:=S.rt
 inj:=λj j' pa' pa'' ds ds' a e1 e2 e3 e4=>by
  rcases set_some e1 with⟨_,e,_⟩|⟨n1,e1⟩
  . cases e
  rcases set_some e2 with⟨_,e,_⟩|⟨n2,e2⟩
  . cases e
  rw[List.getElem?_set_ne n1] at e3
  rw[List.getElem?_set_ne n2] at e4
  exact S.inj j j' pa' pa'' ds ds' a e1 e2 e3 e4
 len:=by rw[List.length_set,List.length_set];exact S.len
 dx:=S.dx.imp id (λj ds e=>by
  rcases set_some e with⟨_,z,_⟩|⟨hij,e⟩
  . cases z
  . exact⟨e,List.getElem?_set_ne hij⟩) (λ_ _ _ _ _ _ e=>e) (λ_ _ e z _=>⟨e,z⟩) (λ_ _ r=>r) (λj ds es e=>by
  rcases set_some e with⟨_,z,_⟩|⟨hij,e⟩
  . cases z
  . exact⟨e,List.getElem?_set_ne hij⟩) (λ_ _ _ _ _ _ _ _ e=>e) λp xs e z=>⟨e,z.1,z.2.1,λk pa' ds q=>by
  rcases set_some q with⟨_,w,_⟩|⟨hij,q⟩
  . cases w
  . rw[List.getElem?_set_ne hij];exact z.2.2 k pa' ds q⟩
theorem Rep.out{ex:Addr->Prop}{d:D}{v:V}{a:Addr}(h:Rep K H ex d v)(n:H a=none)(k:K.lookup a=none):Rep K H (λb=>b=a\/ex b) d v:=
 Rep.imp (λ_ _ q=>q) (λb xs nb q=>⟨λz=>z.elim (λz=>by
  subst z
  rcases q with(q|⟨o,q⟩)|⟨o,its,m,q,_⟩
  . rw[n] at q;cases q
  . rw[n] at q;cases q
  . rw[k] at q;cases q) nb,q⟩) (λ_ _ _ _ q=>q) d v h
theorem Reps.out{ex:Addr->Prop}{d:List D}{v:List V}{a:Addr}(h:Reps K H ex d v)(n:H a=none)(k:K.lookup a=none):Reps K H (λb=>b=a\/ex b) d v:=
 Reps.imp (λ_ _ q=>q) (λb xs nb q=>⟨λz=>z.elim (λz=>by
  subst z
  rcases q with(q|⟨o,q⟩)|⟨o,its,m,q,_⟩
  . rw[n] at q;cases q
  . rw[n] at q;cases q
  . rw[k] at q;cases q) nb,q⟩) (λ_ _ _ _ q=>q) d v h
theorem Sx.storeOwn(S:Sx K RT Y old σ σV H){i:Nat}{a:Addr}{xs:List V}{ds:List D}{pa:Bool}(s:aG H H')(t:Tk K H')(hn:H a=none)(ha:H' a=some (.lst xs))(r:Reps K H' (λb=>(RT b\/b=a)\/exB Y old pa b) ds xs) :
 Sx K (λb=>RT b\/b=a) Y old (σ.set i (.own pa ds)) (σV.set i (some (.ref a))) H' where
 sh:=λj pa' d' e=>by
  rcases set_some e with⟨rfl,e,hl⟩|⟨hij,e⟩
  . cases e
  . obtain⟨v,h1,h2⟩:=S.sh j pa' d' e
    refine⟨v,by rw[List.getElem?_set_ne hij];exact h1,((h2.out hn (t a (by rw[ha];simp))).grow s).weak λb z=>?_⟩
    rcases z with(z|z)|z
    . exact .inr (.inl z)
    . exact .inl z
    . exact .inr (.inr z)
 own:=λj pa' ds' e=>by
  rcases set_some e with⟨rfl,e,hl⟩|⟨hij,e⟩
  . cases e
    exact⟨a,xs,List.getElem?_set_self (by rw[<-S.len];exact hl),ha,.inr rfl,λz=>S.trk a (.inr (.inr z)) hn,r⟩
  . obtain⟨a',xs',h1,h2,h3,h4,h5⟩:=S.own j pa' ds' e
    refine⟨a',xs',by rw[List.getElem?_set_ne hij];exact h1,s _ _ h2,.inl h3,h4,((h5.out hn (t a (by rw[ha];simp))).grow s).weak λb z=>?_⟩
    rcases z with(z|z)|z
    . exact .inr (.inl z)
    . exact .inl z
    . exact .inr (.inr z)
 trk:=λb z q=>by
  rcases z with(z|z)|z
  . exact S.trk b (.inl z) (s.free q)
  . rw[z,ha] at q;cases q
  . exact S.trk b (.inr z) (s.free q)
 yo:=S.yo
 tk:=t
 rt:=λb z=>by
  rcases z with z|z
  . exact(S.rt b z).grow s
  . rw[z];exact .inl ⟨xs,ha⟩
 inj:=λj j' pa' pa'' ds1 ds2 c e1 e2 e3 e4=>by
  have fr:∀{j:Nat} {pa:Bool} {ds:List D},σ[j]? = some (.own pa ds)->σV[j]? = some (some (.ref a))->False:=λ{j pa ds} e q=>by
   obtain⟨a',xs',h1,h2,_⟩:=S.own j pa ds e
   rw[q] at h1
   cases h1
   rw[hn] at h2;cases h2
  rcases set_some e1 with⟨rfl,e,hl⟩|⟨n1,e1⟩
  . rcases set_some e2 with⟨rfl,_,_⟩|⟨n2,e2⟩
    . rfl
    . rw[List.getElem?_set_self (by rw[<-S.len];exact hl)] at e3
      cases e3
      rw[List.getElem?_set_ne n2] at e4
      exact(fr e2 e4).elim
  . rw[List.getElem?_set_ne n1] at e3
    rcases set_some e2 with⟨rfl,e,hl⟩|⟨n2,e2⟩
    . rw[List.getElem?_set_self (by rw[<-S.len];exact hl)] at e4
      cases e4
      exact(fr e1 e3).elim
    . rw[List.getElem?_set_ne n2] at e4
      exact S.inj j j' pa' pa'' ds1 ds2 c e1 e2 e3 e4
 len:=by rw[List.length_set,List.length_set];exact S.len
 dx:=S.dx.imp id (λj ds e=>by
  rcases set_some e with⟨_,z,_⟩|⟨hij,e⟩
  . cases z
  . exact⟨e,List.getElem?_set_ne hij⟩) (λ_ _ _ _ _ _ e=>e) (λb ys e z _=>⟨s _ _ e,.inl z⟩) (λ_ _ r=>aG.seqT s r) (λj ds es e=>by
  rcases set_some e with⟨_,z,_⟩|⟨hij,e⟩
  . cases z
  . exact⟨e,List.getElem?_set_ne hij⟩) (λ_ _ _ _ _ _ _ _ e=>e) λp ys e z=>⟨s _ _ e,.inl z.1,z.2.1,λk pa' ds q w=>by
  rcases set_some q with⟨rfl,_,hl⟩|⟨hij,q⟩
  . rw[List.getElem?_set_self (by rw[<-S.len];exact hl)] at w
    cases w
    rw[hn] at e;cases e
  . rw[List.getElem?_set_ne hij] at w;exact z.2.2 k pa' ds q w⟩
theorem fB{v:Vl}(h:v.fr=false):v.slot=.sh v.pa v.d:=by
 unfold Vl.slot
 rw[h]
theorem aBj{v:Vl}{ds:List D}(h:v.fr=true)(hd:v.d=.lst ds):v.slot=.own v.pa ds:=by
 unfold Vl.slot
 rw[h,hd]
theorem Sx.store(S:Sx K RT Y old σ σV H){v:Vl}{u:V}(ro:Ro K RT Y old σ σV H H' v u)(t:Tk K H')(i:Nat) :
 ∃RT',Sx K RT' Y old ((freeze σ v.al).set i v.slot) (σV.set i (some u)) H'/\∀b,RT' b->RT b\/H b=none:=by
 by_cases hf:v.fr=true
 . obtain⟨s,h⟩:=ro
   rw[if_pos hf] at h
   obtain⟨a,xs,ds,e1,e2,e3,e4,r⟩:=h
   subst e1
   rw[aBj hf e2]
   refine⟨_,(S.frz v.al).storeOwn s t e3 e4 (r.weak λb z=>?_),λb z=>z.elim (λz=>.inl z.1) λz=>.inr (by rw[z];exact e3)⟩
   rcases z with(z|z)|z
   . exact .inr (.inl z)
   . exact .inl z
   . exact .inr (.inr z)
 . rw[fB (by simpa using hf)]
   exact⟨_,((S.grow ro.1 t).frz v.al).setSh (ro.rv S),λb z=>.inl z.1⟩
theorem aCn:∀{is:List Nat} {us:List V} {σV:L2.St} {H:Hp} {Q:L2.St->Hp->Prop},is.length=us.length->Q ((is.zip us).foldl (λs p=>s.set p.1 (some p.2)) σV) H->gs is us σV H Q
 | [],[],_,_,_,_,h=>⟨rfl,h⟩
 | [],_::_,_,_,_,e,_=>by simp at e
 | _::_,[],_,_,_,e,_=>by simp at e
 | i::is,u::us,σV,H,Q,e,h=>⟨u,us,rfl,aCn (is:=is) (us:=us) (by simpa using e) h⟩
theorem oX{v:Vl}{d:D}:(v.sub d).slot=.sh (!noL d&&v.pa) d:=by
 rw[fB nB]
 unfold Vl.sub Vl.cl
 split
 . rename_i h;rw[h];rfl
 . rename_i h
   have:noL d=false:=by simpa using h
   rw[this];rfl
theorem Sx.setAll{v:Vl}:∀{is:List Nat} {ds:List D} {us:List V} {σ:Sg} {σV:L2.St},Sx K RT Y old σ σV H->Reps K H (λa=>RT a\/exB Y old v.pa a) ds us ->
 Sx K RT Y old ((is.zip ds).foldl (λσ p=>σ.set p.1 (v.sub p.2).slot) σ) ((is.zip us).foldl (λs p=>s.set p.1 (some p.2)) σV) H
 | [],_,_,_,_,S,_=>S
 | _::_,[],us,_,_,S,r=>by rw[show us=[] from r];exact S
 | i::is,d::ds,us,σ,σV,S,r=>by
  obtain⟨x,r',e,h1,h2⟩:=r
  subst e
  refine Sx.setAll (v:=v) (is:=is) (ds:=ds) (us:=r') ?_ h2
  show Sx K RT Y old (σ.set i (v.sub d).slot) (σV.set i (some x)) H
  rw[oX]
  refine S.setSh ?_
  cases hn:noL d with
  | true=>exact Rep.free d x hn h1
  | false=>exact h1
theorem iA{α:Type}{β:Type}(f:β->α):∀{is:List Nat} {bs:List β} {l:List α} {j:Nat},j∉is->((is.zip bs).foldl (λs p=>s.set p.1 (f p.2)) l)[j]? = l[j]?
 | [],_,_,_,_=>rfl
 | _::_,[],_,_,_=>rfl
 | i::is,b::bs,l,j,h=>by
  have h':i≠j/\j∉is:=by
   refine⟨λe=>h (by simp[e]),λz=>h (List.mem_cons_of_mem _ z)⟩
  rw[List.zip_cons_cons,List.foldl_cons,iA f (is:=is) (bs:=bs) h'.2,List.getElem?_set_ne h'.1]
theorem oY{α:Type}{β:Type}(f:β->α):∀{is:List Nat} {bs:List β} {l:List α},((is.zip bs).foldl (λs p=>s.set p.1 (f p.2)) l).length=l.length
 | [],_,_=>rfl
 | _::_,[],_=>rfl
 | i::is,b::bs,l=>by rw[List.zip_cons_cons,List.foldl_cons,oY f (is:=is) (bs:=bs),List.length_set]
theorem fold_mem{α:Type}{β:Type}(f:β->α):∀{is:List Nat} {bs:List β} {l:List α} {j:Nat} {x:α},((is.zip bs).foldl (λs p=>s.set p.1 (f p.2)) l)[j]? = some x->l[j]? = some x\/∃b,x=f b
 | [],_,_,_,_,h=>.inl h
 | _::_,[],_,_,_,h=>.inl h
 | i::is,b::bs,l,j,x,h=>by
  rw[List.zip_cons_cons,List.foldl_cons] at h
  rcases fold_mem f (is:=is) (bs:=bs) h with q|q
  . rcases set_some q with⟨_,e,_⟩|⟨_,e⟩
    . exact .inr ⟨b,e.symm⟩
    . exact .inl e
  . exact .inr q
theorem jY{v:Vl}{is:List Nat}{σ2:Sg}(e:bM σ v (.t is)=.ok σ2):∃ds,v.d=.tup ds/\ds.length=is.length/\σ2=(is.zip ds).foldl (λσ p=>σ.set p.1 (v.sub p.2).slot) σ:=by
 unfold bM at e
 simp only at e
 split at e
 . rename_i ds hd
   split at e
   . rename_i hl
     cases e
     exact⟨ds,hd,hl,rfl⟩
   . cases e
 . cases e
theorem jZ{v:Vl}{i:Nat}{σ2:Sg}(e:bM σ v (.n i)=.ok σ2):σ2=σ.set i v.slot:=by
 cases(show R.ok (σ.set i v.slot)=R.ok σ2 from e)
 rfl
theorem yL{v:Vl}{t:T}{σ2:Sg}{j:Nat}(e:bM σ v t=.ok σ2)(h:j∉tIx t):σ2[j]? = σ[j]? := by
 cases t with
 | n i=>
  rw[jZ e]
  exact List.getElem?_set_ne λz=>h (by simp[tIx,z])
 | t is=>
  obtain⟨ds,_,_,e⟩:=jY e
  rw[e]
  exact iA (λd=>(v.sub d).slot) h
theorem yM{v:Vl}{t:T}{σ2:Sg}(e:bM σ v t=.ok σ2):σ2.length=σ.length:=by
 cases t with
 | n i=>rw[jZ e,List.length_set]
 | t is=>
  obtain⟨ds,_,_,e⟩:=jY e
  rw[e]
  exact oY (λd=>(v.sub d).slot)
theorem yN{v:Vl}{t:T}{σ2:Sg}{j:Nat}{pa:Bool}{ds:List D}(hf:v.fr=false)(e:bM σ v t=.ok σ2)(h:σ2[j]? = some (.own pa ds)):σ[j]? = some (.own pa ds):=by
 cases t with
 | n i=>
  rw[jZ e,fB hf] at h
  rcases set_some h with⟨_,e,_⟩|⟨_,e⟩
  . cases e
  . exact e
 | t is=>
  obtain⟨ds',_,_,e⟩:=jY e
  rw[e] at h
  rcases fold_mem (λd=>(v.sub d).slot) h with q|⟨b,q⟩
  . exact q
  . rw[oX] at q;cases q
theorem yO(S:Sx K RT Y old σ σV H){t:T}{v:Vl}{u:V}{Q:L2.St->Hp->Prop}{σ2:Sg}(hfr:v.fr=false)(h:Rep K H (λa=>RT a\/exB Y old v.pa a) v.d u)(e:bM σ v t=.ok σ2)
 (q:∀σ2V,Sx K RT Y old σ2 σ2V H->(∀j,j∉tIx t->σ2V[j]? = σV[j]?)->Q σ2V H):gT K t u σV H Q:=by
 cases t with
 | n i=>
  rw[jZ e,fB hfr] at q
  exact q _ (S.setSh h) λj hj=>List.getElem?_set_ne λz=>hj (by simp[tIx,z])
 | t is=>
  obtain⟨ds,hd,hl,e⟩:=jY e
  rw[hd] at h
  obtain⟨a,xs,rfl,hq,r⟩:=h
  have l2:=r.length
  refine⟨a,xs,rfl,hq,by omega,aCn (by omega) (q _ ?_ λj hj=>?_)⟩
  . rw[e];exact S.setAll r
  . exact iA (λd=>some d) hj
end
section
variable {X:Cx} {P:Pg} {Γ:Ct} {n:Nat} {RT Y old:Addr->Prop} {σ:Sg} {tg:Expr} {pos:Pos}
theorem oZ(M:Mc X P Γ n):∀{is:List Nat} {es:List Expr},is.length=es.length->((is.zip es).all λp=>match p.2 with|.Name x _=>aU Γ p.1 x|_=>false)=true ->
 PGs X es (gs is)/\(assignEach es X.env).length=is.length/\(assignEach es X.env).findIdx? (·.1)=none
 | [],[],_,_=>⟨aAt,rfl,rfl⟩
 | [],_::_,e,_=>by simp at e
 | _::_,[],e,_=>by simp at e
 | i::is,e::es,hl,h=>by
  rw[List.zip_cons_cons,List.all_cons,bA] at h
  obtain⟨h1,h2,h3⟩:=oZ M (is:=is) (es:=es) (by simpa using hl) h.2
  cases e with
  | Name x p=>
   have hs:aU Γ i x=true:=h.1
   unfold aU at hs
   simp only[bA,beq_iff_eq] at hs
   have e1:assignEach (.Name x p::es) X.env=(false,assign (.Name x p) X.env)::assignEach es X.env:=rfl
   refine⟨vV (rQ M.nd (by rw[M.N];exact hs.1.1) (M.loc hs.1.2) (M.st x hs.1.2)) h1 (by rw[e1];rfl),?_,?_⟩
   . rw[e1,lC,lC,h2]
   . rw[e1,List.findIdx?_cons]
     simp[h3]
  | _=>cases h.1
theorem aBk(M:Mc X P Γ n){t:T}(h:kN Γ t tg=true):PG X tg (gT X.K t):=by
 cases t with
 | n i=>
  cases tg with
  | Name x p=>
   have hs:aU Γ i x=true:=h
   unfold aU at hs
   simp only[bA,beq_iff_eq] at hs
   exact rQ M.nd (by rw[M.N];exact hs.1.1) (M.loc hs.1.2) (M.st x hs.1.2)
  | _=>cases h
 | t is=>
  cases tg with
  | Tuple es k p=>
   have h:(is.length==es.length&&(is.zip es).all λp=>match p.2 with|.Name x _=>aU Γ p.1 x|_=>false)=true:=h
   rw[bA,beq_iff_eq] at h
   obtain⟨h1,h2,h3⟩:=oZ M h.1 h.2
   exact aCQ M.calm h1 h2 h3
  | _=>cases h
def ch0(k:Nat)(caps:List Nat)(σ:Sg):Sg:=List.replicate k .dead++caps.map λi=>(σ[i]?).getD .dead
theorem ch0_get{k:Nat}{caps:List Nat}{σ:Sg}{j:Nat}{s:Sl}(h:(ch0 k caps σ)[j]? = some s):s=.dead\/∃j' i,j=k+j'/\caps[j']? = some i/\σ[i]? = some s:=by
 unfold ch0 at h
 by_cases hj:j<k
 . rw[List.getElem?_append_left (by simpa using hj),List.getElem?_replicate,if_pos hj] at h
   cases h
   exact .inl rfl
 . rw[List.getElem?_append_right (by simpa using hj),List.length_replicate,List.getElem?_map] at h
   cases e:caps[j-k]? with
   | none=>rw[e] at h;cases h
   | some i=>
    rw[e] at h
    have h':(σ[i]?).getD .dead=s:=Option.some.inj h
    cases q:σ[i]? with
    | none=>rw[q] at h';exact .inl h'.symm
    | some z=>rw[q] at h';exact .inr ⟨j-k,i,by omega,e,by rw[q];exact congrArg some h'⟩
theorem yP{k:Nat}{caps:List Nat}{σ:Sg}{j:Nat}{s:Sl}(hj:j<k)(h:(ch0 k caps σ)[j]? = some s):s=.dead:=by
 unfold ch0 at h
 rw[List.getElem?_append_left (by simpa using hj),List.getElem?_replicate,if_pos hj] at h
 cases h
 rfl
theorem iZ{k:Nat}{caps:List Nat}{σV:L2.St}{j i:Nat}{v:V}(e:caps[j]? = some i)(h:σV[i]? = some (some v)):(fM k caps σV)[k+j]? = some (some v):=by
 unfold fM
 rw[List.getElem?_append_right (by simp),List.length_replicate,List.getElem?_map,Nat.add_sub_cancel_left,e]
 show some ((σV[i]?).getD none)=_
 rw[h];rfl
theorem jA{k:Nat}{caps:List Nat}{σV:L2.St}{j i:Nat}{v:V}(e:caps[j]? = some i)(h:(fM k caps σV)[k+j]? = some (some v)):σV[i]? = some (some v):=by
 unfold fM at h
 rw[List.getElem?_append_right (by simp),List.length_replicate,List.getElem?_map,Nat.add_sub_cancel_left,e] at h
 have h':(σV[i]?).getD none=some v:=Option.some.inj h
 cases q:σV[i]? with
 | none=>rw[q] at h';cases h'
 | some z=>rw[q] at h';exact congrArg some h'
theorem fC{α:Type}:∀{l:List α},l.Nodup->∀{i j:Nat} {x:α},l[i]? = some x->l[j]? = some x->i=j
 | [],_,_,_,_,h,_=>by simp at h
 | a::l,hn,0,0,_,_,_=>rfl
 | a::l,hn,0,j+1,x,h1,h2=>by
  have e:a=x:=by simpa using h1
  have:x∈l:=mG (by simpa using h2)
  subst e
  exact absurd this (List.nodup_cons.mp hn).1
 | a::l,hn,i+1,0,x,h1,h2=>by
  have e:a=x:=by simpa using h2
  have:x∈l:=mG (by simpa using h1)
  subst e
  exact absurd this (List.nodup_cons.mp hn).1
 | a::l,hn,i+1,j+1,x,h1,h2=>congrArg (·+1) (fC (List.nodup_cons.mp hn).2 (i:=i) (j:=j) (x:=x) (by simpa using h1) (by simpa using h2))
theorem Sx.child{K:Fg}{σV:L2.St}{H:Hp}(S:Sx K RT Y old σ σV H){k:Nat}{caps:List Nat}(nd:caps.Nodup):Sx K RT Y old (ch0 k caps σ) (fM k caps σV) H where
 sh:=λj pa d e=>by
  rcases ch0_get e with z|⟨j',i,rfl,hc,hs⟩
  . cases z
  . obtain⟨v,h1,h2⟩:=S.sh i pa d hs
    exact⟨v,iZ hc h1,h2⟩
 own:=λj pa ds e=>by
  rcases ch0_get e with z|⟨j',i,rfl,hc,hs⟩
  . cases z
  . obtain⟨a,xs,h1,h2⟩:=S.own i pa ds hs
    exact⟨a,xs,iZ hc h1,h2⟩
 trk:=S.trk
 yo:=S.yo
 tk:=S.tk
 rt:=S.rt
 inj:=λj1 j2 pa pa' ds ds' a e1 e2 e3 e4=>by
  rcases ch0_get e1 with z|⟨j1',i1,rfl,hc1,hs1⟩
  . cases z
  rcases ch0_get e2 with z|⟨j2',i2,rfl,hc2,hs2⟩
  . cases z
  have:=S.inj i1 i2 pa pa' ds ds' a hs1 hs2 (jA hc1 e3) (jA hc2 e4)
  subst this
  rw[fC nd hc1 hc2]
 len:=by
  unfold ch0 fM
  rw[lA,lA,lM,lM,List.length_replicate,List.length_replicate]
 dx:=S.dx.imp (λj=>(caps[j-k]?).getD 0) (λj ds e=>by
  rcases ch0_get e with z|⟨j',i,rfl,hc,hs⟩
  . cases z
  . rw[Nat.add_sub_cancel_left,hc]
    refine⟨hs,?_⟩
    obtain⟨a,xs,h1,_⟩:=S.dx.at' i ds hs
    rw[iZ hc h1]
    exact h1.symm) (λj1 j2 ds ds' e1 e2 q=>by
  rcases ch0_get e1 with z|⟨j1',i1,rfl,hc1,_⟩
  . cases z
  rcases ch0_get e2 with z|⟨j2',i2,rfl,hc2,_⟩
  . cases z
  rw[Nat.add_sub_cancel_left,Nat.add_sub_cancel_left,hc1,hc2] at q
  have q:i1=i2:=q
  subst q
  rw[fC nd hc1 hc2]) (λ_ _ e z _=>⟨e,z⟩) (λ_ _ r=>r) (λj ds es e=>by
  rcases ch0_get e with z|⟨j',i,rfl,hc,hs⟩
  . cases z
  . rw[Nat.add_sub_cancel_left,hc]
    refine⟨hs,?_⟩
    obtain⟨a,_,_,_,_,h1,_⟩:=S.dx.at2 i ds es hs
    rw[iZ hc h1]
    exact h1.symm) (λj1 j2 ds es ds' es' e1 e2 q=>by
  rcases ch0_get e1 with z|⟨j1',i1,rfl,hc1,_⟩
  . cases z
  rcases ch0_get e2 with z|⟨j2',i2,rfl,hc2,_⟩
  . cases z
  rw[Nat.add_sub_cancel_left,Nat.add_sub_cancel_left,hc1,hc2] at q
  have q:i1=i2:=q
  subst q
  rw[fC nd hc1 hc2]) λp xs e z=>⟨e,z.1,z.2.1,λj pa ds q w=>by
  rcases ch0_get q with v|⟨j',i,rfl,hc,hs⟩
  . cases v
  . exact z.2.2 i pa ds hs (jA hc w)⟩
theorem Sx.forget{K:Fg}{σ':Sg}{σV:L2.St}{H:Hp}(S:Sx K RT Y old σ σV H)(hl:σ'.length=σ.length)(h:∀(j:Nat) (s:Sl),σ'[j]? = some s->s=.dead\/σ[j]? = some s):Sx K RT Y old σ' σV H where
 sh:=λj pa d e=>by
  rcases h j _ e with z|z
  . cases z
  . exact S.sh j pa d z
 own:=λj pa d e=>by
  rcases h j _ e with z|z
  . cases z
  . exact S.own j pa d z
 trk:=S.trk
 yo:=S.yo
 tk:=S.tk
 rt:=S.rt
 inj:=λj1 j2 pa pa' ds ds' a e1 e2 e3 e4=>by
  rcases h j1 _ e1 with z|z1
  . cases z
  rcases h j2 _ e2 with z|z2
  . cases z
  exact S.inj j1 j2 pa pa' ds ds' a z1 z2 e3 e4
 len:=by rw[hl];exact S.len
 dx:=S.dx.imp id (λj ds e=>(h j _ e).elim (λz=>by cases z) λz=>⟨z,rfl⟩) (λ_ _ _ _ _ _ e=>e) (λ_ _ e z _=>⟨e,z⟩) (λ_ _ r=>r) (λj ds es e=>(h j _ e).elim (λz=>by cases z) λz=>⟨z,rfl⟩) (λ_ _ _ _ _ _ _ _ e=>e) λp xs e z=>⟨e,z.1,z.2.1,λk pa ds q=>(h k _ q).elim (λw=>by cases w) λw=>z.2.2 k pa ds w⟩
def wTs(X:Cx)(P:Pg)(n:Nat)(RT Y old:Addr->Prop)(σ:Sg)(cs:Es):TT:=λσV H Q=>Sx X.K RT Y old σ σV H/\RE (wx X σV H) (tsts P (call P n) σ cs) λk=>∀H',Tk X.K H'->aG H H'->Q k H'
def uS(K:Fg)(P:Pg)(n:Nat)(RT Y old:Addr->Prop)(σ:Sg)(cs:Es):TT:=λσV H Q=>Sx K RT Y old σ σV H/\RE (λ_=>False) (tsts P (call P n) σ cs) λk=>∀H',Tk K H'->aG H H'->Q k H'
def clW(K:Fg)(W:Value->L2.St->Hp->Prop)(σV:L2.St)(H:Hp):D->Prop
 | .err c _=>∀cls:Value,PySem.W.nsIn K mainGlobals c=some (some cls)->W cls σV H
 | _=>False
theorem clW.xw{X:Cx}{W:Value->L2.St->Hp->Prop}(h:Rs X W){σV:L2.St}{H:Hp}{x:D}(z:clW X.K W σV H x):XW X σV H x:=by
 cases x with
 | err c fs=>exact λcls q pins s a I fl=>h pins σV H s a cls I fl (z cls q)
 | _=>exact z
def wE0(K:Fg)(P:Pg)(n:Nat)(W:Value->L2.St->Hp->Prop)(RT Y old:Addr->Prop)(σ:Sg)(c:E):TE:=λσV H Q=>Sx K RT Y old σ σV H/\RE (λx=>∀H',Tk K H'->aG H H'->clW K W σV H' x) (ev P (call P n) σ c) λv=>∀u H',Tk K H'->Ro K RT Y old σ σV H H' v u->Q u H'
theorem sJ{es:List Expr}{cs:Es}(h:PTs X es (wTs X P n RT Y old σ cs)):PTs X es (uS X.K P n RT Y old σ cs):=λpins s σV H Q I ⟨S,q⟩=>h pins s σV H Q I ⟨S,q.weak λ_ z=>z.elim⟩
theorem yQ{e:Expr}{c:E}{W:Value->L2.St->Hp->Prop}(rs:Rs X W)(h:PE X e (WE X P n RT Y old σ c)):PE X e (wE0 X.K P n W RT Y old σ c):=λpins s σV H Q I ⟨S,q⟩=>h pins s σV H Q I ⟨S,q.weak λ_ z H' t s'=>clW.xw rs (z H' t s')⟩
theorem aDJ:PTs X [] (wTs X P n RT Y old σ .nil):=λpins s σV H Q I ⟨S,h⟩=>aAX pins s σV H Q I ((show ∀H',Tk X.K H'->aG H H'->Q true H' from h) H I.tk (aG.refl H))
theorem aDK{c:E}{e:Expr}(h:PT X e (WT X P n RT Y old σ c)):PTs X [e] (wTs X P n RT Y old σ (.cons c .nil)):=λpins s σV H Q I ⟨S,hh⟩=>aAY h pins s σV H Q I ⟨S,by
 have hh:=RE.bind' (show RE _ (tst P (call P n) σ c >>= λx=>if x=true then tsts P (call P n) σ .nil else R.ok false) _ from hh)
 refine hh.mono λk hk=>?_
 cases k with
 | true=>exact hk
 | false=>exact hk⟩
theorem Rvs.append{K:Fg}{σV:L2.St}{H:Hp}:∀{vs ws:List Vl} {us zs:List V},Rvs K RT Y old σ σV H vs us->Rvs K RT Y old σ σV H ws zs->Rvs K RT Y old σ σV H (vs++ws) (us++zs)
 | [],_,_,_,h,q=>by rw[show _=[] from h];exact q
 | v::vs,_,_,_,h,q=>by
  obtain⟨u,r,e,h1,h2⟩:=h
  subst e
  exact⟨u,_,rfl,h1,Rvs.append h2 q⟩
def lv(k:Nat)(caps al:List Nat)(v:Vl):Vl:=⟨v.d,false,v.pa,al++v.al.filterMap λj=>caps[j-k]?⟩
theorem iB(σ:Sg)(v:Vl)(t:T):∀z,bM σ v t≠.exc z:=λz q=>by
 unfold bM at q
 repeat' split at q
 all_goals cases q
theorem RE.both{α:Type}{x:R α}{p q:α->Prop}{w w':D->Prop}(h:RE w x p)(f:∀e,w e->x=.exc e->w' e)(g:∀a,p a->q a):RE w' x q:=by
 cases x with
 | ok a=>exact g a h
 | exc e=>exact f e h rfl
 | bad=>exact h
theorem yR{fn:Bool}{k:Nat}{caps:List Nat}{t:T}{it:Hp.It}{cond:Es}{elt:E}(hnd:caps.Nodup)(hk:∀i∈tIx t,i<k)(hcm:(fn||eC elt)=true){σV:L2.St}{H:Hp}{Q:VK}(hw:WE X P n RT Y old σ (.comp k caps t it cond elt) σV H Q) :
 xQ (λc σ H=>fn=true/\RX X c σ H) k caps (wI X P n RT Y old σ it) (gT X.K t) (λσV H Q=>∃RT Y old σ1,uS X.K P n RT Y old σ1 cond σV H Q) (λW σV H Q=>∃RT Y old σ1,wE0 X.K P n W RT Y old σ1 elt σV H Q) σV H λv H'=>Tk X.K H'->Q v H':=by
 obtain⟨S,h⟩:=hw
 let f:List Nat->Vl->R (Option Vl):=λal x=>bM (ch0 k caps (freeze σ al)) x t >>= λσ1=>(tsts P (call P n) σ1 cond).calm >>= λb=>if b=true then (ev P (call P n) σ1 elt >>= λy=>R.ok (some y)) else R.ok none
 have h:=RE.bind' (show RE _ (walk P (call P n) σ it >>= λxs=>R.iff (decide (xs.1.length<=lim)) (cY (f xs.2) xs.1 >>= λvs=>R.ok (dP k caps xs.2 vs))) (Wn X RT Y old σ σV H Q) from h)
 refine⟨S,h.mono λxs hx J H1 t1 s1 ok=>?_⟩
 obtain⟨hl,hx⟩:=hx.iff
 have hl:=of_decide_eq_true hl
 have hx:RE (wx X σV H) (cY (f xs.2) xs.1) λvs=>Wn X RT Y old σ σV H Q (dP k caps xs.2 vs):=RE.bind' hx
 have S1:=S.grow s1 t1
 have Sf:=S1.frz xs.2
 refine⟨λi m ys σ1V Hc=>m=xs.1.length-i/\i<=xs.1.length/\aG H1 Hc/\Tk X.K Hc/\Sx X.K (rtF RT σ σV xs.2) Y old (ch0 k caps (freeze σ xs.2)) σ1V Hc/\(∀j,k<=j->σ1V[j]? = (fM k caps σV)[j]?) /\
  ∃ws:List Vl,ws.length<=i/\RE (wx X σV H) (cY (f xs.2) (xs.1.drop i)) (λrs=>Wn X RT Y old σ σV H Q (dP k caps xs.2 (ws++rs)))/\Rvs X.K RT Y old σ σV Hc (ws.map (lv k caps xs.2)) ys,⟨_,rfl,Nat.zero_le _,aG.refl _,t1,Sf.child hnd,λ_ _=>rfl,[],Nat.le_refl _,hx,rfl⟩,?_⟩
 rintro i m ys σ1V Hc ⟨hm,hi,sc,tc,Sc,hcap,ws,hws,ego,rvs⟩
 have okc:=ok.ok (λ_=>False) (λ_ z=>z.elim) i Hc (Kp.same sc)
 have hly:=rvs.length
 rw[lM] at hly
 by_cases hlt:i<xs.1.length
 . refine .inr ⟨okc.1 hlt,by rw[<-hly,sizeLine_eq];have:lim=1000000:=rfl;omega,λx H' hy=>?_⟩
   have hxi:xs.1[i]? = some xs.1[i]:=List.getElem?_eq_getElem hlt
   obtain⟨sm,tkf,rv⟩:=okc.2.2 x H' hy xs.1[i] hxi
   have rv:Rep X.K H' (exV RT Y old σ σV xs.1[i].pa xs.1[i].al) xs.1[i].d x:=Rep.weak rv λa z=>.inl z
   rw[List.drop_eq_getElem_cons hlt] at ego
   have ego:=RE.bind' (show RE (wx X σV H) (f xs.2 xs.1[i] >>= λy=>cY (f xs.2) (xs.1.drop (i+1)) >>= λys=>(match y with|some y=>R.ok (y::ys)|none=>R.ok ys)) _ from ego)
   obtain⟨σ1,eσ,ef⟩:=(RE.bind' (show RE (wx X σV H) (bM (ch0 k caps (freeze σ xs.2)) xs.1[i] t >>= λσ1=>(tsts P (call P n) σ1 cond).calm >>= λb=>if b=true then (ev P (call P n) σ1 elt >>= λy=>R.ok (some y)) else R.ok none) _ from ego)).eqc (iB _ _ _)
   obtain⟨b,eb,ef⟩:=RE.calmEq (RE.bind' ef)
   have hmem:xs.1[i]∈xs.1:=List.getElem_mem hlt
   have hnf:=ok.nofr _ hmem
   have rep:Rep X.K H' (λa=>rtF RT σ σV xs.2 a\/exB Y old xs.1[i].pa a) xs.1[i].d x:=Rep.weak rv λa z=>by
    rcases z with z|z
    . exact .inl ⟨z.1,λq=>z.2 (q.mono (ok.sub _ hmem))⟩
    . exact .inr z
   refine yO (Sc.grow sm (tkf tc)) hnf rep eσ λσ2V S2 hkeep=>⟨_,_,_,σ1,S2,?_⟩
   rw[eb]
   intro H3 t3 s3
   have capk:∀j,k<=j->σ2V[j]? = (fM k caps σV)[j]? := λj hj=>by
    rw[hkeep j λz=>absurd (hk j z) (Nat.not_lt.mpr hj),hcap j hj]
   have back:∀{H5:Hp},Sx X.K (rtF RT σ σV xs.2) Y old σ1 σ2V H5->Sx X.K (rtF RT σ σV xs.2) Y old (ch0 k caps (freeze σ xs.2)) σ2V H5:=λ{H5} S5=>S5.forget (yM eσ).symm λj s hs=>by
    by_cases hj:j∈tIx t
    . exact .inl (yP (hk j hj) hs)
    . exact .inr (by rw[yL eσ hj];exact hs)
   cases b with
   | false=>
    rw[if_neg bN] at ef ⊢
    have ef:RE (wx X σV H) (cY (f xs.2) (xs.1.drop (i+1)) >>= λys=>R.ok ys) λrs=>Wn X RT Y old σ σV H Q (dP k caps xs.2 (ws++rs)):=ef
    exact⟨_,by omega,rfl,hlt,sc.trans (sm.trans s3),t3,back (S2.grow s3 t3),capk,ws,by omega,RE.bind' ef,rvs.grow (sm.trans s3)⟩
   | true=>
    rw[if_pos rfl] at ef ⊢
    have ef:=RE.bind' ef
    have hwx:∀x,wx X σV H x->ev P (call P n) σ1 elt=.exc x->∀H',Tk X.K H'->aG H3 H'->clW X.K (λc _ H=>fn=true/\RX X c σV H) σ2V H' x:=λx z ex H' t' s'=>by
     have z:=z H' t' (s1.trans (sc.trans (sm.trans (s3.trans s'))))
     have hf:fn=true:=by
      cases fn with
      | true=>rfl
      | false=>exact absurd ex (fA (by simpa using hcm) x)
     cases x with
     | err c fs=>exact λcls q=>⟨hf,z cls q⟩
     | _=>exact z
    refine⟨_,_,_,σ1,S2.grow s3 t3,RE.both ef hwx λy ey u H4 t4 ro4=>?_⟩
    have ey:RE (wx X σV H) (cY (f xs.2) (xs.1.drop (i+1)) >>= λys=>R.ok (y::ys)) λrs=>Wn X RT Y old σ σV H Q (dP k caps xs.2 (ws++rs)):=ey
    have s4:=ro4.1
    have rv4:Rep X.K H4 (exV (rtF RT σ σV xs.2) Y old σ1 σ2V y.pa y.al) y.d u:=ro4.rv (S2.grow s3 t3)
    refine⟨_,by omega,rfl,hlt,sc.trans (sm.trans (s3.trans s4)),t4,back ((S2.grow s3 t3).grow s4 t4),capk,ws++[y],by rw[lA,List.length_singleton];omega,(RE.bind' ey).mono λrs hr=>by rw[List.append_assoc];exact hr,?_⟩
    rw[List.map_append]
    refine(rvs.grow (sm.trans (s3.trans s4))).append ⟨u,[],rfl,?_,rfl⟩
    show Rep X.K H4 (exV RT Y old σ σV y.pa (xs.2++y.al.filterMap λj=>caps[j-k]?)) y.d u
    refine rv4.weak λc z=>?_
    rcases z with⟨z1,z2⟩|z
    . refine .inl ⟨⟨z1,λq=>z2 (q.mono λj hj=>List.mem_append_left _ hj)⟩,λq=>z2 ?_⟩
      obtain⟨j,hj,⟨pa,ds,ho⟩,hV⟩:=q
      have ho:=yN hnf eσ ho
      rcases ch0_get ho with z|⟨j',i',rfl,hc,hs⟩
      . cases z
      . rw[capk _ (Nat.le_add_right _ _)] at hV
        refine⟨i',List.mem_append_right _ (List.mem_filterMap.mpr ⟨k+j',hj,by rw[Nat.add_sub_cancel_left];exact hc⟩),⟨pa,ds,(cJ hs).1⟩,jA hc hV⟩
    . exact .inr z
 . have hie:i=xs.1.length:=by omega
   subst hie
   rw[List.drop_length] at ego
   have hq:Wn X RT Y old σ σV H Q (dP k caps xs.2 (ws++[])):=ego
   rw[List.append_nil] at hq
   refine .inl ⟨okc.2.1 (Nat.le_refl _),by rw[<-hly];exact cN (by omega),λp hp t'=>hq _ _ t' ?_⟩
   have Sc':=S.grow (s1.trans sc) tc
   have emap:(ws.map (lv k caps xs.2)).map (·.d)=ws.map (·.d):=by rw[List.map_map];rfl
   have rr:Reps X.K Hc (exV RT Y old σ σV (dO ws) (xs.2++(bI ws).filterMap λj=>caps[j-k]?)) (ws.map (·.d)) ys:=by
    rw[<-emap]
    refine rvs.reps λv hv=>?_
    obtain⟨w,hw,e⟩:=List.mem_map.mp hv
    subst e
    refine⟨λz=>oH hw z,λj hj=>?_⟩
    rcases List.mem_append.mp hj with z|z
    . exact List.mem_append_left _ z
    . obtain⟨j',hj',e⟩:=List.mem_filterMap.mp z
      exact List.mem_append_right _ (List.mem_filterMap.mpr ⟨j',iM hw j' hj',e⟩)
   unfold dP
   split
   . rename_i hn
     exact(Ro.fresh hp t' rfl rfl Sc' (Reps.free _ _ hn rr)).from (s1.trans sc)
   . exact(Ro.fresh hp t' rfl rfl Sc' rr).from (s1.trans sc)
theorem aDL(M:Mc X P Γ n){k:Nat}{caps:List Nat}{t:T}{it:Hp.It}{cond:Es}{elt:E}{e iter:Expr}{ifs:List Expr}{scope:Scope}{N':List Str}(CS:bU X scope k caps N')(hnd:caps.Nodup)(hk:∀i∈tIx t,i<k)(hcm:(Γ.fn||eC elt)=true)
 (hi:PI X tg iter (wI X P n RT Y old σ it))
 (hch:∀C s₀ H₀ ex,PG (bD X scope N' C s₀ H₀ ex) tg (gT X.K t)/\(∀RT Y old σ1,PTs (bD X scope N' C s₀ H₀ ex) ifs (uS X.K P n RT Y old σ1 cond))/\∀pl E W,PassesOwn (model X.prog X.w) X.A (bD X scope N' C s₀ H₀ ex).env E->Rs ((bD X scope N' C s₀ H₀ ex).inTry pl E) W->∀RT Y old σ1,PE ((bD X scope N' C s₀ H₀ ex).inTry pl E) e (wE0 X.K P n W RT Y old σ1 elt))
 (hs:∀x,foldedSetIterable iter X.env x=pure x):PE X (.ListComp e [⟨tg,iter,ifs,0⟩] scope pos) (WE X P n RT Y old σ (.comp k caps t it cond elt)):=by
 refine(sF (g:=gT X.K t) (tt:=λσV H Q=>∃RT Y old σ1,uS X.K P n RT Y old σ1 cond σV H Q) (te:=λW σV H Q=>∃RT Y old σ1,wE0 X.K P n W RT Y old σ1 elt σV H Q) (WX:=λc σ H=>Γ.fn=true/\RX X c σ H) CS M.calm hi (λC s₀ H₀ ex=>?_) (λc σ H z=>⟨M.stk z.1,z.2⟩) hs).imp λσV H Q t0 hw=>yR hnd hk hcm hw
 . obtain⟨h1,h2,h3⟩:=hch C s₀ H₀ ex
   exact⟨h1,λpins s σV H Q I ⟨RT,Y,old,σ1,hw⟩=>h2 RT Y old σ1 pins s σV H Q I hw,λpl E W own rs pins s σV H Q I ⟨RT,Y,old,σ1,hw⟩=>h3 pl E W own rs RT Y old σ1 pins s σV H Q I hw⟩
end
section
variable {X:Cx} {P:Pg} {n:Nat} {RT Y old:Addr->Prop} {σ:Sg} {pos:Pos}
theorem yS{pins:List (Addr×Obj)}{σV:L2.St}{H:Hp}{s:Shared}(I:L2.Inv X pins σV H s):sysModules<s.heap.objs.size:=by
 have h:mainGlobals<s.heap.objs.size:=(I.mod.glob.keeps I.bk).lt
 exact Nat.lt_trans (by decide) h
def aDM:Key->V
 | .inl i=>.int i
 | .inr x=>.str x
theorem uT{a b:E}{p:Vl->Prop}{w:D->Prop}(h:RE w (ev P (call P n) σ (.dic (.cons a .nil) (.cons b .nil))) p) :
 RE w (ev P (call P n) σ a) λx=>RE w (ev P (call P n) σ b) λy=>∃k v,x.d=kD k/\y.d=.int v/\p (.cl (.dic [(kD k,.int v)])):=by
 have h:RE w ((ev P (call P n) σ a >>= λx=>R.ok [x]) >>= λks=>(ev P (call P n) σ b >>= λy=>R.ok [y]) >>= λvs=>
  (match (ks.map (λ(v:Vl)=>v.d):List D),(vs.map (λ(v:Vl)=>v.d):List D) with
   | [.int k],[.int v]=>R.ok (Vl.cl (.dic [(.int k,.int v)]))
   | [.str k],[.int v]=>R.ok (Vl.cl (.dic [(.str k,.int v)]))
   | [],[]=>R.ok (Vl.cl (.dic []))
   | _,_=>R.bad)) p:=h
 cases q1:ev P (call P n) σ a with
 | exc z=>rw[q1] at h;exact h
 | bad=>rw[q1] at h;exact h.elim
 | ok x=>
  rw[q1] at h
  cases q2:ev P (call P n) σ b with
  | exc z=>rw[q2] at h;exact h
  | bad=>rw[q2] at h;exact h.elim
  | ok y=>
   rw[q2] at h
   have h:RE w (match [x.d],[y.d] with
    | [.int k],[.int v]=>R.ok (Vl.cl (.dic [(.int k,.int v)]))
    | [.str k],[.int v]=>R.ok (Vl.cl (.dic [(.str k,.int v)]))
    | [],[]=>R.ok (Vl.cl (.dic []))
    | _,_=>R.bad) p:=h
   show ∃k v,x.d=kD k/\y.d=.int v/\p (.cl (.dic [(kD k,.int v)]))
   cases dx:x.d with
   | int k=>
    rw[dx] at h
    cases dy:y.d with
    | int v=>rw[dy] at h;exact⟨.inl k,v,rfl,rfl,h⟩
    | _=>rw[dy] at h;exact h.elim
   | str k=>
    rw[dx] at h
    cases dy:y.d with
    | int v=>rw[dy] at h;exact⟨.inr k,v,rfl,rfl,h⟩
    | _=>rw[dy] at h;exact h.elim
   | _=>rw[dx] at h;exact h.elim
theorem aBl{σV:L2.St}{H:Hp}{x:Vl}{u:V}{k:Key}(h:Rv X.K RT Y old σ σV H x u)(e:x.d=kD k):u=aDM k:=by
 cases k with
 | inl i=>exact h.int e
 | inr i=>exact h.str e
theorem aBm{k:Key}{v:Value}(h:aR (aDM k) v):iJ k v=true:=by
 cases k with
 | inl i=>obtain⟨t,rfl⟩:=h;exact tR i t
 | inr i=>obtain⟨t,rfl⟩:=h;exact gL i t
theorem aGh{a b:E}{ea eb:Expr}(ha:PE X ea (WE X P n RT Y old σ a))(hb:PE X eb (WE X P n RT Y old σ b)) :
 PE X (.Dict [some ea] [eb] pos) (WE X P n RT Y old σ (.dic (.cons a .nil) (.cons b .nil))):=by
 intro pins s σV H Q I hw
 obtain⟨S,h⟩:=hw
 have h1:=uT h
 have hp:H s.heap.objs.size=none:=I.fresh
 have I1:L2.Inv X pins σV (upd H s.heap.objs.size (.dK [])) { s with heap:=s.heap.push { cls:=.type "dict",data:=.dict #[] } }:=
  I.laid (a:=s.heap.objs.size) (o:=.dK []) (h':=s.heap.push { cls:=.type "dict",data:=.dict #[] }) (t':=s.toks) (λ_ _ q=>Heap.get?_push_of_some _ q) (Nat.le_refl _)
   ⟨Nat.zero_le _,beq_eq_false_iff_ne.mpr (Ne.symm (Nat.ne_of_lt (yS I))),[],.nil,Heap.DictOf.new s.heap⟩
 have sm:aG H (upd H s.heap.objs.size (.dK [])):=aG.new hp
 have S1:=S.grow sm I1.tk
 refine wpAny_Dict_walk (knd:=cA X.prog X.w) rfl rfl (λz=>nomatch z) (by decide:1<=15) (pairTrees_cons_walk ?_)
 refine thn (ha pins _ σV _ (λux H1=>WE X P n RT Y old σ b σV H1 λuy H2=>∃k v,ux=aDM k/\uy=.int v/\aG (upd H s.heap.objs.size (.dK [])) H2/\Wn X RT Y old σ σV H Q (.cl (.dic [(kD k,.int v)]))) I1
  (wE.one S1 (h1.at sm) λx u H1 hx t1 S2 r1=>wE.one S2 (hx.at (sm.trans r1.1)) λy u' H2 hy t2 S3 r2=>?_)) λkv s1 ⟨ux,H1,I2,rx,q1⟩=>thn (hb pins s1 σV H1 _ I2 q1) λvv s2 ⟨uy,H2,I3,ry,q2⟩=>pairTrees_nil_walk ?_
 . obtain⟨k,v,dx,dy,hW⟩:=hy
   exact⟨k,v,aBl (r1.rv S1) dx,(r2.rv S2).int dy,r1.1.trans r2.1,hW⟩
 . obtain⟨k,v,e1,e2,sm2,hW⟩:=q2
   subst e1 e2
   have hk:=aBm rx
   obtain⟨t2,rfl⟩:=ry
   have e0:H2 s.heap.objs.size=some (.dK []):=sm2 _ _ aV
   obtain⟨_,hs,vs0,r0,d0⟩:=(show bW X.prog X.w H2 s2.heap s.heap.objs.size (.dK []) from I3.hok _ _ e0)
   cases r0
   refine⟨[(k,.int v t2)],⟨hk,rfl,True.intro⟩,d0,λh' hd hsb=>?_⟩
   have I4:L2.Inv X pins σV (upd H2 s.heap.objs.size (.dK [(k,.int v)])) { s2 with heap:=h',toks:=s2.toks+1 }:=
    I3.write (x:=s.heap.objs.size) (e:=s.heap.objs.size) (by rw[e0];exact True.intro) (.inl rfl) (λb u hb e=>(hsb.2 b hb).trans e) (let ⟨o,_,_,ho,_⟩:=hd;⟨o,ho⟩)
     ⟨by rw[sizeLine_eq];exact(by decide:1<=16777216),hs,[(k,.int v t2)],.cons ⟨rfl,t2,rfl⟩ .nil,hd⟩
   refine⟨.ref s.heap.objs.size,_,I4,rfl,hW _ _ I4.tk (Ro.cl (λb o e=>?_) ⟨s.heap.objs.size,_,rfl,aV,k,.int v,[],rfl,rfl,rfl,rfl⟩)⟩
   have hb:b≠s.heap.objs.size:=λz=>by rw[z,hp] at e;cases e
   rw[aE hb]
   exact sm2 b o (sm b o e)
theorem aDN:PE X (.Dict [] [] pos) (WE X P n RT Y old σ (.dic .nil .nil)):=by
 intro pins s σV H Q I hw
 obtain⟨S,h⟩:=hw
 have h:Wn X RT Y old σ σV H Q (.cl (.dic [])):=h
 have hp:H s.heap.objs.size=none:=I.fresh
 have I1:L2.Inv X pins σV (upd H s.heap.objs.size (.dK [])) { s with heap:=s.heap.push { cls:=.type "dict",data:=.dict #[] } }:=
  I.laid (a:=s.heap.objs.size) (o:=.dK []) (h':=s.heap.push { cls:=.type "dict",data:=.dict #[] }) (t':=s.toks) (λ_ _ q=>Heap.get?_push_of_some _ q) (Nat.le_refl _)
   ⟨Nat.zero_le _,beq_eq_false_iff_ne.mpr (Ne.symm (Nat.ne_of_lt (yS I))),[],.nil,Heap.DictOf.new s.heap⟩
 exact wpAny_Dict_empty ⟨.ref s.heap.objs.size,_,I1,rfl,h _ _ I1.tk (Ro.cl (aG.new hp) ⟨s.heap.objs.size,_,rfl,aV,rfl⟩)⟩
end
end Hp
end
noncomputable section
namespace L2
open PySem PySem.Spec PyProof.Rows
abbrev aDO(h:Heap)(z TI TO:Addr)(f0:Value)(f1:Bool):Prop:=
 h.get? z=some { cls:=.type "zip",dict:=none,data:=.fields #[f0,.bool f1,.bool false,.ref TI,.ref TO],slots:=#[] }
section
variable {prog:Program} {w:World} {A:Around} {E:Value->Shared->Prop} {s:Shared}
end
structure aJe (ka kb:Bool) (z TI TO i1 i2 l1 l2 S:Nat) (xs ys:Array Value) (i:Nat) (h:Heap) (acc:Array Value) (c:Nat):Prop where
 zip:(i=0/\IsZip h z TI TO .none/\∃u v,IsPair h TO u v)\/∃(t:Nat) (f:Bool) (ot:Obj),aDO h z TI TO (rawInt t) f/\h.get? t=some ot/\t≠z/\t≠i1/\t≠i2/\t≠S
 TI:IsPair h TI (.ref i1) (.ref i2)
 i1:bX ka h i1 l1 i
 i2:bX kb h i2 l2 i
 l1:cP ka h l1 xs
 l2:cP kb h l2 ys
 lst:h.get? S=some { cls:=.type "list",dict:=none,data:=.seq acc c,slots:=#[] }
 size:h.objs.size=S+1+i
 acc:acc=((List.range i).map λj=>Value.ref (S+1+j)).toArray
 pair:∀j,j<i->∃x y,xs[j]? = some x/\ys[j]? = some y/\IsPair h (S+1+j) x y
section
variable {prog:Program} {w:World} {A:Around} {s:Shared} {R:Result->Shared->Prop}
variable {ka kb:Bool} {z TI TO i1 i2 l1 l2 S:Nat} {xs ys:Array Value}
end
section
variable {prog:Program} {w:World} {A:Around} {E:Value->Shared->Prop} {s:Shared} {R:Result->Shared->Prop}
variable {ka kb:Bool} {z TI TO i1 i2 l1 l2:Nat} {xs ys:Array Value}
structure qX (ka kb:Bool) (z TI TO i1 i2 l1 l2:Nat) (xs ys:Array Value) (h:Heap):Prop where
 zip:IsZip h z TI TO .none
 TI:IsPair h TI (.ref i1) (.ref i2)
 TO:∃u v,IsPair h TO u v
 i1:bX ka h i1 l1 0
 i2:bX kb h i2 l2 0
 l1:cP ka h l1 xs
 l2:cP kb h l2 ys
theorem qX.at{h h':Heap}(Z:qX ka kb z TI TO i1 i2 l1 l2 xs ys h)(k:∀b o,b=z\/b=TI\/b=TO\/b=i1\/b=i2\/b=l1\/b=l2->h.get? b=some o->h'.get? b=some o):qX ka kb z TI TO i1 i2 l1 l2 xs ys h' where
 zip:=k _ _ (by simp) Z.zip
 TI:=k _ _ (by simp) Z.TI
 TO:=let ⟨u,v,q⟩:=Z.TO;⟨u,v,k _ _ (by simp) q⟩
 i1:=Z.i1.at λo e=>k _ _ (by simp) e
 i2:=Z.i2.at λo e=>k _ _ (by simp) e
 l1:=Z.l1.at λo e=>k _ _ (by simp) e
 l2:=Z.l2.at λo e=>k _ _ (by simp) e
end
section
variable {X:Cx} {pins:List (Addr×Obj)} {σ:St} {H H':Hp} {s:Shared} {h':Heap}
structure Lz (H H':Hp) (l:Nat) (xs ys:List V):Prop where
 same:∀b u,H b=some u->H' b=some u
 free:H l=none
 lst:H' l=some (.lst ((List.range (min xs.length ys.length)).map λj=>.ref (l+1+j)))
 pair:∀(j:Nat) (x y:V),xs[j]? = some x->ys[j]? = some y->H' (l+1+j)=some (.tup [x,y])
end
end L2
end
noncomputable section
namespace Hp
open PySem PySem.Spec PyProof.Rows L2
section
variable {X:Cx} {P:Pg} {n:Nat} {Γ:Ct} {RT Y old:Addr->Prop} {σ:Sg}
end
end Hp
end
noncomputable section
set_option maxHeartbeats 8000000
namespace Hp
open PySem PySem.Spec PyProof.Rows L2
section
variable {P:Pg} {n:Nat}
theorem pA{X:Cx}{Γ:Ct}(M:Mc X P Γ n)(scope:Scope):(relabel scope X.env).names=jO Γ.sc scope.names:=by
 unfold relabel jO
 simp only
 refine List.map_congr_left λp hp=>?_
 obtain⟨m,k⟩:=p
 have e1:(X.env.scope.kind==ScopeKind.function)=true:=by rw[M.fk];rfl
 have e2:X.env.kindOf m=Γ.sc.lookup m:=by unfold Env.kindOf;rw[M.sc]
 simp only[e1,e2,Bool.and_true]
abbrev chN(Γ:Ct)(tg:Expr)(caps:List Nat):List Str:=dM tg++caps.filterMap λi=>Γ.N[i]?
abbrev qY(Γ:Ct)(tg:Expr)(caps:List Nat)(scope:Scope):Ct:={ Γ with N:=chN Γ tg caps,sc:=jO Γ.sc scope.names,fn:=false }
structure yT (Γ:Ct) (tg:Expr) (caps:List Nat) (scope:Scope) (k:Nat) (t:T) (elt:E):Prop where
 len:(dM tg).length=k
 lt:∀i∈caps,i<Γ.N.length
 ndc:caps.Nodup
 kind:scope.kind=.function
 nd:(chN Γ tg caps).Nodup
 cap:∀x∈caps.filterMap (λi=>Γ.N[i]?),scope.names.lookup x=some .free/\Γ.sc.lookup x=some .cell
 all:∀p∈scope.names,p.2≠.cell/\(p.2=.local->scope.names.lookup p.1=some .local)/\(p.2=.free->Γ.sc.lookup p.1=some .cell)
 tk:∀i∈tIx t,i<k
 cm:(Γ.fn||eC elt)=true
theorem nD{N:List Str}:∀{caps:List Nat},(∀i∈caps,i<N.length)->∀{j i:Nat},caps[j]? = some i->(caps.filterMap λi=>N[i]?)[j]? = N[i]?/\(caps.filterMap λi=>N[i]?).length=caps.length
 | [],_,_,_,h=>by simp at h
 | c::cs,hl,j,i,h=>by
  have hc:N[c]? = some N[c]! := by
   have:=hl c List.mem_cons_self
   simp[this]
  rw[List.filterMap_cons_some hc]
  have hl':∀i∈cs,i<N.length:=λi hi=>hl i (List.mem_cons_of_mem _ hi)
  have len:(cs.filterMap λi=>N[i]?).length=cs.length:=by
   cases cs with
   | nil=>rfl
   | cons c' cs'=>exact(nD hl' (j:=0) (i:=c') rfl).2
  refine⟨?_,by rw[lC,lC,len]⟩
  cases j with
  | zero=>
   have e:c=i:=by simpa using h
   subst e
   rw[gZ,hc]
  | succ j=>
   rw[gS]
   exact(nD hl' (j:=j) (i:=i) (by simpa using h)).1
theorem aDP{N:List Str}{caps:List Nat}(h:∀i∈caps,i<N.length):(caps.filterMap λi=>N[i]?).length=caps.length:=by
 cases caps with
 | nil=>rfl
 | cons c cs=>exact(nD h (j:=0) (i:=c) rfl).2
theorem yT.scope{X:Cx}{Γ:Ct}{tg:Expr}{caps:List Nat}{scope:Scope}{k:Nat}{t:T}{elt:E}(O:yT Γ tg caps scope k t elt)(M:Mc X P Γ n):bU X scope k caps (chN Γ tg caps) where
 kind:=O.kind
 nocell:=λy hy=>(O.all y hy).1
 loc:=λy hy e=>(O.all y hy).2.1 e
 free:=λm hm=>.inl (by
  have:=(O.all _ hm).2.2 rfl
  show X.env.scope.names.lookup m=_
  rw[M.sc];exact this)
 len:=by rw[lA,O.len,aDP O.lt]
 cap:=λj i e=>by
  have hi:=O.lt i (mG e)
  have hx:Γ.N[i]? = some Γ.N[i]:=List.getElem?_eq_getElem hi
  have hg:=(nD O.lt e).1
  rw[hx] at hg
  obtain⟨h1,h2⟩:=O.cap _ (mG hg)
  refine⟨Γ.N[i],?_,by rw[M.N];exact hx,h1,?_⟩
  . show(dM tg++_)[k+j]? = _
    rw[List.getElem?_append_right (by rw[O.len];omega),O.len,Nat.add_sub_cancel_left]
    exact hg
  . show X.env.scope.names.lookup _=_
    rw[M.sc];exact h2
 ndp:=M.nd
theorem yT.mc{X:Cx}{Γ:Ct}{tg:Expr}{caps:List Nat}{scope:Scope}{k:Nat}{t:T}{elt:E}(O:yT Γ tg caps scope k t elt)(M:Mc X P Γ n)(C:Addr)(s₀:Shared)(H₀:Hp)(ex:List Addr) :
 Mc (bD X scope (chN Γ tg caps) C s₀ H₀ ex) P (qY Γ tg caps scope) n where
 md:=⟨M.md.fn,M.md.blt,M.md.cns,M.md.tab,M.md.exc,M.md.rsd,M.md.cls⟩
 N:=rfl
 nd:=O.nd
 sc:=pA M scope
 calm:=M.calm
 room:=M.room
 own:=PassesOwn.never
 st:=λx h=>.inr (by
  show(relabel scope X.env).names.lookup x=_
  rw[pA M scope]
  unfold oE at h
  have h:(match (jO Γ.sc scope.names).lookup x with|some .local=>true|some .cell=>false|_=>false)=true:=h
  split at h
  . rename_i e;exact e
  . cases h
  . cases h)
 fk:=O.kind
 stk:=λz=>nomatch z
theorem pB{Γ:Ct}{tt:Bool}{a b:E}{e:Expr}:chkI Γ tt (.rng a b) e=oS (oF e) λp=>(p.1==("range" : Str))&&bZ Γ p.1&&(match p.2 with
 | [x]=>qL a&&aK Γ b x
 | [x,y]=>aK Γ a x&&aK Γ b y
 | _=>false):=rfl
theorem pC{Γ:Ct}{tt:Bool}{a b:E}{e:Expr}:chkI Γ tt (.zip a b) e=oS (oF e) λp=>(match p.2 with
 | [x,y]=>tt&&(p.1==("zip" : Str))&&bZ Γ p.1&&aK Γ a x&&aK Γ b y
 | _=>false):=rfl
theorem fO{Γ:Ct}{tt:Bool}{it:Hp.It}{e:Expr}(h:chkI Γ tt it e=true):aN e=true:=by
 cases it with
 | seq c=>exact aI (c:=c) (by exact h)
 | rng a b=>rw[pB] at h;obtain⟨_,⟨_,_,rfl⟩,_⟩:=aD h;rfl
 | zip a b=>rw[pC] at h;obtain⟨_,⟨_,_,rfl⟩,_⟩:=aD h;rfl
 | enum a=>cases h
 | rev a=>cases h
theorem aBn{X:Cx}{e:Expr}{c:E}{RT Y old:Addr->Prop}{σ:Sg}(h:tst P (call P n) σ c=.bad):PT X e (WT X P n RT Y old σ c):=λpins s σV H Q I ⟨S,hh⟩=>by
 rw[h] at hh
 exact hh.elim
theorem dZ{a b c:Bool}(h:(a&&b&&c)=true):a=true/\b=true/\c=true:=by
 cases a <;> cases b <;> cases c <;> first|exact⟨rfl,rfl,rfl⟩|cases h
theorem cG{a b:Bool}(h:(a&&b)=true):a=true/\b=true:=by
 cases a <;> cases b <;> first|exact⟨rfl,rfl⟩|cases h
theorem aBo{a b c d:Bool}(h:(a&&b&&c&&d)=true):a=true/\b=true/\c=true/\d=true:=by
 obtain⟨h1,h2,h3⟩:=dZ h
 obtain⟨h1,h4⟩:=cG h1
 exact⟨h1,h4,h2,h3⟩
theorem yU{a b c d e:Bool}(h:(a&&b&&c&&d&&e)=true):a=true/\b=true/\c=true/\d=true/\e=true:=by
 obtain⟨h1,h2,h3,h4⟩:=aBo h
 obtain⟨h1,h5⟩:=cG h1
 exact⟨h1,h5,h2,h3,h4⟩
theorem sK{Γ:Ct}{k:Nat}{caps:List Nat}{t:T}{it:Hp.It}{cond:Es}{elt:E}{e:Expr}(h:aK Γ (.comp k caps t it cond elt) e=true) :
 ∃el tg iter ifs scope pos,e=.ListComp el [⟨tg,iter,ifs,0⟩] scope pos/\yT Γ tg caps scope k t elt/\ifs.length<=1/\kN (qY Γ tg caps scope) t tg=true/\chkI Γ (lD tg) it iter=true/\chkEs (qY Γ tg caps scope) cond ifs=true/\aK (qY Γ tg caps scope) elt el=true:=by
 obtain⟨⟨el,gens,scope⟩,h1,g⟩:=aD h
 clear h
 obtain⟨pos,rfl⟩:=h1
 have h:=g
 clear g
 rcases gens with _|⟨⟨tg,iter,ifs,as⟩,_|⟨_,_⟩⟩
 . cases h
 . have h:(as==0&&(dM tg).length==k&&(caps.all λi=>decide (i<Γ.N.length))&&decide caps.Nodup&&scope.kind==.function&&decide (dM tg++caps.filterMap λi=>Γ.N[i]?).Nodup &&
    ((caps.filterMap λi=>Γ.N[i]?).all λx=>scope.names.lookup x==some .free&&Γ.sc.lookup x==some .cell) &&
    (scope.names.all λp=>p.2 != .cell&&(p.2 != .local||scope.names.lookup p.1==some .local)&&(p.2 != .free||Γ.sc.lookup p.1==some .cell)) &&
    ((tIx t).all λi=>decide (i<k))&&decide (ifs.length<=1)&&(Γ.fn||eC elt) &&
    kN (qY Γ tg caps scope) t tg&&chkI Γ (lD tg) it iter&&chkEs (qY Γ tg caps scope) cond ifs&&aK (qY Γ tg caps scope) elt el)=true:=by
    exact h
   simp only[bA,beq_iff_eq,List.all_eq_true,decide_eq_true_eq,Bool.or_eq_true,bne_iff_ne,ne_eq] at h
   obtain⟨⟨⟨⟨⟨⟨⟨⟨⟨⟨⟨⟨⟨⟨h0,h1⟩,h2⟩,h3⟩,h4⟩,h5⟩,h6⟩,h7⟩,h8⟩,h9⟩,hcm⟩,h10⟩,h11⟩,h12⟩,h13⟩:=h
   subst h0
   refine⟨el,tg,iter,ifs,scope,pos,rfl,⟨h1,h2,h3,h4,h5,h6,λp hp=>?_,h8,by simpa using hcm⟩,h9,h10,h11,h12,h13⟩
   obtain⟨⟨q1,q2⟩,q3⟩:=h7 p hp
   exact⟨q1,λe=>q2.resolve_left λz=>z e,λe=>q3.resolve_left λz=>z e⟩
 . cases h
abbrev PEc(P:Pg)(n:Nat)(c:E):Prop:=∀{X:Cx} {Γ:Ct},Mc X P Γ n->∀{e:Expr},aK Γ c e=true->∀(RT Y old:Addr->Prop) (σ:Sg),PE X e (WE X P n RT Y old σ c)
abbrev PTc(P:Pg)(n:Nat)(c:E):Prop:=∀{X:Cx} {Γ:Ct},Mc X P Γ n->∀{e:Expr},aK Γ c e=true->∀(RT Y old:Addr->Prop) (σ:Sg),PT X e (WT X P n RT Y old σ c)
abbrev PWc(P:Pg)(n:Nat)(c:E):Prop:=∀{X:Cx} {Γ:Ct},Mc X P Γ n->∀{o:BoolOp} {xs:List Expr} {pos:Pos},aK Γ c (.BoolOp o xs pos)=true->∀(RT Y old:Addr->Prop) (σ:Sg),PW X (.BoolOp o xs pos) (WT X P n RT Y old σ c)
structure Q3 (P:Pg) (n:Nat) (c:E):Prop where
 e:PEc P n c
 t:PTc P n c
 w:PWc P n c
structure QA (P:Pg) (n:Nat) (cs:Es):Prop where
 a:∀{X:Cx} {Γ:Ct},Mc X P Γ n->∀{es:List Expr},chkEs Γ cs es=true->∀(RT Y old:Addr->Prop) (σ:Sg),PA X es (WA X P n RT Y old σ cs)
 o:∀{X:Cx} {Γ:Ct},Mc X P Γ n->∀{e:Option Expr},chkO Γ cs e=true->∀(RT Y old:Addr->Prop) (σ:Sg),PO X e (wO X P n RT Y old σ cs)
 ts:∀{X:Cx} {Γ:Ct},Mc X P Γ n->∀{es:List Expr},es.length<=1->chkEs Γ cs es=true->∀(RT Y old:Addr->Prop) (σ:Sg),PTs X es (wTs X P n RT Y old σ cs)
abbrev QI(P:Pg)(n:Nat)(it:Hp.It):Prop:=∀{X:Cx} {Γ:Ct},Mc X P Γ n->∀{tg e:Expr},chkI Γ (lD tg) it e=true->∀(RT Y old:Addr->Prop) (σ:Sg),PI X tg e (wI X P n RT Y old σ it)
theorem Q3.of{c:E}(h:PEc P n c)(hd:∀σ,tst P (call P n) σ c=.bad)(hw:∀{Γ:Ct} {o:BoolOp} {xs:List Expr} {pos:Pos},aK Γ c (.BoolOp o xs pos)=false):Q3 P n c:=
 ⟨h,λ{X Γ} M {e} z RT Y old σ=>aBn (hd σ),λ{X Γ} M {o xs pos} z RT Y old σ=>absurd (hw.symm.trans z) bN⟩
theorem n_c{d:D}:Q3 P n (.c d):=by
 have h0:∀{Γ:Ct} {e:Expr},aK Γ (.c d) e=true->(∃c k p,e=.Constant c k p/\eqC d c=true)\/∃x p,e=.Name x p/\bZ Γ x=true/\aY x=true/\∃d',Γ.cns.lookup x=some d'/\eqK d d'=true:=λ{Γ e} h=>by
  rcases(Bool.or_eq_true _ _).mp (show(oS (asC e) (eqC d)||oS (asN e) λx=>bZ Γ x&&aY x&&oB (Γ.cns.lookup x) (eqK d))=true from h) with h|h
  . obtain⟨c,h1,g⟩:=aD h
    clear h
    obtain⟨k,p,rfl⟩:=h1
    have h:=g
    clear g
    exact .inl ⟨c,k,p,rfl,h⟩
  . obtain⟨x,h1,g⟩:=aD h
    clear h
    obtain⟨p,rfl⟩:=h1
    have h:=g
    clear g
    obtain⟨h1,h2,h3⟩:=dZ h
    obtain⟨d',q1,q2⟩:=xU h3
    exact .inr ⟨x,p,rfl,h1,h2,d',q1,q2⟩
 have k:PEc P n (.c d):=λ{X Γ} M {e} h RT Y old σ=>by
  rcases h0 h with⟨c,j,p,rfl,g⟩|⟨x,p,rfl,h1,h2,d',q,h3⟩
  . exact s_c g
  . have e:=aDv h3
    subst e
    obtain⟨u,v,m,r,hr⟩:=M.md.cns x d q
    refine(iX (M.gl h1) m r (aH h2)).imp λσV H Q t ⟨S,hh⟩ t'=>?_
    exact(show Wn _ RT Y old σ σV H Q (Vl.cl d) from hh) v H t' (Ro.val (aG.refl H) (hr H))
 refine⟨k,λ{X Γ} M {e} h RT Y old σ=>?_,λ{X Γ} M {o xs pos} h RT Y old σ=>absurd h bN⟩
 refine jS (k M h RT Y old σ) ?_ λw p hp=>hp
 rcases h0 h with⟨c,j,p,rfl,h⟩|⟨x,p,rfl,_⟩ <;> (intro _;rfl)
theorem n_v{i:Nat}:Q3 P n (.v i):=by
 have k:PEc P n (.v i):=λ{X Γ} M {e} h RT Y old σ=>by
  obtain⟨x,h1,g⟩:=aD h
  clear h
  obtain⟨p,rfl⟩:=h1
  have h:=g
  clear g
  have h:cM _ i x=true:=h
  unfold cM at h
  obtain⟨h1,h2,h3⟩:=dZ h
  exact s_v (by rw[M.N];exact eq_of_beq h1) (M.vis h2) (aH h3) (eX h3)
 refine⟨k,λ{X Γ} M {e} h RT Y old σ=>?_,λ{X Γ} M {o xs pos} h RT Y old σ=>absurd h bN⟩
 refine jS (k M h RT Y old σ) ?_ λw p hp=>RE.bind' (show RE _ (bH σ i >>= λx=>dG x) p from hp)
 obtain⟨x,⟨p,rfl⟩,_⟩:=aD h
 intro _;rfl
theorem aIr{o:Operator}{a b:E}(ha:Q3 P n a)(hb:Q3 P n b):Q3 P n (.op o a b):=Q3.of (λ{X Γ} M {e} h RT Y old σ=>by
 obtain⟨⟨l,o',r⟩,h1,g⟩:=aD h
 clear h
 obtain⟨p,rfl⟩:=h1
 have h:=g
 clear g
 obtain⟨h1,h2,h3⟩:=dZ h
 have e:o=o':=eq_of_beq h1
 subst e
 exact aIn (ha.e M h2 RT Y old σ) (hb.e M h3 RT Y old σ)) (λ_=>rfl) rfl
theorem aGi{a:E}(ha:Q3 P n a):Q3 P n (.neg a):=Q3.of (λ{X Γ} M {e} h RT Y old σ=>by
 obtain⟨⟨o,x⟩,h1,g⟩:=aD h
 clear h
 obtain⟨p,rfl⟩:=h1
 have h:=g
 clear g
 obtain⟨h1,h2⟩:=cG h
 have e:o=.USub:=eq_of_beq h1
 subst e
 exact aFR (ha.e M h2 RT Y old σ)) (λ_=>rfl) rfl
theorem aIs{a:E}(ha:Q3 P n a):Q3 P n (.nt a):=by
 have h0:∀{Γ:Ct} {e:Expr},aK Γ (.nt a) e=true->∃x p,e=.UnaryOp .Not x p/\aK Γ a x=true:=λ{Γ e} h=>by
  obtain⟨⟨o,x⟩,h1,g⟩:=aD h
  clear h
  obtain⟨p,rfl⟩:=h1
  have h:=g
  clear g
  obtain⟨h1,h2⟩:=cG h
  have e:o=.Not:=eq_of_beq h1
  subst e
  exact⟨x,p,rfl,h2⟩
 refine⟨λ{X Γ} M {e} h RT Y old σ=>?_,λ{X Γ} M {e} h RT Y old σ=>?_,λ{X Γ} M {o xs pos} h RT Y old σ=>absurd h bN⟩
 . obtain⟨x,p,rfl,g⟩:=h0 h
   exact aFS (ha.e M g RT Y old σ)
 . obtain⟨x,p,rfl,g⟩:=h0 h
   exact aIp (ha.t M g RT Y old σ)
theorem sL{Γ:Ct}{a b:E}{w:BoolOp}{xs:List Expr}{p:Pos}(h:(match xs with
 | [x,y]=>aK Γ a x&&aK Γ b y
 | x::y::z::r=>aK Γ a x&&aK Γ b (.BoolOp w (y::z::r) p)
 | _=>false)=true):∃x y r,xs=x::y::r/\aK Γ a x=true/\((r=[]/\aK Γ b y=true)\/aK Γ b (.BoolOp w (y::r) p)=true):=by
 rcases xs with _|⟨x,_|⟨y,_|⟨z,r⟩⟩⟩
 . cases h
 . cases h
 . obtain⟨h1,h2⟩:=cG h
   exact⟨x,y,[],rfl,h1,.inl ⟨rfl,h2⟩⟩
 . obtain⟨h1,h2⟩:=cG h
   exact⟨x,y,z::r,rfl,h1,.inr h2⟩
theorem aIt{a b:E}(ha:Q3 P n a)(hb:Q3 P n b):Q3 P n (.an a b):=by
 have kw:PWc P n (.an a b):=λ{X Γ} M {o xs pos} h RT Y old σ=>by
  obtain⟨h1,h2⟩:=cG h
  have e:o=.And:=eq_of_beq h1
  subst e
  obtain⟨x,y,r,rfl,g1,g2⟩:=sL h2
  rcases g2 with⟨rfl,g2⟩|g2
  . exact aGb (ha.t M g1 RT Y old σ) (aAo (hb.t M g2 RT Y old σ))
  . exact aGb (ha.t M g1 RT Y old σ) (hb.w M g2 RT Y old σ)
 refine⟨λ{X Γ} M {e} h RT Y old σ=>?_,λ{X Γ} M {e} h RT Y old σ=>?_,kw⟩
 . obtain⟨⟨o,xs,pos⟩,h1,g⟩:=aD h
   clear h
   obtain rfl:=h1
   have h:=g
   clear g
   obtain⟨h1,h2⟩:=cG h
   have e:o=.And:=eq_of_beq h1
   subst e
   obtain⟨x,y,r,e,g1,g2⟩:=sL h2
   have e:xs=x::y::r:=e
   subst e
   rcases g2 with⟨rfl,g2⟩|g2
   . exact aFT (ha.e M g1 RT Y old σ) (vO (hb.e M g2 RT Y old σ))
   . exact aFT (ha.e M g1 RT Y old σ) (hb.e M g2 RT Y old σ)
 . obtain⟨⟨o,xs,pos⟩,rfl,_⟩:=aD h
   exact(kw M h RT Y old σ).pt
theorem aGj{a b:E}(ha:Q3 P n a)(hb:Q3 P n b):Q3 P n (.orr a b):=by
 have kw:PWc P n (.orr a b):=λ{X Γ} M {o xs pos} h RT Y old σ=>by
  obtain⟨h1,h2⟩:=cG h
  have e:o=.Or:=eq_of_beq h1
  subst e
  obtain⟨x,y,r,rfl,g1,g2⟩:=sL h2
  rcases g2 with⟨rfl,g2⟩|g2
  . exact aCm (ha.t M g1 RT Y old σ) (aCK (hb.t M g2 RT Y old σ))
  . exact aCm (ha.t M g1 RT Y old σ) (hb.w M g2 RT Y old σ)
 refine⟨λ{X Γ} M {e} h RT Y old σ=>?_,λ{X Γ} M {e} h RT Y old σ=>?_,kw⟩
 . obtain⟨⟨o,xs,pos⟩,h1,g⟩:=aD h
   clear h
   obtain rfl:=h1
   have h:=g
   clear g
   obtain⟨h1,h2⟩:=cG h
   have e:o=.Or:=eq_of_beq h1
   subst e
   obtain⟨x,y,r,e,g1,g2⟩:=sL h2
   have e:xs=x::y::r:=e
   subst e
   rcases g2 with⟨rfl,g2⟩|g2
   . exact aCl (ha.e M g1 RT Y old σ) (vO (hb.e M g2 RT Y old σ))
   . exact aCl (ha.e M g1 RT Y old σ) (hb.e M g2 RT Y old σ)
 . obtain⟨⟨o,xs,pos⟩,rfl,_⟩:=aD h
   exact(kw M h RT Y old σ).pt
theorem aGk{t a b:E}(ht:Q3 P n t)(ha:Q3 P n a)(hb:Q3 P n b):Q3 P n (.ife t a b):=Q3.of (λ{X Γ} M {e} h RT Y old σ=>by
 obtain⟨⟨t',a',b'⟩,h1,g⟩:=aD h
 clear h
 obtain⟨p,rfl⟩:=h1
 have h:=g
 clear g
 obtain⟨h1,h2,h3⟩:=dZ h
 exact aFU (ht.t M h1 RT Y old σ) (ha.e M h2 RT Y old σ) (hb.e M h3 RT Y old σ)) (λ_=>rfl) rfl
theorem aGl{o:CmpOp}{a b:E}(ha:Q3 P n a)(hb:Q3 P n b):Q3 P n (.cmp o a b):=by
 have h0:∀{Γ:Ct} {e:Expr},aK Γ (.cmp o a b) e=true->∃l r p,e=.Compare l [o] [r] p/\aK Γ a l=true/\aK Γ b r=true:=λ{Γ e} h=>by
  obtain⟨⟨l,os,rs⟩,h1,g⟩:=aD h
  clear h
  obtain⟨p,rfl⟩:=h1
  have h:=g
  clear g
  rcases os with _|⟨o',_|⟨_,_⟩⟩
  . cases h
  . rcases rs with _|⟨r,_|⟨_,_⟩⟩
    . cases h
    . obtain⟨h1,h2,h3⟩:=dZ h
      have e:o=o':=eq_of_beq h1
      subst e
      exact⟨l,r,p,rfl,h2,h3⟩
    . cases h
  . cases h
 refine⟨λ{X Γ} M {e} h RT Y old σ=>?_,λ{X Γ} M {e} h RT Y old σ=>?_,λ{X Γ} M {o xs pos} h RT Y old σ=>absurd h bN⟩
 . obtain⟨l,r,p,rfl,h2,h3⟩:=h0 h
   exact aFV M (ha.e M h2 RT Y old σ) (hb.e M h3 RT Y old σ) (aI h3)
 . obtain⟨l,r,p,rfl,h2,h3⟩:=h0 h
   exact aFW M (ha.e M h2 RT Y old σ) (hb.e M h3 RT Y old σ) (aI h3)
theorem aDQ{o1 o2:CmpOp}{a b c:E}(ha:Q3 P n a)(hb:Q3 P n b)(hc:Q3 P n c):Q3 P n (.cmp2 o1 o2 a b c):=by
 have h0:∀{Γ:Ct} {e:Expr},aK Γ (.cmp2 o1 o2 a b c) e=true->∃l m r p,e=.Compare l [o1,o2] [m,r] p/\aK Γ a l=true/\aK Γ b m=true/\aK Γ c r=true:=λ{Γ e} h=>by
  obtain⟨⟨l,os,rs⟩,h1,g⟩:=aD h
  clear h
  obtain⟨p,rfl⟩:=h1
  have h:=g
  clear g
  rcases os with _|⟨o1',_|⟨o2',_|⟨_,_⟩⟩⟩
  . cases h
  . cases h
  . rcases rs with _|⟨m,_|⟨r,_|⟨_,_⟩⟩⟩
    . cases h
    . cases h
    . obtain⟨h1,h2,h3,h4,h5⟩:=yU h
      have e:o1=o1':=eq_of_beq h1
      subst e
      have e:o2=o2':=eq_of_beq h2
      subst e
      exact⟨l,m,r,p,rfl,h3,h4,h5⟩
    . cases h
  . cases h
 refine⟨λ{X Γ} M {e} h RT Y old σ=>?_,λ{X Γ} M {e} h RT Y old σ=>?_,λ{X Γ} M {o xs pos} h RT Y old σ=>absurd h bN⟩
 . obtain⟨l,m,r,p,rfl,h3,h4,h5⟩:=h0 h
   exact aDy M (ha.e M h3 RT Y old σ) (hb.e M h4 RT Y old σ) (hc.e M h5 RT Y old σ) (aI h5)
 . obtain⟨l,m,r,p,rfl,h3,h4,h5⟩:=h0 h
   exact aDz M (ha.e M h3 RT Y old σ) (hb.e M h4 RT Y old σ) (hc.e M h5 RT Y old σ) (aI h5)
theorem aGm{a b:E}(ha:Q3 P n a)(hb:Q3 P n b):Q3 P n (.idx a b):=by
 have k:PEc P n (.idx a b):=λ{X Γ} M {e} h RT Y old σ=>by
  obtain⟨⟨x,i⟩,h1,g⟩:=aD h
  clear h
  obtain⟨p,rfl⟩:=h1
  have h:=g
  clear g
  obtain⟨h1,h2⟩:=cG h
  exact aFX (ha.e M h1 RT Y old σ) (hb.e M h2 RT Y old σ) (aI h2)
 refine⟨k,λ{X Γ} M {e} h RT Y old σ=>?_,λ{X Γ} M {o xs pos} h RT Y old σ=>absurd h bN⟩
 refine jS (k M h RT Y old σ) ?_ λw p hp=>?_
 . obtain⟨⟨x,i⟩,⟨p,rfl⟩,_⟩:=aD h
   intro _;rfl
 . have hp:=RE.bind' (show RE _ (ev P (call P n) σ a >>= λx=>ev P (call P n) σ b >>= λy=>eE x y >>= λz=>dG z) p from hp)
   show RE _ (ev P (call P n) σ a >>= λx=>ev P (call P n) σ b >>= λy=>eE x y) _
   rw[RE.bind]
   refine hp.mono λx hx=>?_
   rw[RE.bind]
   exact(RE.bind' hx).mono λy hy=>RE.bind' hy
theorem aGn{a:E}{lo hi:Es}(ha:Q3 P n a)(hl:QA P n lo)(hh:QA P n hi):Q3 P n (.sli a lo hi):=Q3.of (λ{X Γ} M {e} h RT Y old σ=>by
 obtain⟨⟨x,i⟩,h1,g⟩:=aD h
 clear h
 obtain⟨p,rfl⟩:=h1
 have h:=g
 clear g
 obtain⟨⟨l,u⟩,h1,g⟩:=aD h
 clear h
 obtain⟨p2,e2⟩:=h1
 have h:=g
 clear g
 have e2:i=.Slice l u none p2:=e2
 subst e2
 obtain⟨h1,h2,h3⟩:=dZ h
 obtain⟨h1,h4⟩:=cG h1
 exact aGe (ha.e M h1 RT Y old σ) (hl.o M h2 RT Y old σ) (hh.o M h3 RT Y old σ) h4) (λ_=>rfl) rfl
theorem aGo{es:Es}(ha:QA P n es):Q3 P n (.tup es):=Q3.of (λ{X Γ} M {e} h RT Y old σ=>by
 obtain⟨xs,h1,g⟩:=aD h
 clear h
 obtain⟨k,p,rfl⟩:=h1
 have h:=g
 clear g
 obtain⟨h1,h2⟩:=cG h
 exact aFY (ha.a M h2 RT Y old σ) h2 (of_decide_eq_true h1)) (λ_=>rfl) rfl
theorem aGp{es:Es}(ha:QA P n es):Q3 P n (.lst es):=Q3.of (λ{X Γ} M {e} h RT Y old σ=>by
 obtain⟨xs,h1,g⟩:=aD h
 clear h
 obtain⟨p,rfl⟩:=h1
 have h:=g
 clear g
 obtain⟨h1,h2⟩:=cG h
 exact aFZ (ha.a M h2 RT Y old σ) h2 (of_decide_eq_true h1)) (λ_=>rfl) rfl
theorem aGq{a b:E}(ha:Q3 P n a)(hb:Q3 P n b):Q3 P n (.dic (.cons a .nil) (.cons b .nil)):=Q3.of (λ{X Γ} M {e} h RT Y old σ=>by
 obtain⟨r,h1,g⟩:=aD h
 clear h
 obtain⟨p,rfl⟩:=h1
 obtain⟨h1,h2⟩:=cG g
 exact aGh (ha.e M h1 RT Y old σ) (hb.e M h2 RT Y old σ)) (λ_=>rfl) rfl
theorem aDR{f:Nat}{es:Es}(ha:QA P n es):Q3 P n (.call f es):=by
 have k:PEc P n (.call f es):=λ{X Γ} M {e} h RT Y old σ=>by
  obtain⟨⟨x,xs⟩,h1,g⟩:=aD h
  clear h
  obtain⟨p1,p2,rfl⟩:=h1
  have h:=g
  clear g
  obtain⟨h1,h2,h3,h4⟩:=aBo h
  exact aDw M (eq_of_beq h1) h2 h3 (ha.a M h4 RT Y old σ) (eN h4) h4
 refine⟨k,λ{X Γ} M {e} h RT Y old σ=>?_,λ{X Γ} M {o xs pos} h RT Y old σ=>absurd h bN⟩
 refine jS (k M h RT Y old σ) ?_ λw p hp=>?_
 . obtain⟨⟨x,xs⟩,⟨p1,p2,rfl⟩,_⟩:=aD h
   intro _;rfl
 . have hp:=RE.bind' (show RE _ (evs P (call P n) σ es >>= λvs=>call P n f (vs.map (·.d)) >>= λr=>dG (eF vs r)) p from hp)
   show RE _ (evs P (call P n) σ es >>= λvs=>call P n f (vs.map (·.d)) >>= λr=>R.ok (eF vs r)) _
   rw[RE.bind]
   refine hp.mono λx hx=>?_
   rw[RE.bind]
   exact(RE.bind' hx).mono λy hy=>hy
theorem aIu{b:Bi}{es:Es}(ha:QA P n es):Q3 P n (.bi b es):=by
 have k:PEc P n (.bi b es):=λ{X Γ} M {e} h RT Y old σ=>by
  obtain⟨⟨x,xs⟩,h1,g⟩:=aD h
  clear h
  obtain⟨p1,p2,rfl⟩:=h1
  have h:=g
  clear g
  obtain⟨h,h6⟩:=cG h
  obtain⟨h1,h2,h3,h4,h5⟩:=yU h
  cases xs with
  | nil=>cases h5
  | cons y ys=>exact aIo M h1 (eq_of_beq h2) h3 h4 (ha.a M h6 RT Y old σ) (eN h6)
 refine⟨k,λ{X Γ} M {e} h RT Y old σ=>?_,λ{X Γ} M {o xs pos} h RT Y old σ=>absurd h bN⟩
 refine jS (k M h RT Y old σ) ?_ λw p hp=>?_
 . obtain⟨⟨x,xs⟩,⟨p1,p2,rfl⟩,_⟩:=aD h
   intro _;rfl
 . have hp:=RE.bind' (show RE _ (evs P (call P n) σ es >>= λvs=>biD b vs >>= λx=>dG x) p from hp)
   show RE _ (evs P (call P n) σ es >>= λvs=>biD b vs) _
   rw[RE.bind]
   exact hp.mono λx hx=>RE.bind' hx
theorem aDS:Q3 P n (.dic .nil .nil):=Q3.of (λ{X Γ} M {e} h RT Y old σ=>by
 obtain⟨_,⟨p,rfl⟩,_⟩:=aD h
 exact aDN) (λ_=>rfl) rfl
theorem aGr{a:E}{cs:List Cl}(ha:Q3 P n a):Q3 P n (.isi a cs):=by
 have k:PEc P n (.isi a cs):=λ{X Γ} M {e} h RT Y old σ=>by
  obtain⟨⟨f,xs⟩,h1,g⟩:=aD h
  clear h
  obtain⟨p1,p2,rfl⟩:=h1
  have h:=g
  clear g
  rcases cs with _|⟨c,_|⟨_,_⟩⟩
  . cases h
  . rcases xs with _|⟨x,_|⟨y,_|⟨_,_⟩⟩⟩
    . cases h
    . cases h
    . obtain⟨h1,h2,h3,h4,h5⟩:=yU h
      unfold aCh at h5
      split at h5
      . rename_i z p3
        obtain⟨q1,q2,q3⟩:=dZ h5
        have hc:∃cv,oM c=some cv:=by cases c <;> first|exact⟨_,rfl⟩|cases h3
        obtain⟨cv,hc⟩:=hc
        exact aGa M (eq_of_beq h1) h2 hc (eq_of_beq q1) q2 q3 (ha.e M h4 RT Y old σ) (aI h4)
      . cases h5
    . cases h
  . cases h
 refine⟨k,λ{X Γ} M {e} h RT Y old σ=>?_,λ{X Γ} M {o xs pos} h RT Y old σ=>absurd h bN⟩
 refine jS (k M h RT Y old σ) ?_ λw p hp=>?_
 . obtain⟨⟨x,xs⟩,⟨p1,p2,rfl⟩,_⟩:=aD h
   intro _;rfl
 . have hp:=RE.bind' (show RE _ (ev P (call P n) σ a >>= λx=>(match isI cs P x.d with|some k=>R.ok k|none=>.bad)) p from hp)
   show RE _ (ev P (call P n) σ a >>= λx=>(match isI cs P x.d with|some k=>R.ok (Vl.cl (.bl k))|none=>.bad)) _
   rw[RE.bind]
   refine hp.mono λx hx=>?_
   cases q:isI cs P x.d with
   | none=>rw[q] at hx;exact hx.elim
   | some k=>rw[q] at hx;exact hx
theorem aGs{a:E}{cs:List Cl}(ha:Q3 P n a):Q3 P n (.isx a cs):=by
 have k:PEc P n (.isx a cs):=λ{X Γ} M {e} h RT Y old σ=>by
  obtain⟨⟨f,xs⟩,h1,g⟩:=aD h
  clear h
  obtain⟨p1,p2,rfl⟩:=h1
  have h:=g
  clear g
  rcases xs with _|⟨x,_|⟨y,_|⟨_,_⟩⟩⟩
  . cases h
  . cases h
  . obtain⟨h1,h2,h3,h4⟩:=aBo h
    unfold aFE at h4
    split at h4
    . rename_i es tk tp
      obtain⟨q1,q2⟩:=cG h4
      obtain⟨vs,i1,i2,i3⟩:=yB M q1
      refine yA M (eq_of_beq h1) h2 (ha.e M h3 RT Y old σ) (aI h3) (wC i1) rfl λσV H Q hq=>?_
      have q2:es.length<=1000:=by simpa using q2
      exact⟨by rw[i3,sizeLine_eq];omega,λp hp=>hq _ _ (aG.new hp) (.inr ⟨p,vs,rfl,SqT.of aV,i2⟩)⟩
    . rename_i z zp
      split at h4
      . obtain⟨q1,q2⟩:=cG h4
        have e:z=("ValueError" : Str):=eq_of_beq q1
        subst e
        exact yA M (eq_of_beq h1) h2 (ha.e M h3 RT Y old σ) (aI h3) (aAn (v:=.ty "ValueError") (M.gl q2) (M.md.blt _ (by decide +kernel)) (by kernel_rfl) rfl (by decide +kernel) (by decide +kernel)) rfl λσV H Q hq=>hq _ H (aG.refl H) (.inl ⟨_,rfl,rfl⟩)
      . obtain⟨x',p,e1,e2,g1,g2,g3⟩:=oR h4
        cases e2
        subst e1
        obtain⟨C2,q⟩:=M.md.cls _ g3
        exact yA M (eq_of_beq h1) h2 (ha.e M h3 RT Y old σ) (aI h3) (iX (v:=.ref C2) (M.gl g1) q rfl (aH g2)) rfl λσV H Q hq=>hq _ H (aG.refl H) (.inl ⟨_,rfl,g3,C2,q,rfl⟩)
      . cases h4
    . cases h4
  . cases h
 refine⟨k,λ{X Γ} M {e} h RT Y old σ=>?_,λ{X Γ} M {o xs pos} h RT Y old σ=>absurd h bN⟩
 refine jS (k M h RT Y old σ) ?_ λw p hp=>?_
 . obtain⟨⟨x,xs⟩,⟨p1,p2,rfl⟩,_⟩:=aD h
   intro _;rfl
 . have hp:=RE.bind' (show RE _ (ev P (call P n) σ a >>= λx=>(match isX cs P x.d with|some k=>R.ok k|none=>.bad)) p from hp)
   show RE _ (ev P (call P n) σ a >>= λx=>(match isX cs P x.d with|some k=>R.ok (Vl.cl (.bl k))|none=>.bad)) _
   rw[RE.bind]
   refine hp.mono λx hx=>?_
   cases q:isX cs P x.d with
   | none=>rw[q] at hx;exact hx.elim
   | some k=>rw[q] at hx;exact hx
theorem aDT{k:Nat}{caps:List Nat}{t:T}{it:Hp.It}{cond:Es}{elt:E}(hi:QI P n it)(hc:QA P n cond)(he:Q3 P n elt):Q3 P n (.comp k caps t it cond elt):=Q3.of (λ{X Γ} M {e} h RT Y old σ=>by
 obtain⟨el,tg,iter,ifs,scope,pos,rfl,O,h1,h2,h3,h4,h5⟩:=sK h
 refine aDL M (O.scope M) O.ndc O.tk O.cm (hi M h3 RT Y old σ) (λC s₀ H₀ ex=>?_) (gU (fO h3))
 have M':=O.mc M C s₀ H₀ ex
 exact⟨aBk M' h2,λRT Y old σ1=>sJ (hc.ts M' h1 h4 RT Y old σ1),λpl E W own rs RT Y old σ1=>yQ rs (he.e (M'.inTry own) h5 RT Y old σ1)⟩) (λ_=>rfl) rfl
theorem aDU{i:Nat}{a:E}(ha:Q3 P n a):Q3 P n (.tget i a):=Q3.of (λ{X Γ} M {e} h RT Y old σ=>by
 obtain⟨⟨o,m,xs,l⟩,h1,g⟩:=aD h
 clear h
 obtain⟨ap,cp,rfl,hl⟩:=h1
 have h:=g
 clear g
 obtain⟨x,h1,g⟩:=aD h
 clear h
 obtain⟨p,e2⟩:=h1
 have h:=g
 clear g
 have e2:o=.Name x p:=e2
 subst e2
 obtain⟨h,h6⟩:=cG h
 obtain⟨h1,h2,h3,h4,h5⟩:=yU h
 rw[show l=true from h5] at hl
 rcases xs with _|⟨y,_|⟨_,_⟩⟩
 . cases h6
 . exact aDx M (eq_of_beq h1) (eq_of_beq h2) h3 h4 hl (ha.e M h6 RT Y old σ) (aI h6)
 . cases h6) (λ_=>rfl) rfl
theorem dB{c:E}(h:∀{Γ:Ct} {e:Expr},aK Γ c e=false):Q3 P n c:=
 ⟨λ{X Γ} M {e} z=>absurd (h.symm.trans z) bN,λ{X Γ} M {e} z=>absurd (h.symm.trans z) bN,λ{X Γ} M {o xs pos} z=>absurd (h.symm.trans z) bN⟩
theorem aGt:QA P n .nil:=by
 refine⟨λ{X Γ} M {es} h RT Y old σ=>?_,λ{X Γ} M {e} h RT Y old σ=>?_,λ{X Γ} M {es} hl h RT Y old σ=>?_⟩
 . cases es with
   | nil=>exact sG
   | cons _ _=>exact nf h
 . cases e with
   | none=>exact aGc
   | some _=>exact nf h
 . cases es with
   | nil=>exact aDJ
   | cons _ _=>exact nf h
theorem aDV{c:E}{cs:Es}(hc:Q3 P n c)(hs:QA P n cs):QA P n (.cons c cs):=by
 refine⟨λ{X Γ} M {es} h RT Y old σ=>?_,λ{X Γ} M {e} h RT Y old σ=>?_,λ{X Γ} M {es} hl h RT Y old σ=>?_⟩
 . cases es with
   | nil=>exact nf h
   | cons e es=>
    obtain⟨h1,h2⟩:=cG h
    exact gW (hc.e M h1 RT Y old σ) (hs.a M h2 RT Y old σ) (aI h1)
 . cases cs with
   | nil=>cases e with
    | none=>exact nf h
    | some e=>exact aGd (hc.e M (by exact h) RT Y old σ)
   | cons _ _=>cases e <;> exact nf h
 . cases es with
   | nil=>exact nf h
   | cons e es=>
    obtain⟨h1,h2⟩:=cG h
    cases es with
    | nil=>cases cs with
     | nil=>exact aDK (hc.t M h1 RT Y old σ)
     | cons _ _=>exact absurd h2 bN
    | cons _ _=>simp at hl
theorem aGu{c:E}(hc:Q3 P n c):QI P n (.seq c):=λ{X Γ} M {tg e} h RT Y old σ=>aGf (hc.e M (by exact h) RT Y old σ)
theorem aGv{a b:E}(ha:Q3 P n a)(hb:Q3 P n b):QI P n (.rng a b):=λ{X Γ} M {tg e} h RT Y old σ=>by
 rw[pB] at h
 obtain⟨⟨f,xs⟩,h1,g⟩:=aD h
 clear h
 obtain⟨p1,p2,rfl⟩:=h1
 have h:=g
 clear g
 obtain⟨h1,h2,h3⟩:=dZ h
 rcases xs with _|⟨x,_|⟨y,_|⟨_,_⟩⟩⟩
 . cases h3
 . obtain⟨h3,h4⟩:=cG h3
   have ez:a=.c (.int 0):=by
    unfold qL at h3
    split at h3
    . rw[eq_of_beq h3]
    . cases h3
   rw[ez]
   exact aDH M (eq_of_beq h1) h2 (hb.e M h4 RT Y old σ) (aI h4)
 . obtain⟨h3,h4⟩:=cG h3
   exact aDI M (eq_of_beq h1) h2 (ha.e M h3 RT Y old σ) (hb.e M h4 RT Y old σ) (aI h3) (aI h4)
 . cases h3
theorem aGw{a b:E}(ha:Q3 P n a)(hb:Q3 P n b):QI P n (.zip a b):=λ{X Γ} M {tg e} h RT Y old σ=>by
 rw[pC] at h
 obtain⟨⟨f,xs⟩,h1,g⟩:=aD h
 clear h
 obtain⟨p1,p2,rfl⟩:=h1
 have h:=g
 clear g
 rcases xs with _|⟨x,_|⟨y,_|⟨_,_⟩⟩⟩
 . cases h
 . cases h
 . obtain⟨h0,h1,h2,h3,h4⟩:=yU h
   unfold lD at h0
   split at h0
   . exact aGg M (eq_of_beq h1) h2 (ha.e M h3 RT Y old σ) (hb.e M h4 RT Y old σ) (aI h3) (aI h4)
   . cases h0
 . cases h
theorem aCo{it:Hp.It}(z:∀Γ tt e,chkI Γ tt it e=false):QI P n it:=by
 intro X Γ M tg e h RT Y old σ
 rw[z] at h
 cases h
mutual
theorem qE:(c:E)->Q3 P n c
 | .c _=>n_c
 | .v _=>n_v
 | .op _ a b=>aIr (qE a) (qE b)
 | .neg a=>aGi (qE a)
 | .nt a=>aIs (qE a)
 | .an a b=>aIt (qE a) (qE b)
 | .orr a b=>aGj (qE a) (qE b)
 | .ife t a b=>aGk (qE t) (qE a) (qE b)
 | .cmp _ a b=>aGl (qE a) (qE b)
 | .dnin _ _=>dB rfl
 | .dget _ _=>dB rfl
 | .dlen _=>dB rfl
 | .cmp2 _ _ a b c=>aDQ (qE a) (qE b) (qE c)
 | .idx a b=>aGm (qE a) (qE b)
 | .sli a lo hi=>aGn (qE a) (qA lo) (qA hi)
 | .tup es=>aGo (qA es)
 | .lst es=>aGp (qA es)
 | .dic (.cons a .nil) (.cons b .nil)=>aGq (qE a) (qE b)
 | .dic .nil .nil=>aDS
 | .dic .nil (.cons _ _)=>dB rfl
 | .dic (.cons _ (.cons _ _)) _=>dB rfl
 | .dic (.cons _ .nil) .nil=>dB rfl
 | .dic (.cons _ .nil) (.cons _ (.cons _ _))=>dB rfl
 | .call _ es=>aDR (qA es)
 | .callP _ _ _=>dB rfl
 | .bi _ es=>aIu (qA es)
 | .mth _ _ _=>dB rfl
 | .isi a _=>aGr (qE a)
 | .isx a _=>aGs (qE a)
 | .comp _ _ _ it cond elt=>aDT (qI it) (qA cond) (qE elt)
 | .numset _=>dB rfl
 | .tget _ a=>aDU (qE a)
 | .lzip _ _=>dB rfl
theorem qA:(cs:Es)->QA P n cs
 | .nil=>aGt
 | .cons c cs=>aDV (qE c) (qA cs)
theorem qI:(it:Hp.It)->QI P n it
 | .seq c=>aGu (qE c)
 | .rng a b=>aGv (qE a) (qE b)
 | .zip a b=>aGw (qE a) (qE b)
 | .enum _=>aCo λ_ _ _=>rfl
 | .rev _=>aCo λ_ _ _=>rfl
end
theorem sE(c:E):PEc P n c:=(qE c).e
theorem sT(c:E):PTc P n c:=(qE c).t
theorem sTs(cs:Es):∀{X:Cx} {Γ:Ct},Mc X P Γ n->∀{es:List Expr},es.length<=1->chkEs Γ cs es=true->∀(RT Y old:Addr->Prop) (σ:Sg),PTs X es (wTs X P n RT Y old σ cs):=(qA cs).ts
theorem sI(it:Hp.It):QI P n it:=qI it
end
end Hp
end
noncomputable section
set_option maxHeartbeats 4000000
namespace Hp
open PySem PySem.Spec PyProof.Rows L2
def bE(K:Fg)(RT Y old:Addr->Prop)(H:Hp)(σ':Sg)(Q:L2.St->Hp->Prop):Prop:=
 ∀(RT':Addr->Prop) (σV':L2.St) (H':Hp),Kp RT H H'->(∀b,RT' b->RT b\/H b=none)->Sx K RT' Y old σ' σV' H'->Q σV' H'
def Rtv(K:Fg)(Y old:Addr->Prop)(H':Hp)(v:Vl)(u:V):Prop:=
 if v.fr=true then ∃a xs ds,u=.ref a/\v.d=.lst ds/\¬ old a/\H' a=some (.lst xs)/\Reps K H' (λb=>b=a\/exB Y old v.pa b) ds xs
 else Rep K H' (exB Y old v.pa) v.d u
def iO(K:Fg)(RT Y old:Addr->Prop)(H:Hp)(v:Vl)(Q:VK):Prop:=∀(u:V) (H':Hp),Kp RT H H'->Tk K H'->Rtv K Y old H' v u->Q u H'
def OE(K:Fg)(w:L2.St->Hp->D->Prop)(RT Y old:Addr->Prop)(H:Hp)(o:O)(D:Ends):Prop:=match o with
 | .next σ'=>bE K RT Y old H σ' D.nx
 | .brk σ'=>bE K RT Y old H σ' D.bk
 | .cnt σ'=>bE K RT Y old H σ' D.ct
 | .ret v=>iO K RT Y old H v D.rt
 | .exc x σ'=>bE K RT Y old H σ' λσV H=>w σV H x
 | .bad=>False
def wS(X:Cx)(RT Y old:Addr->Prop)(σ:Sg)(o:O):TS:=λD σV H=>Sx X.K RT Y old σ σV H/\OE X.K (XW X) RT Y old H o D
section
variable {K:Fg} {w w':L2.St->Hp->D->Prop} {RT RT' RT'' Y old:Addr->Prop} {σ:Sg} {σV:L2.St} {H H1 H2:Hp} {o:O} {D D':Ends}
theorem Kp.chain(a:Kp RT H H1)(s:∀b,RT' b->RT b\/H b=none)(b:Kp RT' H1 H2):Kp RT H H2:=λc o e n=>b c o (a c o e n) λz=>(s c z).elim n λq=>by rw[q] at e;cases e
theorem iC(a:Kp RT H H1)(s1:∀b,RT' b->RT b\/H b=none)(s2:∀b,RT'' b->RT' b\/H1 b=none):∀b,RT'' b->RT b\/H b=none:=λb z=>by
 rcases s2 b z with q|q
 . exact s1 b q
 . by_cases hr:RT b
   . exact .inl hr
   . refine .inr ?_
     cases e:H b with
     | none=>rfl
     | some o=>rw[a b o e hr] at q;cases q
theorem bE.mono{σ':Sg}{Q:L2.St->Hp->Prop}(a:Kp RT H H1)(s:∀b,RT' b->RT b\/H b=none)(h:bE K RT Y old H σ' Q):bE K RT' Y old H1 σ' Q:=λRT2 σV2 H2 k n S=>h RT2 σV2 H2 (a.chain s k) (iC a s n) S
theorem OE.mono(a:Kp RT H H1)(s:∀b,RT' b->RT b\/H b=none)(h:OE K w RT Y old H o D):OE K w RT' Y old H1 o D:=by
 cases o with
 | next σ'=>exact bE.mono a s h
 | brk σ'=>exact bE.mono a s h
 | cnt σ'=>exact bE.mono a s h
 | ret v=>exact λu H2 k t r=>(show iO K RT Y old H v D.rt from h) u H2 (a.chain s k) t r
 | exc x σ'=>exact bE.mono a s h
 | bad=>exact h
theorem aS:∀b,RT b->RT b\/H b=none:=λ_ z=>.inl z
def tkE(K:Fg)(D:Ends):Ends:=⟨λσ H=>Tk K H->D.nx σ H,λv H=>Tk K H->D.rt v H,λσ H=>Tk K H->D.bk σ H,λσ H=>Tk K H->D.ct σ H⟩
theorem OE.from{X:Cx}{α:Type}{x:R α}{f:α->O}(S:Sx X.K RT Y old σ σV H)(h:OE X.K (XW X) RT Y old H (O.from σ x f) D):RE (wx X σV H) x λa=>OE X.K (XW X) RT Y old H (f a) D:=by
 cases x with
 | ok a=>exact h
 | exc e=>exact λH' t s=>(show bE X.K RT Y old H σ (λσV H=>XW X σV H e) from h) RT σV H' (Kp.same s) aS (S.grow s t)
 | bad=>exact h
theorem OE.fromc{α:Type}{x:R α}{f:α->O}(h:OE K w RT Y old H (O.from σ x f) D)(n:∀z,x≠.exc z):∃a,x=.ok a/\OE K w RT Y old H (f a) D:=by
 cases x with
 | ok a=>exact⟨a,rfl,h⟩
 | exc e=>exact absurd rfl (n e)
 | bad=>exact h.elim
theorem bE.imp{σ':Sg}{Q Q':L2.St->Hp->Prop}(h:bE K RT Y old H σ' Q)(f:∀σV H,Q σV H->Q' σV H):bE K RT Y old H σ' Q':=λRT' σV' H' k n S=>f _ _ (h RT' σV' H' k n S)
theorem OE.weak(h:OE K w RT Y old H o D)(f:∀σV H x,w σV H x->w' σV H x):OE K w' RT Y old H o D:=by
 cases o with
 | exc x σ'=>exact bE.imp (Q:=λσV H=>w σV H x) h λσV H z=>f σV H x z
 | _=>exact h
end
section
variable {X:Cx} {st:Stmt} {t t':TS}
theorem aCp{pins:List (Addr×Obj)}{D:Ends}{f:Flow}{s':Shared}(h:SP X pins (tkE X.K D) f s'):SP X pins D f s':=by
 cases f with
 | next=>obtain⟨σ',H',I,q⟩:=h;exact⟨σ',H',I,q I.tk⟩
 | brk=>obtain⟨σ',H',I,q⟩:=h;exact⟨σ',H',I,q I.tk⟩
 | cont=>obtain⟨σ',H',I,q⟩:=h;exact⟨σ',H',I,q I.tk⟩
 | ret u=>obtain⟨v,σ',H',I,r,q⟩:=h;exact⟨v,σ',H',I,r,q I.tk⟩
theorem bS(h:PS X st t)(f:∀D σV H,Tk X.K H->t' D σV H->t (tkE X.K D) σV H):PS X st t':=λpins s σV H D I hw=>thn (h pins s σV H _ I (f D σV H I.tk hw)) λfl s' q=>aCp q
theorem jB{sts:List Stmt}(h:PSs X sts t)(f:∀D σV H,Tk X.K H->t' D σV H->t (tkE X.K D) σV H):PSs X sts t':=λpins s σV H D I hw=>thn (h pins s σV H _ I (f D σV H I.tk hw)) λfl s' q=>aCp q
theorem sM{Y old:Addr->Prop}{sts:List Stmt}{f:Sg->O}(h:∀RT σ,PSs X sts (wS X RT Y old σ (f σ))):PSs X sts (λD σV H=>∃RT σ,wS X RT Y old σ (f σ) D σV H):=λpins s σV H D I ⟨RT,σ,hw⟩=>h RT σ pins s σV H D I hw
end
section
variable {X:Cx} {P:Pg} {Γ:Ct} {n:Nat} {RT Y old:Addr->Prop} {σ:Sg} {pos:Pos}
theorem bE.tkE{σ':Sg}{Q:L2.St->Hp->Prop}{H:Hp}(h:bE X.K RT Y old H σ' Q):bE X.K RT Y old H σ' λσ H=>Tk X.K H->Q σ H:=λRT' σV' H' k n S _=>h RT' σV' H' k n S
theorem OE.tkE{o:O}{D:Ends}{H:Hp}(h:OE X.K (XW X) RT Y old H o D):OE X.K (XW X) RT Y old H o (tkE X.K D):=by
 cases o with
 | next σ'=>exact bE.tkE h
 | brk σ'=>exact bE.tkE h
 | cnt σ'=>exact bE.tkE h
 | ret v=>exact λu H2 k t r _=>(show iO X.K RT Y old H v D.rt from h) u H2 k t r
 | exc x σ'=>exact h
 | bad=>exact h
theorem aGx:PSs X [] (wS X RT Y old σ (exs P (call P n) σ .nil)):=jB aAp λD σV H t ⟨S,h⟩ _=>(show bE X.K RT Y old H σ D.nx from h) RT σV H (Kp.refl RT H) aS S
theorem aDW{s:S}{ss:Ss}{x:Stmt}{xs:List Stmt}(h1:∀RT σ,PS X x (wS X RT Y old σ (ex P (call P n) σ s)))(h2:∀RT σ,PSs X xs (wS X RT Y old σ (exs P (call P n) σ ss))) :
 PSs X (x::xs) (wS X RT Y old σ (exs P (call P n) σ (.cons s ss))):=by
 refine jB (vQ (h1 RT σ) (sM h2)) λD σV H t ⟨S,h⟩=>?_
 have h:OE X.K (XW X) RT Y old H ((ex P (call P n) σ s).on λσ'=>exs P (call P n) σ' ss) D:=h
 refine⟨S,?_⟩
 cases q:ex P (call P n) σ s with
 | next σ'=>
  rw[q] at h
  exact λRT' σV' H' k nn S'=>⟨RT',σ',S',(OE.mono k nn (show OE X.K (XW X) RT Y old H (exs P (call P n) σ' ss) D from h)).tkE⟩
 | brk σ'=>rw[q] at h;exact OE.tkE (D:=D) (o:=.brk σ') h
 | cnt σ'=>rw[q] at h;exact OE.tkE (D:=D) (o:=.cnt σ') h
 | ret v=>rw[q] at h;exact OE.tkE (D:=D) (o:=.ret v) h
 | exc e σ'=>rw[q] at h;exact h
 | bad=>rw[q] at h;exact h
theorem aDX:PS X (.Pass pos) (wS X RT Y old σ (ex P (call P n) σ .pass)):=bS aAr λD σV H t ⟨S,h⟩ _=>(show bE X.K RT Y old H σ D.nx from h) RT σV H (Kp.refl RT H) aS S
theorem aGy:PS X (.Break pos) (wS X RT Y old σ (ex P (call P n) σ .brk)):=bS vR λD σV H t ⟨S,h⟩ _=>(show bE X.K RT Y old H σ D.bk from h) RT σV H (Kp.refl RT H) aS S
theorem aGz:PS X (.Continue pos) (wS X RT Y old σ (ex P (call P n) σ .cnt)):=bS nR λD σV H t ⟨S,h⟩ _=>(show bE X.K RT Y old H σ D.ct from h) RT σV H (Kp.refl RT H) aS S
theorem aGA{st:Stmt}:PS X st (wS X RT Y old σ (ex P (call P n) σ .off)):=bS vU λD σV H t ⟨S,h⟩=>h.elim
theorem aGB{c:Str}{k:Bool}{e:E}{a:Expr}{np cp:Pos}(M:Mc X P Γ n)(hg:bZ Γ c=true)(ho:aY c=true)(hc:c∈Γ.rsd)(ha:PE X a (WE X P n RT Y old σ e))(hp:aN a=true) :
 PS X (.Raise (some (.Call (.Name c np) [a] [] cp)) none pos) (wS X RT Y old σ (ex P (call P n) σ (.rse c k (.cons e .nil)))):=by
 obtain⟨ab,hab⟩:=M.md.rsd c hc
 obtain⟨C,E⟩:=M.md.exc c ab hab
 refine bS (xN PySem.F.excBase_ValueError (by decide +kernel) (M.gl hg) E.bd E.ex (fV ha jJ (aA hp)) M.calm (xC X) (aH ho) (aA hp) (by rw[aA hp];rfl)) λD σV H t ⟨S,h⟩=>?_
 have h:=OE.from S (show OE X.K (XW X) RT Y old H (O.from σ (ev P (call P n) σ e >>= λx=>R.ok [x]) λvs=>.exc (.err c (if k then vs.map (·.d) else [])) σ) D from h)
 have h:=RE.bind' h
 refine wE.one S h λx u H1 hx t1 S1 r1=>⟨show 1<=sizeLine by rw[sizeLine_eq];decide,?_⟩
 exact(show bE X.K RT Y old H σ (λσV H=>XW X σV H (.err c (if k then [x].map (·.d) else []))) from hx) RT σV H1 (Kp.same r1.1) aS S1 (.ref C) E.ns
theorem sN{pa:Bool}{al:List Nat}{σV:L2.St}{b:Addr}(h:exB Y old pa b):exV RT Y old σ σV pa al b:=.inr h
theorem Ro.rtv{H H':Hp}{σV:L2.St}{v:Vl}{u:V}(S:Sx X.K RT Y old σ σV H)(ro:Ro X.K RT Y old σ σV H H' v u):Rtv X.K Y old H' v u:=by
 unfold Rtv
 by_cases hf:v.fr=true
 . rw[if_pos hf]
   obtain⟨s,h⟩:=ro
   rw[if_pos hf] at h
   obtain⟨a,xs,ds,e1,e2,e3,e4,r⟩:=h
   exact⟨a,xs,ds,e1,e2,λz=>S.trk a (.inr (.inr z)) e3,e4,r.weak λb z=>z.elim .inl λz=>.inr (sN z)⟩
 . rw[if_neg hf]
   exact Rep.weak (ro.rv S) λb z=>sN z
theorem aGC{c:E}{e:Expr}(he:PE X e (WE X P n RT Y old σ c)):PS X (.Return (some e) pos) (wS X RT Y old σ (ex P (call P n) σ (.ret c))):=by
 refine bS (vT he) λD σV H t ⟨S,h⟩=>?_
 have h:=OE.from S (show OE X.K (XW X) RT Y old H (O.from σ (ev P (call P n) σ c) .ret) D from h)
 exact wE.one S h λx u H1 hx t1 S1 r1 _=>(show iO X.K RT Y old H x D.rt from hx) u H1 (Kp.same r1.1) t1 (r1.rtv S)
theorem aDY:PS X (.Return none pos) (wS X RT Y old σ (ex P (call P n) σ .retN)):=bS aAs λD σV H t ⟨S,h⟩ _=>(show iO X.K RT Y old H (.cl .non) D.rt from h) .non H (Kp.refl RT H) t rfl
theorem aDZ{i:Nat}{x:Str}{p:Pos}(M:Mc X P Γ n)(hx:cM Γ i x=true):PS X (.Return (some (.Name x p)) pos) (wS X RT Y old σ (ex P (call P n) σ (.retv i))):=by
 have hpe:PE X (.Name x p) (aCG i):=by
  unfold cM at hx
  obtain⟨h1,h2,h3⟩:=dZ hx
  exact mF (by rw[M.N];exact eq_of_beq h1) (M.vis h2) (aH h3) (eX h3)
 refine bS (vT hpe) λD σV H t ⟨S,h⟩=>?_
 have h:OE X.K (XW X) RT Y old H (match σ[i]? with|some (.own pa ds)=>.ret ⟨.lst ds,true,pa,[]⟩|_=>O.from σ (bH σ i) .ret) D:=h
 unfold bH at h
 cases e:σ[i]? with
 | none=>rw[e] at h;exact h.elim
 | some sl=>
  rw[e] at h
  cases sl with
  | dead=>exact h.elim
  | dct _=>exact h.elim
  | par _ _=>exact h.elim
  | own pa ds=>
   obtain⟨a,xs,h1,h2,h3,h4,h5⟩:=S.own i pa ds e
   refine⟨.ref a,h1,λ_=>(show iO X.K RT Y old H ⟨.lst ds,true,pa,[]⟩ D.rt from h) _ H (Kp.refl RT H) t ?_⟩
   unfold Rtv
   rw[if_pos rfl]
   exact⟨a,xs,ds,rfl,rfl,h4,h2,h5.weak λb z=>z.elim (λz=>.inl (by rw[z];exact h3)) .inr⟩
  | sh pa d=>
   obtain⟨v,h1,h2⟩:=S.sh i pa d e
   refine⟨v,h1,λ_=>(show iO X.K RT Y old H ⟨d,false,pa&&!noL d,[]⟩ D.rt from h) v H (Kp.refl RT H) t ?_⟩
   unfold Rtv
   rw[if_neg bN]
   show Rep X.K H (exB Y old (pa&&!noL d)) d v
   cases hn:noL d with
   | true=>exact Rep.free d v hn h2
   | false=>
    refine h2.weak λb z=>.inr ?_
    rw[Bool.not_false,Bool.and_true] at z
    exact z
theorem aIv{c:E}{e:Expr}(he:PE X e (WE X P n RT Y old σ c))(hs:gR e=false):PS X (.Expr e pos) (wS X RT Y old σ (ex P (call P n) σ (.ex c))):=by
 refine bS (rP he (by cases e <;> first|rfl|cases hs)) λD σV H t ⟨S,h⟩=>?_
 have h:=OE.from S (show OE X.K (XW X) RT Y old H (O.from σ (ev P (call P n) σ c) λ_=>.next σ) D from h)
 exact wE.one S h λx u H1 hx t1 S1 r1 _=>(show bE X.K RT Y old H σ D.nx from hx) RT σV H1 (Kp.same r1.1) aS S1
theorem aIw{c:E}{a b:Ss}{e:Expr}{xa xb:List Stmt}(hc:PT X e (WT X P n RT Y old σ c))(ha:∀RT σ,PSs X xa (wS X RT Y old σ (exs P (call P n) σ a)))(hb:∀RT σ,PSs X xb (wS X RT Y old σ (exs P (call P n) σ b))) :
 PS X (.If e xa xb pos) (wS X RT Y old σ (ex P (call P n) σ (.iff c a b))):=by
 refine bS (aEU hc (ha RT σ) (hb RT σ)) λD σV H t ⟨S,h⟩=>?_
 have h:=OE.from S (show OE X.K (XW X) RT Y old H (O.from σ (tst P (call P n) σ c) λk=>if k=true then exs P (call P n) σ a else exs P (call P n) σ b) D from h)
 refine⟨S,h.mono λk hk H1 t1 s1=>?_⟩
 cases k with
 | true=>rw[if_pos rfl] at hk ⊢;exact⟨S.grow s1 t1,(OE.mono (Kp.same s1) aS hk).tkE⟩
 | false=>rw[if_neg bN] at hk ⊢;exact⟨S.grow s1 t1,(OE.mono (Kp.same s1) aS hk).tkE⟩
theorem nE{σV:L2.St}{H H1:Hp}{v:Vl}{u:V}{t:T}{D:Ends}(S:Sx X.K RT Y old σ σV H)(t1:Tk X.K H1)(r1:Ro X.K RT Y old σ σV H H1 v u)(h:OE X.K (XW X) RT Y old H (O.from σ (bM (freeze σ v.al) v t) .next) D):gT X.K t u σV H1 D.nx:=by
 obtain⟨σ2,e,hp⟩:=OE.fromc h (iB _ _ _)
 have hp:bE X.K RT Y old H σ2 D.nx:=hp
 clear h
 cases t with
 | n i=>
  obtain⟨RT',S',hsub⟩:=S.store r1 t1 i
  rw[jZ e] at hp
  exact hp RT' _ H1 (Kp.same r1.1) hsub S'
 | t is=>
  obtain⟨ds,hd,hl,e'⟩:=jY e
  have Sf:=(S.grow r1.1 t1).frz v.al
  have hr:Rep X.K H1 (λa=>rtF RT σ σV v.al a\/exB Y old v.pa a) v.d u:=r1.rv S
  have hf:v.fr=false\/v.fr=true:=by cases v.fr <;> simp
  rcases hf with hf|hf
  . exact yO Sf hf hr e λσ2V S2 _=>hp _ _ _ (Kp.same r1.1) (λb z=>.inl z.1) S2
  . have:=r1.2
    rw[if_pos hf] at this
    obtain⟨a,xs,ds',_,e2,_⟩:=this
    rw[hd] at e2;cases e2
theorem aEa{c:E}{e:Expr}{i:Nat}{x:Str}{p:Pos}(M:Mc X P Γ n)(hx:aU Γ i x=true)(he:PE X e (WE X P n RT Y old σ c))(hs:gR e=false):PS X (.Assign [.Name x p] e pos) (wS X RT Y old σ (ex P (call P n) σ (.set (.n i) c))):=by
 unfold aU at hx
 obtain⟨h1,h2,h3⟩:=dZ hx
 refine bS (mH (i:=i) M.nd (by rw[M.N];exact eq_of_beq h1) (M.loc h2) he (by cases e <;> first|rfl|cases hs) (M.st x h2)) λD σV H t ⟨S,h⟩=>?_
 have h:=OE.from S (show OE X.K (XW X) RT Y old H (O.from σ (ev P (call P n) σ c) λv=>O.from σ (bM (freeze σ v.al) v (.n i)) .next) D from h)
 exact wE.one S h λv u H1 hv t1 S1 r1=>nE (t:=.n i) S t1 r1 (OE.tkE hv)
theorem aEb{c:E}{e:Expr}{is:List Nat}{es:List Expr}{k:Nat}{p:Pos}(M:Mc X P Γ n)(hx:kN Γ (.t is) (.Tuple es k p)=true)(he:PE X e (WE X P n RT Y old σ c))(hs:qM e=false):PS X (.Assign [.Tuple es k p] e pos) (wS X RT Y old σ (ex P (call P n) σ (.set (.t is) c))):=by
 refine bS (aCS he (aBk M hx) (by cases e <;> rfl) (by cases e <;> first|rfl|cases hs)) λD σV H t ⟨S,h⟩=>?_
 have h:=OE.from S (show OE X.K (XW X) RT Y old H (O.from σ (ev P (call P n) σ c) λv=>O.from σ (bM (freeze σ v.al) v (.t is)) .next) D from h)
 exact wE.one S h λv u H1 hv t1 S1 r1=>nE (t:=.t is) S t1 r1 (OE.tkE hv)
theorem uU{i:Nat}{x:Str}{p cpos:Pos}(M:Mc X P Γ n)(hx:aU Γ i x=true){k:Nat}{caps:List Nat}{t:T}{it:Hp.It}{cond:Es}{elt:E}{e tg iter:Expr}{ifs:List Expr}{scope:Scope}{N':List Str}(CS:bU X scope k caps N')(hnd:caps.Nodup)(hk:∀i∈tIx t,i<k)(hcm:(Γ.fn||eC elt)=true)
 (hi:PI X tg iter (wI X P n RT Y old σ it))
 (hch:∀C s₀ H₀ ex,PG (bD X scope N' C s₀ H₀ ex) tg (gT X.K t)/\(∀RT Y old σ1,PTs (bD X scope N' C s₀ H₀ ex) ifs (uS X.K P n RT Y old σ1 cond))/\∀pl E W,PassesOwn (model X.prog X.w) X.A (bD X scope N' C s₀ H₀ ex).env E->Rs ((bD X scope N' C s₀ H₀ ex).inTry pl E) W->∀RT Y old σ1,PE ((bD X scope N' C s₀ H₀ ex).inTry pl E) e (wE0 X.K P n W RT Y old σ1 elt))
 (hs:∀x,foldedSetIterable iter X.env x=pure x):PS X (.Assign [.Name x p] (.ListComp e [⟨tg,iter,ifs,0⟩] scope cpos) pos) (wS X RT Y old σ (ex P (call P n) σ (.set (.n i) (.comp k caps t it cond elt)))):=by
 unfold aU at hx
 obtain⟨h1,h2,h3⟩:=dZ hx
 refine bS (qS (g:=gT X.K t) (tt:=λσV H Q=>∃RT Y old σ1,uS X.K P n RT Y old σ1 cond σV H Q) (te:=λW σV H Q=>∃RT Y old σ1,wE0 X.K P n W RT Y old σ1 elt σV H Q) (WX:=λc σ H=>Γ.fn=true/\RX X c σ H) CS M.calm hi (λC s₀ H₀ ex=>?_) (λc σ H z=>⟨M.stk z.1,z.2⟩) hs M.nd (by rw[M.N];exact eq_of_beq h1) (M.loc h2) (M.st x h2)) λD σV H t0 ⟨S,h⟩=>?_
 . obtain⟨h1,h2,h3⟩:=hch C s₀ H₀ ex
   exact⟨h1,λpins s σV H Q I ⟨RT,Y,old,σ1,hw⟩=>h2 RT Y old σ1 pins s σV H Q I hw,λpl E W own rs pins s σV H Q I ⟨RT,Y,old,σ1,hw⟩=>h3 pl E W own rs RT Y old σ1 pins s σV H Q I hw⟩
 . have h:=OE.from S (show OE X.K (XW X) RT Y old H (O.from σ (ev P (call P n) σ (.comp k caps t it cond elt)) λv=>O.from σ (bM (freeze σ v.al) v (.n i)) .next) D from h)
   exact yR (Q:=λv H'=>kR i v σV H' D.nx) hnd hk hcm ⟨S,h.mono λv hv u H1 t1 r1=>nE (t:=.n i) S t1 r1 hv⟩
theorem Sx.mut{K:Fg}{σV:L2.St}{H:Hp}(S:Sx K RT Y old σ σV H){i:Nat}{pa pa':Bool}{ds ds':List D}{a:Addr}{xs':List V}(e:σ[i]? = some (.own pa ds))(ha:σV[i]? = some (some (.ref a)))(r:Reps K H (λb=>RT b\/exB Y old pa' b) ds' xs') :
 Sx K RT Y old (σ.set i (.own pa' ds')) σV (upd H a (.lst xs')):=by
 obtain⟨a',xs,h1,h2,h3,h4,h5⟩:=S.own i pa ds e
 rw[ha] at h1
 cases h1
 have ks:∀{ex:Addr->Prop},∀b o,H b=some o->(∀ys,o=.lst ys->¬ (RT b\/ex b))->(∀xs,o≠eI b xs)->upd H a (.lst xs') b=some o:=λ{ex} b o q hl _=>by
  rw[aE λz=>by subst z;rw[h2] at q;cases q;exact hl xs rfl (.inl h3)]
  exact q
 exact {
  sh:=λj pb d q=>by
   rcases set_some q with⟨_,z,_⟩|⟨_,q⟩
   . cases z
   . obtain⟨v,g1,g2⟩:=S.sh j pb d q
     exact⟨v,g1,g2.keep ks⟩
  own:=λj pb dd q=>by
   rcases set_some q with⟨rfl,z,_⟩|⟨hne,q⟩
   . cases z
     exact⟨a,xs',ha,aV,h3,h4,r.keep ks⟩
   . obtain⟨b,ys,g1,g2,g3,g4,g5⟩:=S.own j pb dd q
     have hb:b≠a:=λz=>by
      subst z
      exact hne (S.inj i j pa pb ds dd b e q ha g1)
     exact⟨b,ys,g1,by rw[aE hb];exact g2,g3,g4,g5.keep ks⟩
  trk:=λb z q=>by
   by_cases hb:b=a
   . rw[hb,aV] at q;cases q
   . rw[aE hb] at q;exact S.trk b z q
  yo:=S.yo
  tk:=λb z=>by
   by_cases hb:b=a
   . rw[hb];exact S.tk a (by rw[h2];simp)
   . rw[aE hb] at z;exact S.tk b z
  rt:=λb z=>by
   by_cases hb:b=a
   . rw[hb];exact .inl ⟨xs',aV⟩
   . unfold RtO;rw[aE hb];exact S.rt b z
  inj:=λj j' pb pb' dd dd' b q1 q2=>by
   have get:∀{j:Nat} {pb:Bool} {dd:List D},(σ.set i (.own pa' ds'))[j]? = some (.own pb dd)->∃p2 d2,σ[j]? = some (.own p2 d2):=λ{j pb dd} q=>by
    rcases set_some q with⟨rfl,_,_⟩|⟨_,q⟩
    . exact⟨pa,ds,e⟩
    . exact⟨pb,dd,q⟩
   obtain⟨_,_,z1⟩:=get q1
   obtain⟨_,_,z2⟩:=get q2
   exact S.inj j j' _ _ _ _ b z1 z2
  len:=by rw[List.length_set];exact S.len
  dx:=S.dx.imp id (λj dd q=>by
   rcases set_some q with⟨_,z,_⟩|⟨_,q⟩
   . cases z
   . exact⟨q,rfl⟩) (λ_ _ _ _ _ _ e=>e) (λb ys q z _=>⟨by rw[aE λw=>by rw[w,h2] at q;cases q];exact q,z⟩) (λb ks z=>Kp.seqT (R:=λb=>b=a) (λb o q n=>by rw[aE n];exact q) (λb z=>.inl ⟨xs,by rw[z];exact h2⟩) z) (λj dd ee q=>by
   rcases set_some q with⟨_,z,_⟩|⟨_,q⟩
   . cases z
   . exact⟨q,rfl⟩) (λ_ _ _ _ _ _ _ _ e=>e) λp ys q z=>⟨by rw[aE λw=>z.2.2 i pa ds e (by rw[w];exact ha)];exact q,z.1,z.2.1,λk pb dd w=>by
   rcases set_some w with⟨rfl,_,_⟩|⟨_,w⟩
   . exact z.2.2 i pa ds e
   . exact z.2.2 k pb dd w⟩ }
theorem Kp.upd{H H1:Hp}{a:Addr}{xs:List V}(s:aG H H1)(h:RT a):Kp RT H (upd H1 a (.lst xs)):=λb o e nn=>by
 rw[aE λz=>nn (by rw[z];exact h)]
 exact s b o e
theorem yV{i:Nat}{pa:Bool}{ds:List D}(h:oA σ i=some (pa,ds)):σ[i]? = some (.own pa ds):=by
 unfold oA at h
 split at h
 . rename_i q;cases h;exact q
 . cases h
theorem aEc{i:Nat}{v:Vl}{f:List D->Option (List D)}{H:Hp}{D:Ends}(h:OE X.K (XW X) RT Y old H (put σ i v f) D):∃pa ds ds',σ[i]? = some (.own pa ds)/\i∉v.al/\f ds=some ds'/\ds'.length<=lim/\bE X.K RT Y old H ((freeze σ v.al).set i (.own (pa||v.pa) ds')) D.nx:=by
 unfold put at h
 split at h
 . rename_i pa ds q
   have q:=cJ (yV q)
   split at h
   . rename_i ds' q2
     split at h
     . rename_i hl
       exact⟨pa,ds,ds',q.1,q.2,q2,hl,h⟩
     . exact h.elim
   . exact h.elim
 . exact h.elim
theorem aBp{pa pb:Bool}{b:Addr}(h:exB Y old (pa||pb) b):exB Y old pa b:=h.imp_right λz=>⟨by cases pa <;> simp_all,z.2⟩
theorem aBq{pa pb:Bool}{b:Addr}(h:exB Y old (pa||pb) b):exB Y old pb b:=h.imp_right λz=>⟨by cases pb <;> simp_all,z.2⟩
theorem aBr{i:Nat}{m:Str}{c:Expr}{xs:List Expr}(h:oG Γ i m c=some xs):∃x p ap cp,c=.Call (.Attribute (.Name x p) m ap) xs [] cp/\cM Γ i x=true/\(ap.endLine==cp.line)=true:=by
 unfold oG at h
 split at h
 . rename_i x p a ap xs' cp
   split at h
   . rename_i q
     obtain⟨q1,q2,q3⟩:=dZ q
     cases h
     have e:a=m:=eq_of_beq q1
     subst e
     exact⟨x,p,ap,cp,rfl,q2,q3⟩
   . cases h
 . cases h
theorem sO{i:Nat}{x:Str}{p:Pos}(M:Mc X P Γ n)(hx:cM Γ i x=true):PE X (.Name x p) (aCG i):=by
 unfold cM at hx
 obtain⟨h1,h2,h3⟩:=dZ hx
 exact mF (by rw[M.N];exact eq_of_beq h1) (M.vis h2) (aH h3) (eX h3)
theorem aEd:lim<sizeLine:=by rw[sizeLine_eq];decide
theorem yW{i:Nat}{al:List Nat}{pa:Bool}{ds:List D}{σV:L2.St}{H H1:Hp}{b:Addr}{xs:List V}(S:Sx X.K RT Y old σ σV H)(s1:aG H H1)(q1:σ[i]? = some (.own pa ds))(h1:σV[i]? = some (some (.ref b)))(h2:H b=some (.lst xs)) :
 Reps X.K H1 (λc=>rtF RT σ σV al c\/exB Y old pa c) ds xs:=by
 obtain⟨b',xs',g1,g2,g3,g4,g5⟩:=S.own i pa ds q1
 rw[h1] at g1
 cases g1
 rw[h2] at g2
 cases g2
 exact(g5.grow s1).weak λc z=>z.elim (λz=>.inl z.1) .inr
theorem yX{i:Nat}{v:Vl}{pa:Bool}{ds ds':List D}{σV:L2.St}{H H1:Hp}{b:Addr}{xs':List V}{Q:L2.St->Hp->Prop}(S:Sx X.K RT Y old σ σV H)(s1:aG H H1)(t1:Tk X.K H1)(q1:σ[i]? = some (.own pa ds))(q2:i∉v.al)(h1:σV[i]? = some (some (.ref b)))
 (r:Reps X.K H1 (λc=>rtF RT σ σV v.al c\/exB Y old (pa||v.pa) c) ds' xs') (hpost:bE X.K RT Y old H ((freeze σ v.al).set i (.own (pa||v.pa) ds')) Q):Q σV (upd H1 b (.lst xs')):=by
 obtain⟨b',xs,g1,g2,g3,g4,g5⟩:=S.own i pa ds q1
 rw[h1] at g1
 cases g1
 have e':(freeze σ v.al)[i]? = some (.own pa ds):=by
  rw[cI,q1]
  simp[q2]
 exact hpost _ σV _ (Kp.upd s1 g3) (λc z=>.inl z.1) (((S.grow s1 t1).frz v.al).mut e' h1 r)
theorem aEe{σV:L2.St}{H1:Hp}{v:Vl}{u:V}{pa:Bool}(h:Rv X.K RT Y old σ σV H1 v u):Rep X.K H1 (λc=>rtF RT σ σV v.al c\/exB Y old (pa||v.pa) c) v.d u:=Rep.weak h λc z=>z.imp id aBq
theorem aGD{i:Nat}{c:E}{e a:Expr}(M:Mc X P Γ n)(hc:oG Γ i "append" e=some [a])(ha:PE X a (WE X P n RT Y old σ c))(hp:aN a=true):PS X (.Expr e pos) (wS X RT Y old σ (ex P (call P n) σ (.app i c))):=by
 obtain⟨x,p,ap,cp,rfl,hx,hl⟩:=aBr hc
 refine bS (rP (aFo PySem.F.plainAttrs_list PySem.F.slot_list_append PySem.F.type_list_append uB (sO M hx) (fV ha jJ (aA hp)) rfl (by rw[aA hp];rfl) hl (aA hp) rfl)) λD σV H t ⟨S,h⟩=>?_
 have h:=OE.from S (show OE X.K (XW X) RT Y old H (O.from σ (ev P (call P n) σ c).calm λv=>put σ i v λds=>some (ds++[v.d])) D from h)
 obtain⟨v,ee,h⟩:=RE.calmEq h
 obtain⟨pa,ds,ds',q1,q2,q3,q4,hpost⟩:=aEc h
 cases q3
 obtain⟨b,xs,h1,h2,h3,h4,h5⟩:=S.own i pa ds q1
 refine⟨.ref b,h1,.inl ⟨rfl,xs,SqL.of h2⟩,S,?_⟩
 rw[ee]
 intro u H1 t1 r1
 have hlen:=h5.length
 refine⟨b,xs,u,rfl,rfl,r1.1 _ _ h2,?_,λ_=>?_⟩
 . rw[lA,List.length_singleton] at q4
   have:=aEd
   omega
 . exact yX S r1.1 t1 q1 q2 h1 (((yW S r1.1 q1 h1 h2).weak λc z=>z.imp id aBp).append (.cons (aEe (r1.rv S)) .nil)) hpost
theorem RE.never{α:Type}{x:R α}{p:α->Prop}{w w':D->Prop}(h:RE w x p)(n:∀z,x≠.exc z):RE w' x p:=by
 cases x with
 | ok a=>exact h
 | exc e=>exact absurd rfl (n e)
 | bad=>exact h
theorem Sx.move{K:Fg}{σV:L2.St}{H:Hp}(S:Sx K RT Y old σ σV H){i j:Nat}{pa:Bool}{ds:List D}{a:Addr}(e:σ[j]? = some (.own pa ds))(hij:i≠j)(ha:σV[j]? = some (some (.ref a))):Sx K RT Y old ((σ.set j .dead).set i (.own pa ds)) (σV.set i (some (.ref a))) H where
 sh:=λk pb d q=>by
  rcases set_some q with⟨_,z,_⟩|⟨n1,q⟩
  . cases z
  rcases set_some q with⟨_,z,_⟩|⟨n2,q⟩
  . cases z
  obtain⟨v,g1,g2⟩:=S.sh k pb d q
  exact⟨v,by rw[List.getElem?_set_ne n1];exact g1,g2⟩
 own:=λk pb dd q=>by
  rcases set_some q with⟨rfl,z,hl⟩|⟨n1,q⟩
  . cases z
    obtain⟨b,xs,g1,g2,g3⟩:=S.own j pa ds e
    rw[ha] at g1
    cases g1
    rw[List.length_set] at hl
    exact⟨a,xs,List.getElem?_set_self (by rw[<-S.len];exact hl),g2,g3⟩
  rcases set_some q with⟨_,z,_⟩|⟨n2,q⟩
  . cases z
  obtain⟨b,xs,g1,g2⟩:=S.own k pb dd q
  exact⟨b,xs,by rw[List.getElem?_set_ne n1];exact g1,g2⟩
 trk:=S.trk
 yo:=S.yo
 tk:=S.tk
 rt:=S.rt
 inj:=λk k' pb pb' dd dd' b q1 q2 v1 v2=>by
  have get:∀{k:Nat} {pb:Bool} {dd:List D},((σ.set j .dead).set i (.own pa ds))[k]? = some (.own pb dd)->(σV.set i (some (.ref a)))[k]? = some (some (.ref b))->(k=i/\b=a)\/(k≠i/\k≠j/\σ[k]? = some (.own pb dd)/\σV[k]? = some (some (.ref b))):=λ{k pb dd} q v=>by
   rcases set_some q with⟨rfl,z,hl⟩|⟨n1,q⟩
   . rw[List.length_set] at hl
     rw[List.getElem?_set_self (by rw[<-S.len];exact hl)] at v
     cases v
     exact .inl ⟨rfl,rfl⟩
   rcases set_some q with⟨_,z,_⟩|⟨n2,q⟩
   . cases z
   rw[List.getElem?_set_ne n1] at v
   exact .inr ⟨Ne.symm n1,Ne.symm n2,q,v⟩
  rcases get q1 v1 with⟨e1,b1⟩|⟨n1,m1,o1,w1⟩
  . rcases get q2 v2 with⟨e2,_⟩|⟨n2,m2,o2,w2⟩
    . rw[e1,e2]
    . subst b1
      exact absurd (S.inj k' j _ _ _ _ b o2 e w2 ha) m2
  . rcases get q2 v2 with⟨e2,b2⟩|⟨n2,m2,o2,w2⟩
    . subst b2
      exact absurd (S.inj k j _ _ _ _ b o1 e w1 ha) m1
    . exact S.inj k k' _ _ _ _ b o1 o2 w1 w2
 len:=by rw[List.length_set,List.length_set,List.length_set];exact S.len
 dx:=S.dx.imp id (λk dd q=>by
  rcases set_some q with⟨_,z,_⟩|⟨n1,q⟩
  . cases z
  rcases set_some q with⟨_,z,_⟩|⟨n2,q⟩
  . cases z
  exact⟨q,List.getElem?_set_ne n1⟩) (λ_ _ _ _ _ _ e=>e) (λ_ _ e z _=>⟨e,z⟩) (λ_ _ r=>r) (λk dd ee q=>by
  rcases set_some q with⟨_,z,_⟩|⟨n1,q⟩
  . cases z
  rcases set_some q with⟨_,z,_⟩|⟨n2,q⟩
  . cases z
  exact⟨q,List.getElem?_set_ne n1⟩) (λ_ _ _ _ _ _ _ _ e=>e) λp xs q z=>⟨q,z.1,z.2.1,λk pb dd q w=>by
  rcases set_some q with⟨rfl,_,hl⟩|⟨n1,q⟩
  . rw[List.length_set] at hl
    rw[List.getElem?_set_self (by rw[<-S.len];exact hl)] at w
    cases w
    exact z.2.2 j pa ds e ha
  rcases set_some q with⟨_,v,_⟩|⟨n2,q⟩
  . cases v
  rw[List.getElem?_set_ne n1] at w
  exact z.2.2 k pb dd q w⟩
theorem aGE{i j:Nat}{x y:Str}{p p2:Pos}(M:Mc X P Γ n)(hx:aU Γ i x=true)(hy:cM Γ j y=true):PS X (.Assign [.Name x p] (.Name y p2) pos) (wS X RT Y old σ (ex P (call P n) σ (.mov i j))):=by
 unfold aU at hx
 obtain⟨h1,h2,h3⟩:=dZ hx
 refine bS (mH (i:=i) M.nd (by rw[M.N];exact eq_of_beq h1) (M.loc h2) (sO M hy) rfl (M.st x h2)) λD σV H t ⟨S,h⟩=>?_
 have h:OE X.K (XW X) RT Y old H (match σ[j]? with
  | some (.own pa ds)=>if i=j then .bad else .next ((σ.set j .dead).set i (.own pa ds))
  | some (.sh pa d)=>.next (σ.set i (.sh (pa&&!noL d) d))
  | _=>.bad) D:=h
 cases e:σ[j]? with
 | none=>rw[e] at h;exact h.elim
 | some sl=>
  rw[e] at h
  cases sl with
  | dead=>exact h.elim
  | dct _=>exact h.elim
  | par _ _=>exact h.elim
  | own pa ds=>
   by_cases hij:i=j
   . have h:OE X.K (XW X) RT Y old H (if i=j then .bad else .next ((σ.set j .dead).set i (.own pa ds))) D:=h
     rw[if_pos hij] at h;exact h.elim
   . have h:OE X.K (XW X) RT Y old H (if i=j then .bad else .next ((σ.set j .dead).set i (.own pa ds))) D:=h
     rw[if_neg hij] at h
     obtain⟨a,xs,g1,g2⟩:=S.own j pa ds e
     exact⟨.ref a,g1,λ_=>(show bE X.K RT Y old H _ D.nx from h) RT _ H (Kp.refl RT H) aS (S.move e hij g1)⟩
  | sh pa d=>
   obtain⟨v,g1,g2⟩:=S.sh j pa d e
   refine⟨v,g1,λ_=>(show bE X.K RT Y old H (σ.set i (.sh (pa&&!noL d) d)) D.nx from h) RT _ H (Kp.refl RT H) aS (S.setSh ?_)⟩
   cases hn:noL d with
   | true=>exact Rep.free d v hn g2
   | false=>rw[Bool.not_false,Bool.and_true];exact g2
theorem aGF{t:T}{it:Hp.It}{b:Ss}{tg iter:Expr}{body:List Stmt}(M:Mc X P Γ n)(hx:kN Γ t tg=true)(hi:PI X tg iter (wI X P n RT Y old σ it))(hb:∀RT σ,PSs X body (wS X RT Y old σ (exs P (call P n) σ b)))(hs:∀x,foldedSetIterable iter X.env x=pure x) :
 PS X (.For tg iter body [] pos) (wS X RT Y old σ (ex P (call P n) σ (.for t it b))):=by
 have hp:PassesOwn (model X.prog X.w) X.A X.env X.xe:=M.own
 refine bS (aCT hp M.calm hi (aBk M hx) (sM hb) hs) λD0 σV H t0 ⟨S,h⟩=>?_
 have h:=OE.tkE h
 revert h
 generalize tkE X.K D0=D
 intro h
 let f:Sg->Vl->O:=λσ x=>O.from σ (bM σ x t) λσ'=>exs P (call P n) σ' b
 have h:=OE.from S (show OE X.K (XW X) RT Y old H (O.from σ (walk P (call P n) σ it) λxs=>bO f xs.1 (freeze σ xs.2)) D from h)
 refine⟨S,h.mono λxs hx J H1 t1 s1 ok=>?_⟩
 have S1:=S.grow s1 t1
 have Sf:=S1.frz xs.2
 refine⟨λi m σ1V Hc=>m=xs.1.length-i/\i<=xs.1.length/\∃RT1 σ1,Kp (rtF RT σ σV xs.2) H1 Hc/\(∀b,RT1 b->rtF RT σ σV xs.2 b\/H1 b=none)/\Sx X.K RT1 Y old σ1 σ1V Hc/\OE X.K (XW X) RT1 Y old Hc (bO f (xs.1.drop i) σ1) D,
  ⟨_,rfl,Nat.zero_le _,rtF RT σ σV xs.2,freeze σ xs.2,Kp.refl _ _,aS,Sf,OE.mono (Kp.same s1) (λb z=>.inl z.1) hx⟩,?_⟩
 rintro i m σ1V Hc ⟨hm,hi,RT1,σ1,kp,hsub,Sc,ho⟩
 have okc:=ok.ok (rtF RT σ σV xs.2) (λ_ z=>z) i Hc kp
 by_cases hlt:i<xs.1.length
 . refine .inr ⟨okc.1 hlt,λσ' H'=>xs.1.length-(i+1)=xs.1.length-(i+1)/\i+1<=xs.1.length/\∃RT1 σ1,Kp (rtF RT σ σV xs.2) H1 H'/\(∀b,RT1 b->rtF RT σ σV xs.2 b\/H1 b=none)/\Sx X.K RT1 Y old σ1 σ' H'/\OE X.K (XW X) RT1 Y old H' (bO f (xs.1.drop (i+1)) σ1) D,
    λσ' H' hN=>⟨_,by omega,hN⟩,λx H' hy=>?_⟩
   have hxi:xs.1[i]? = some xs.1[i]:=List.getElem?_eq_getElem hlt
   obtain⟨sm,tkf,rv⟩:=okc.2.2 x H' hy xs.1[i] hxi
   have hmem:xs.1[i]∈xs.1:=List.getElem_mem hlt
   rw[List.drop_eq_getElem_cons hlt] at ho
   have Sc':=Sc.grow sm (tkf Sc.tk)
   have rep:Rep X.K H' (λa=>RT1 a\/exB Y old xs.1[i].pa a) xs.1[i].d x:=rv.weak λa z=>by
    rcases z with z|z
    . rcases hsub a z with q|q
      . exact .inl (.inl ⟨q.1,λw=>q.2 (w.mono (ok.sub _ hmem))⟩)
      . exact .inr ⟨q,Sc.tk a (Sc.trk a (.inl z))⟩
    . exact .inl (.inr z)
   have ho:OE X.K (XW X) RT1 Y old Hc (match f σ1 xs.1[i] with
    | .next σ'=>bO f (xs.1.drop (i+1)) σ'
    | .cnt σ'=>bO f (xs.1.drop (i+1)) σ'
    | .brk σ'=>.next σ'
    | o=>o) D:=ho
   cases hset:bM σ1 xs.1[i] t with
   | exc e=>exact absurd hset (iB _ _ _ _)
   | bad=>rw[show f σ1 xs.1[i]=.bad by show O.from σ1 (bM σ1 xs.1[i] t) _=_;rw[hset];rfl] at ho;exact ho.elim
   | ok σ2=>
    rw[show f σ1 xs.1[i]=exs P (call P n) σ2 b by show O.from σ1 (bM σ1 xs.1[i] t) _=_;rw[hset];rfl] at ho
    refine yO Sc' (ok.nofr _ hmem) rep hset λσ2V S2 _=>⟨RT1,σ2,S2,?_⟩
    have kS:Kp RT1 Hc H':=Kp.same sm
    have again:∀{σ':Sg} {RT':Addr->Prop} {σV':L2.St} {H'':Hp},Kp RT1 H' H''->(∀b,RT' b->RT1 b\/H' b=none)->Sx X.K RT' Y old σ' σV' H''->OE X.K (XW X) RT1 Y old Hc (bO f (xs.1.drop (i+1)) σ') D ->
     (xs.1.length-(i+1)=xs.1.length-(i+1)/\i+1<=xs.1.length/\∃RT1 σ1,Kp (rtF RT σ σV xs.2) H1 H''/\(∀b,RT1 b->rtF RT σ σV xs.2 b\/H1 b=none)/\Sx X.K RT1 Y old σ1 σV' H''/\OE X.K (XW X) RT1 Y old H'' (bO f (xs.1.drop (i+1)) σ1) D):=λ{σ' RT' σV' H''} k2 s2 S3 h3=>by
     have k3:Kp RT1 Hc H'':=kS.chain aS k2
     have s3:∀b,RT' b->RT1 b\/Hc b=none:=iC kS aS s2
     exact⟨rfl,hlt,RT',σ',kp.chain hsub k3,iC kp hsub s3,S3,OE.mono k3 s3 h3⟩
    cases q:exs P (call P n) σ2 b with
    | next σ'=>rw[q] at ho;exact λRT' σV' H'' k2 s2 S3=>again k2 s2 S3 ho
    | cnt σ'=>rw[q] at ho;exact λRT' σV' H'' k2 s2 S3=>again k2 s2 S3 ho
    | brk σ'=>rw[q] at ho;exact bE.mono kS aS (show bE X.K RT1 Y old Hc σ' D.nx from ho)
    | ret v=>rw[q] at ho;exact OE.mono (o:=.ret v) kS aS ho
    | exc e σ'=>rw[q] at ho;exact OE.mono (o:=.exc e σ') kS aS ho
    | bad=>rw[q] at ho;exact ho.elim
 . have hie:i=xs.1.length:=by omega
   subst hie
   rw[List.drop_length] at ho
   exact .inl ⟨okc.2.1 (Nat.le_refl _),(show bE X.K RT1 Y old Hc σ1 D.nx from ho) RT1 σ1V Hc (Kp.refl _ _) aS Sc⟩
theorem Sx.kill{K:Fg}{σV:L2.St}{H:Hp}(S:Sx K RT Y old σ σV H)(j:Nat)(v:Option V):Sx K RT Y old (σ.set j .dead) (σV.set j v) H where
 sh:=λk pb d q=>by
  rcases set_some q with⟨_,z,_⟩|⟨n1,q⟩
  . cases z
  obtain⟨v,g1,g2⟩:=S.sh k pb d q
  exact⟨v,by rw[List.getElem?_set_ne n1];exact g1,g2⟩
 own:=λk pb dd q=>by
  rcases set_some q with⟨_,z,_⟩|⟨n1,q⟩
  . cases z
  obtain⟨b,xs,g1,g2⟩:=S.own k pb dd q
  exact⟨b,xs,by rw[List.getElem?_set_ne n1];exact g1,g2⟩
 trk:=S.trk
 yo:=S.yo
 tk:=S.tk
 rt:=S.rt
 inj:=λk k' pb pb' dd dd' b q1 q2 v1 v2=>by
  rcases set_some q1 with⟨_,z,_⟩|⟨n1,q1⟩
  . cases z
  rcases set_some q2 with⟨_,z,_⟩|⟨n2,q2⟩
  . cases z
  rw[List.getElem?_set_ne n1] at v1
  rw[List.getElem?_set_ne n2] at v2
  exact S.inj k k' _ _ _ _ b q1 q2 v1 v2
 len:=by rw[List.length_set,List.length_set];exact S.len
 dx:=S.dx.imp id (λj ds e=>by
  rcases set_some e with⟨_,z,_⟩|⟨hij,e⟩
  . cases z
  . exact⟨e,List.getElem?_set_ne hij⟩) (λ_ _ _ _ _ _ e=>e) (λ_ _ e z _=>⟨e,z⟩) (λ_ _ r=>r) (λj ds es e=>by
  rcases set_some e with⟨_,z,_⟩|⟨hij,e⟩
  . cases z
  . exact⟨e,List.getElem?_set_ne hij⟩) (λ_ _ _ _ _ _ _ _ e=>e) λp xs e z=>⟨e,z.1,z.2.1,λk pa' ds q=>by
  rcases set_some q with⟨_,w,_⟩|⟨hij,q⟩
  . cases w
  . rw[List.getElem?_set_ne hij];exact z.2.2 k pa' ds q⟩
theorem aGG{c nm y:Str}{i j:Nat}{b:Ss}{body:List Stmt}{np yp np2 ap hp:Pos}(M:Mc X P Γ n)(hg:bZ Γ c=true)(ho:aY c=true)(hc:c∈Γ.cls)(hr:c∈Γ.rsd)(hy:aU Γ i y=true)(hn:aU Γ j nm=true)(hl:Γ.sc.lookup nm=some .local)(hij:i≠j)(hfn:Γ.fn=true)
 (hb:∀{X':Cx},Mc X' P Γ n->∀RT σ,PSs X' body (wS X' RT Y old σ (exs P (call P n) σ b))) :
 PS X (.Try body [.ExceptHandler (some (.Name c np)) (some nm) [.Assign [.Name y yp] (.Name nm np2) ap] hp] [] [] pos) (wS X RT Y old σ (ex P (call P n) σ (.tryAs b c i j))):=by
 unfold aU at hy hn
 obtain⟨y1,y2,y3⟩:=dZ hy
 obtain⟨n1,n2,n3⟩:=dZ hn
 obtain⟨ab0,hab0⟩:=M.md.rsd c hr
 obtain⟨C,E0⟩:=M.md.exc c ab0 hab0
 have hC:=E0.bd
 refine bS (xP (tb:=λW D σV H=>Sx X.K RT Y old σ σV H/\OE X.K (clW X.K W) RT Y old H (exs P (call P n) σ b) D) (C:=C) (newId:= "ValueError.__new__") (iy:=i) (jn:=j) (M.gl hg) hC (aH ho) E0.ex (M.stk hfn) M.nd (by rw[M.N];exact eq_of_beq y1) (by rw[M.N];exact eq_of_beq n1) (M.loc y2) (by rw[M.sc];exact hl) (M.st y y2) (aH n3) (eX n3) rfl hij λpins E W own rs=>
  jB (hb (M.inTry own) RT σ) λD σV H t ⟨S,h⟩=>⟨S,(OE.weak h λσV H x z=>clW.xw rs z).tkE⟩) λD σV H t ⟨S,h⟩=>⟨S,?_⟩
 have h:OE X.K (XW X) RT Y old H (match exs P (call P n) σ b with
  | .exc x σ'=>(match isX [.own c] P x with
   | some true=>.next ((σ'.set i (.sh true x)).set j .dead)
   | _=>.bad)
  | o=>o) D:=h
 cases q:exs P (call P n) σ b with
 | next σ'=>rw[q] at h;exact bE.tkE h
 | brk σ'=>rw[q] at h;exact bE.tkE h
 | cnt σ'=>rw[q] at h;exact bE.tkE h
 | ret v=>rw[q] at h;exact λu H2 k t r _=>(show iO X.K RT Y old H v D.rt from h) u H2 k t r
 | bad=>rw[q] at h;exact h
 | exc x σ'=>
  rw[q] at h
  have h:OE X.K (XW X) RT Y old H (match isX [.own c] P x with
   | some true=>.next ((σ'.set i (.sh true x)).set j .dead)
   | _=>.bad) D:=h
  cases hi:isX [.own c] P x with
  | none=>rw[hi] at h;exact h.elim
  | some kk=>
   rw[hi] at h
   cases kk with
   | false=>exact h.elim
   | true=>
    have h:bE X.K RT Y old H ((σ'.set i (.sh true x)).set j .dead) D.nx:=h
    cases x with
    | err c' fs=>
     have hi:(match P.above.lookup c' with|some ab=>some ([Cl.own c].any λa=>ab.contains a)|none=>none)=some true:=hi
     split at hi
     . rename_i ab hab
       obtain⟨C1,E⟩:=M.md.exc c' ab hab
       obtain⟨C',g1,_,g2⟩:=E.ow c hc
       rw[hC] at g1
       cases g1
       have hin:ab.contains (.own c)=true:=by simpa using Option.some.inj hi
       intro RT' σV' H' kp sub S' cls hns
       have e:cls=.ref C1:=by
        have:=E.ns.symm.trans hns
        simpa using this.symm
       subst e
       refine⟨C1,rfl,⟨_,E.ex⟩,(g2 hin).1,λa ha tk=>h RT' _ _ (kp.chain sub (Kp.same (aG.new ha))) sub ?_⟩
       have S1:=S'.grow (aG.new ha) tk
       have S2:=(((S1.kill j (some (.ref a))).setSh (i:=i) (pa:=true) (d:=.err c' fs) (u:=.ref a) ⟨a,C1,rfl,aV,hns⟩).kill j (some .non)).kill j none
       have es:(((σ'.set j .dead).set i (.sh true (.err c' fs))).set j .dead).set j .dead=(σ'.set i (.sh true (.err c' fs))).set j .dead:=by
        rw[List.set_set,List.set_comm _ _ hij.symm,List.set_set]
       rw[es] at S2
       exact S2
     . cases hi
    | _=>cases hi
end
end Hp
end
noncomputable section
namespace L2
open PySem PySem.Spec PyProof.Rows
section
variable {prog:Program} {w:World} {A:Around} {E:Value->Shared->Prop} {s:Shared}
end
theorem IsTupleKey.mono{prog:Program}{w:World}{h h':Heap}{k:List Int}{a:Addr}(k':∀b o,h.get? b=some o->h'.get? b=some o)(x:IsTupleKey (intKind prog w) h k a):IsTupleKey (intKind prog w) h' k a:=by
 obtain⟨o,its,n,h1,h2⟩:=x
 exact⟨o,its,n,k' _ _ h1,h2⟩
theorem bJ.mono{prog:Program}{w:World}{h h':Heap}(k':∀b o,h.get? b=some o->h'.get? b=some o):∀{k:NK} {vs:List Value},bJ (tupleKind (intKind prog w)) h k vs->bJ (tupleKind (intKind prog w)) h' k vs
 | _,_,.nil=>.nil
 | _,_,.cons h1 t=>.cons (IsTupleKey.mono k' h1) (bJ.mono k' t)
theorem eH.mono{prog:Program}{w:World}{h h':Heap}{k:NK}{a:Addr}(k':∀b o,h.get? b=some o->h'.get? b=some o)(x:eH (tupleKind (intKind prog w)) h k a):eH (tupleKind (intKind prog w)) h' k a:=by
 obtain⟨o,its,n,h1,h2,h3,h4⟩:=x
 exact⟨o,its,n,k' _ _ h1,h2,h3,bJ.mono k' h4⟩
section
variable {prog:Program} {w:World} {A:Around} {R:Result->Shared->Prop} {good:NK->Addr->Prop} {h₀:Heap} {d it l:Addr} {items:Array Value} {ks:List (NK×V)}
end
section
variable {X:Cx}
end
end L2
end
noncomputable section
set_option maxHeartbeats 4000000
namespace Hp
open PySem PySem.Spec PyProof.Rows L2
section
variable {X:Cx} {P:Pg} {Γ:Ct} {n:Nat} {RT Y old:Addr->Prop} {σ:Sg} {pos:Pos} {l:Nat} {K:Fg} {H:Hp} {σV:L2.St}
end
section
variable {X:Cx} {P:Pg} {Γ:Ct} {n:Nat} {RT Y old:Addr->Prop} {σ:Sg} {pos:Pos} {l:Nat} {K:Fg} {H H':Hp} {σV:L2.St}
end
section
variable {X:Cx} {P:Pg} {Γ:Ct} {n:Nat} {RT Y old:Addr->Prop} {σ:Sg} {pos:Pos}
theorem RE.eqF{α:Type}{x:R α}{p:α->Prop}(h:RE (λ_=>False) x p):∃a,x=.ok a/\p a:=by
 cases x with
 | ok a=>exact⟨a,rfl,h⟩
 | exc e=>exact h.elim
 | bad=>exact h.elim
theorem OE.calmEq{K:Fg}{w:L2.St->Hp->D->Prop}{H:Hp}{α:Type}{x:R α}{f:α->O}{D:Ends}(h:OE K w RT Y old H (O.from σ x.calm f) D):∃a,x=.ok a/\OE K w RT Y old H (f a) D:=by
 cases x with
 | ok a=>exact⟨a,rfl,h⟩
 | exc e=>exact h.elim
 | bad=>exact h.elim
end
section
variable {P:Pg} {n:Nat} {Y old:Addr->Prop}
theorem yY{Γ:Ct}{is:List Nat}{tg:Expr}(h:kN Γ (.t is) tg=true):∃es k p,tg=.Tuple es k p:=by
 cases tg with
 | Tuple es k p=>exact⟨es,k,p,rfl⟩
 | _=>cases h
theorem uV{Γ:Ct}{i:Nat}{tg:Expr}(h:kN Γ (.n i) tg=true):∃x p,tg=.Name x p/\aU Γ i x=true:=by
 cases tg with
 | Name x p=>exact⟨x,p,rfl,h⟩
 | _=>cases h
theorem uW{c:E}(hc:isC c=true):∃k caps t it cond elt,c=.comp k caps t it cond elt:=by
 cases c <;> first|exact⟨_,_,_,_,_,_,rfl⟩|cases hc
theorem m1{Γ:Ct}{i:Nat}{m:Str}{c:Expr}{f:Expr->Bool}(h:(match oG Γ i m c with|some [a]=>f a|_=>false)=true):∃a,oG Γ i m c=some [a]/\f a=true:=by
 split at h
 . rename_i a q;exact⟨a,q,h⟩
 . cases h
theorem m0{Γ:Ct}{i:Nat}{m:Str}{c:Expr}(h:(match oG Γ i m c with|some []=>true|_=>false)=true):oG Γ i m c=some []:=by
 split at h
 . rename_i q;exact q
 . cases h
abbrev QS(P:Pg)(n:Nat)(Y old:Addr->Prop)(c:S):Prop:=∀{X:Cx} {Γ:Ct},Mc X P Γ n->∀{st:Stmt},eJ Γ c st=true->∀(RT:Addr->Prop) (σ:Sg),PS X st (wS X RT Y old σ (ex P (call P n) σ c))
abbrev QSs(P:Pg)(n:Nat)(Y old:Addr->Prop)(c:Ss):Prop:=∀{X:Cx} {Γ:Ct},Mc X P Γ n->∀{st:List Stmt},chkSs Γ c st=true->∀(RT:Addr->Prop) (σ:Sg),PSs X st (wS X RT Y old σ (exs P (call P n) σ c))
theorem aGH{t:T}{e:E}:QS P n Y old (.set t e):=λ{X Γ} M {st} h RT σ=>by
 unfold eJ at h
 obtain⟨⟨tg,v⟩,⟨p,rfl⟩,g⟩:=aD h
 clear h
 obtain⟨h1,h2,h3,h4⟩:=aBo g
 clear g
 have h5:gR v=isC e:=eq_of_beq h4
 clear h4
 cases t with
 | n i=>
  obtain⟨x,p,e1,hx⟩:=uV h1
  have e1:tg=.Name x p:=e1
  subst e1
  cases hc:gR v with
  | false=>exact aEa M hx (sE e M h2 RT Y old σ) hc
  | true=>
   obtain⟨k,caps,t,it,cond,elt,rfl⟩:=uW (h5.symm.trans hc)
   obtain⟨el,tg,iter,ifs,scope,cpos,e2,O,g1,g2,g3,g4,g5⟩:=sK h2
   have e2:v=.ListComp el [⟨tg,iter,ifs,0⟩] scope cpos:=e2
   subst e2
   refine uU M hx (O.scope M) O.ndc O.tk O.cm (sI it M g3 RT Y old σ) (λC s₀ H₀ ex=>?_) (gU (fO g3))
   have M':=O.mc M C s₀ H₀ ex
   exact⟨aBk M' g2,λRT Y old σ1=>sJ (sTs cond M' g1 g4 RT Y old σ1),λpl E W own rs RT Y old σ1=>yQ rs (sE elt (M'.inTry own) g5 RT Y old σ1)⟩
 | t is=>
  obtain⟨es,k,p,e1⟩:=yY h1
  have e1:tg=.Tuple es k p:=e1
  subst e1
  refine aEb M h1 (sE e M h2 RT Y old σ) ?_
  have:(false||!qM v)=true:=h3
  simpa using this
theorem aGI{i j:Nat}:QS P n Y old (.mov i j):=λ{X Γ} M {st} h RT σ=>by
 unfold eJ at h
 obtain⟨⟨tg,v⟩,⟨p,rfl⟩,g⟩:=aD h
 clear h
 obtain⟨x,⟨p1,e1⟩,g⟩:=aD g
 obtain⟨y,⟨p2,e2⟩,g⟩:=aD g
 have e1:tg=.Name x p1:=e1
 have e2:v=.Name y p2:=e2
 subst e1 e2
 obtain⟨h1,h2⟩:=cG g
 exact aGE M h1 h2
theorem aGJ{i:Nat}{e:E}:QS P n Y old (.app i e):=λ{X Γ} M {st} h RT σ=>by
 unfold eJ at h
 obtain⟨c,⟨p,rfl⟩,g⟩:=aD h
 obtain⟨a,h1,h2⟩:=m1 (f:=λa=>aK Γ e a) g
 exact aGD M h1 (sE e M h2 RT Y old σ) (aI h2)
theorem aGK{e:E}:QS P n Y old (.ret e):=λ{X Γ} M {st} h RT σ=>by
 unfold eJ at h
 obtain⟨r,⟨p,rfl⟩,g⟩:=aD h
 clear h
 obtain⟨v,e1,g⟩:=xU g
 subst e1
 exact aGC (sE e M g RT Y old σ)
theorem aEf{i:Nat}:QS P n Y old (.retv i):=λ{X Γ} M {st} h RT σ=>by
 unfold eJ at h
 obtain⟨r,⟨p,rfl⟩,g⟩:=aD h
 clear h
 obtain⟨v,e1,g⟩:=xU g
 subst e1
 obtain⟨x,⟨p1,e2⟩,g⟩:=aD g
 have e2:v=.Name x p1:=e2
 subst e2
 exact aDZ M g
theorem aEg:QS P n Y old .retN:=λ{X Γ} M {st} h RT σ=>by
 unfold eJ at h
 obtain⟨r,⟨p,rfl⟩,g⟩:=aD h
 cases r with
 | none=>exact aDY
 | some _=>cases g
theorem aGL{c:E}{a b:Ss}(ha:QSs P n Y old a)(hb:QSs P n Y old b):QS P n Y old (.iff c a b):=λ{X Γ} M {st} h RT σ=>by
 unfold eJ at h
 obtain⟨⟨t,x,y⟩,⟨p,rfl⟩,g⟩:=aD h
 obtain⟨h1,h2,h3⟩:=dZ g
 exact aIw (sT c M h1 RT Y old σ) (ha M h2) (hb M h3)
theorem aGM{t:T}{it:Hp.It}{b:Ss}(hb:QSs P n Y old b):QS P n Y old (.for t it b):=λ{X Γ} M {st} h RT σ=>by
 unfold eJ at h
 obtain⟨⟨tg,iter,body⟩,⟨p,rfl⟩,g⟩:=aD h
 obtain⟨h1,h2,h3⟩:=dZ g
 exact aGF M h1 (sI it M h2 RT Y old σ) (hb M h3) (gU (fO h2))
theorem aGN:QS P n Y old .brk:=λ{X Γ} M {st} h RT σ=>by
 unfold eJ at h
 obtain⟨_,⟨p,rfl⟩,_⟩:=aD h
 exact aGy
theorem aGO:QS P n Y old .cnt:=λ{X Γ} M {st} h RT σ=>by
 unfold eJ at h
 obtain⟨_,⟨p,rfl⟩,_⟩:=aD h
 exact aGz
theorem aEh:QS P n Y old .pass:=λ{X Γ} M {st} h RT σ=>by
 unfold eJ at h
 obtain⟨_,⟨p,rfl⟩,_⟩:=aD h
 exact aDX
theorem aIx{e:E}:QS P n Y old (.ex e):=λ{X Γ} M {st} h RT σ=>by
 unfold eJ at h
 obtain⟨v,⟨p,rfl⟩,g⟩:=aD h
 obtain⟨h1,h2⟩:=cG g
 exact aIv (sE e M h1 RT Y old σ) (by simpa using h2)
theorem aGP{c:Str}{k:Bool}{e:E}:QS P n Y old (.rse c k (.cons e .nil)):=λ{X Γ} M {st} h RT σ=>by
 unfold eJ at h
 obtain⟨⟨x,a⟩,⟨np,cp,p,rfl⟩,g⟩:=aD h
 simp only[bA] at g
 obtain⟨⟨⟨⟨g1,g2⟩,g3⟩,g4⟩,g5⟩:=g
 have e1:x=c:=eq_of_beq g1
 subst e1
 exact aGB M g2 g3 (by simpa using g4) (sE e M g5 RT Y old σ) (aI g5)
theorem aGQ{b:Ss}{c:Str}{i j:Nat}(hb:QSs P n Y old b):QS P n Y old (.tryAs b c i j):=λ{X Γ} M {st} h RT σ=>by
 unfold eJ at h
 obtain⟨⟨body,x,nm,y⟩,⟨np,yp,np2,ap,hp,p,rfl⟩,g⟩:=aD h
 simp only[bA] at g
 obtain⟨⟨⟨⟨⟨⟨⟨⟨⟨⟨⟨g1,g2⟩,g3⟩,g4⟩,g5⟩,g6⟩,g7⟩,g8⟩,g9⟩,g10⟩,g11⟩,g12⟩:=g
 have e1:x=c:=eq_of_beq g1
 subst e1
 exact aGG M g2 g3 (by simpa using g4) (by simpa using g5) g6 g7 (eq_of_beq g8) (by simpa using g10) g11 λM' RT σ=>hb M' g12 RT σ
theorem aEi:QS P n Y old .off:=λ{X Γ} M {st} h RT σ=>aGA
theorem cR{c:S}(z:∀Γ st,eJ Γ c st=false):QS P n Y old c:=by
 intro X Γ M st h RT σ
 rw[z] at h
 cases h
theorem aGR:QSs P n Y old .nil:=λ{X Γ} M {st} h RT σ=>by
 cases st with
 | nil=>exact aGx
 | cons _ _=>exact nf h
theorem aEj{c:S}{cs:Ss}(hc:QS P n Y old c)(hs:QSs P n Y old cs):QSs P n Y old (.cons c cs):=λ{X Γ} M {st} h RT σ=>by
 cases st with
 | nil=>exact nf h
 | cons x xs=>
  obtain⟨h1,h2⟩:=cG h
  exact aDW (hc M h1) (hs M h2)
mutual
theorem sS:(c:S)->QS P n Y old c
 | .set _ _=>aGH
 | .mov _ _=>aGI
 | .setIx _ _ _=>cR λ_ _=>rfl
 | .dnew _=>cR λ_ _=>rfl
 | .dput _ _=>cR λ_ _=>rfl
 | .dfrom _ _=>cR λ_ _=>rfl
 | .two _ _ _=>cR λ_ _=>rfl
 | .appP _ _ _=>cR λ_ _=>rfl
 | .clrP _ _=>cR λ_ _=>rfl
 | .app _ _=>aGJ
 | .ext _ _=>cR λ_ _=>rfl
 | .pop _ _ _=>cR λ_ _=>rfl
 | .clr _=>cR λ_ _=>rfl
 | .ins _ _ _=>cR λ_ _=>rfl
 | .rev _=>cR λ_ _=>rfl
 | .appCall _ _ _=>cR λ_ _=>rfl
 | .ret _=>aGK
 | .retv _=>aEf
 | .retN=>aEg
 | .iff _ a b=>aGL (sSs a) (sSs b)
 | .for _ _ b=>aGM (sSs b)
 | .whl _ _=>cR λ_ _=>rfl
 | .brk=>aGN
 | .cnt=>aGO
 | .pass=>aEh
 | .ex _=>aIx
 | .rse _ _ (.cons _ .nil)=>aGP
 | .rse _ _ .nil=>cR λ_ _=>rfl
 | .rse _ _ (.cons _ (.cons _ _))=>cR λ_ _=>rfl
 | .tryAs b _ _ _=>aGQ (sSs b)
 | .off=>aEi
theorem sSs:(c:Ss)->QSs P n Y old c
 | .nil=>aGR
 | .cons c cs=>aEj (sS c) (sSs cs)
end
end
structure Tx where
 x:Str
 qual:Str
 st:Stmt
 N:List Str
def lK(Γ:Ct)(F:Fn)(t:Tx):Bool:=
 t.N.length==F.ns&&decide (F.np<=F.ns)&&decide t.N.Nodup&&(aZ t.st).kind==.function&&!(aZ t.st).isCoroutine&&!(aZ t.st).isGenerator &&
 ((t.N.take F.np).all λx=>(aZ t.st).names.lookup x==some .local||(aZ t.st).names.lookup x==some .cell)&&((aZ t.st).names.all λp=>p.2 != .free) &&
 chkSs { Γ with N:=t.N,sc:=(aZ t.st).names,fn:=true } F.body (fW t.st)
def eQ(Γ:Ct):List Fn->List Tx->Bool
 | [],[]=>true
 | F::Fs,t::ts=>lK Γ F t&&eQ Γ Fs ts
 | _,_=>false
theorem eA{Γ:Ct}:∀{Fs:List Fn} {ts:List Tx},eQ Γ Fs ts=true->∀{f:Nat} {t:Tx},ts[f]? = some t->∃F,Fs[f]? = some F/\lK Γ F t=true
 | [],[],_,_,_,e=>by simp at e
 | [],_::_,h,_,_,_=>by cases h
 | _::_,[],h,_,_,_=>by cases h
 | F::Fs,t::ts,h,0,t',e=>by
  obtain⟨h1,h2⟩:=cG (show(lK Γ F t&&eQ Γ Fs ts)=true from h)
  have e':t=t':=by simpa using e
  subst e'
  exact⟨F,rfl,h1⟩
 | F::Fs,t::ts,h,f+1,t',e=>by
  obtain⟨h1,h2⟩:=cG (show(lK Γ F t&&eQ Γ Fs ts)=true from h)
  obtain⟨F',q1,q2⟩:=eA h2 (f:=f) (t:=t') (by simpa using e)
  exact⟨F',by simpa using q1,q2⟩
section
variable {prog:Program} {w:World} {K:Fg} {mg:Str->Option Value} {base:Heap} {P:Pg} {Γ:Ct} {txs:List Tx}
structure Top (prog:Program) (w:World) (K:Fg) (mg:Str->Option Value) (P:Pg) (Γ:Ct) (txs:List Tx):Prop where
 fn:∀(f:Nat) (t:Tx),txs[f]? = some t->∃fa fd,mg t.x=some (.ref fa)/\Fun K t.x t.qual t.st fa fd/\∀F,P.fns[f]? = some F->iK K fd (t.N.take F.np) []
 fns:∀(f:Nat) (x:Str),Γ.fns[f]? = some x->∃t,txs[f]? = some t/\t.x=x
 blt:∀x∈bltNames,mg x=none
 cns:∀(x:Str) (d:D),Γ.cns.lookup x=some d->∃u v,mg x=some u/\aR v u/\∀H ex,Rep K H ex d v
 tab:∀(i:Nat) (x:Str),Γ.tbs[i]? = some x->∃a t,mg x=some (.ref a)/\P.tabs[i]? = some t/\lF prog w K a t
 exc:∀(c:Str) (ab:List Cl),P.above.lookup c=some ab->∃C,lH K mg Γ.cls c ab C
 rsd:∀c∈Γ.rsd,∃ab,P.above.lookup c=some ab
 cls:∀x∈Γ.cls,∃C2,mg x=some (.ref C2)
 chk:eQ Γ P.fns txs=true
theorem sP{k f:Nat}{F:Fn}(hF:P.fns[f]? = some F){vs:List V}{H:Hp}{Q:VK}{E:XK}(h:spF K P (k+1) f vs H Q E):vs.length=F.np:=by
 obtain⟨ds,Y,_,r,hr⟩:=h
 have hr:RE (xE K H E) (jN P (call P k) f ds) _:=hr
 unfold jN at hr
 rw[hF] at hr
 have hr:RE (xE K H E) (if ds.length=F.np then _ else R.bad) _:=hr
 split at hr
 . rename_i hl;rw[<-r.length];exact hl
 . exact hr.elim
theorem yZ{ds:List D}{vs:List V}{H:Hp}{Y:Addr->Prop}{m:Nat}(hY:∀a,Y a->H a≠none)(t:Tk K H)(r:Reps K H Y ds vs):Sx K (λ_=>False) Y (λb=>H b≠none) ((ds.map λd=>Sl.sh true d)++List.replicate m Sl.dead) (vs.map some++List.replicate m none) H:=by
 have len:=r.length
 have get:∀{i:Nat} {s:Sl},((ds.map λd=>Sl.sh true d)++List.replicate m Sl.dead)[i]? = some s->s=.dead\/∃d,s=.sh true d/\ds[i]? = some d:=λ{i s} e=>by
  by_cases hi:i<ds.length
  . rw[List.getElem?_append_left (by simpa using hi),List.getElem?_map,List.getElem?_eq_getElem hi] at e
    cases e
    exact .inr ⟨ds[i],rfl,List.getElem?_eq_getElem hi⟩
  . rw[List.getElem?_append_right (by simpa using hi),List.getElem?_replicate] at e
    split at e
    . cases e;exact .inl rfl
    . cases e
 exact {
  sh:=λi pa d e=>by
   rcases get e with z|⟨d',z,q⟩
   . cases z
   . cases z
     obtain⟨v,hv,rv⟩:=r.get q
     have hi:i<vs.length:=(List.getElem?_eq_some_iff.mp hv).1
     refine⟨v,?_,rv.weak λa z=>?_⟩
     . rw[List.getElem?_append_left (by simpa using hi),List.getElem?_map,hv];rfl
     . rcases z with z|z|⟨z,_⟩
       . exact z.elim
       . exact z
       . cases z
  own:=λi pa ds' e=>by
   rcases get e with z|⟨d',z,q⟩
   . cases z
   . cases z
  trk:=λa z=>by
   rcases z with z|z|z
   . exact z.elim
   . exact hY a z
   . exact z
  yo:=hY
  tk:=t
  rt:=λ_ z=>z.elim
  inj:=λi j pa pa' ds1 ds2 a e=>by
   rcases get e with z|⟨d',z,q⟩
   . cases z
   . cases z
  len:=by rw[lA,lA,lM,lM,List.length_replicate,List.length_replicate,len]
  dx:={
   at':=λi ds' e=>by
    rcases get e with z|⟨d',z,q⟩
    . cases z
    . cases z
   inj:=λi j ds1 ds2 a e=>by
    rcases get e with z|⟨d',z,q⟩
    . cases z
    . cases z
   at2:=λi ds es e=>by
    rcases get e with z|⟨d',z,q⟩
    . cases z
    . cases z
   one:=λi j ds es ds' es' e=>by
    rcases get e with z|⟨d',z,q⟩
    . cases z
    . cases z } }
theorem sQ{k f:Nat}{t:Tx}{F:Fn}{fa:Addr}{fd:FuncData}(hmd:∀(f:Nat) (x:Str),Γ.fns[f]? = some x->∃fa fd ps,mg x=some (.ref fa)/\PySem.W.keepIn K (.ref fa)=true/\iK K fd ps []/\mI prog w K mg base (CX1 prog w) k fa fd ps (spF K P k f))
 (hblt:∀x∈bltNames,mg x=none) (hcns:∀(x:Str) (d:D),Γ.cns.lookup x=some d->∃u v,mg x=some u/\aR v u/\∀H ex,Rep K H ex d v) (htab:∀(i:Nat) (x:Str),Γ.tbs[i]? = some x->∃a t,mg x=some (.ref a)/\P.tabs[i]? = some t/\lF prog w K a t) (hexc:∀(c:Str) (ab:List Cl),P.above.lookup c=some ab->∃C,lH K mg Γ.cls c ab C) (hrsd:∀c∈Γ.rsd,∃ab,P.above.lookup c=some ab) (hcls:∀x∈Γ.cls,∃C2,mg x=some (.ref C2)) (h2:Fun K t.x t.qual t.st fa fd) (hF:P.fns[f]? = some F) (hc:lK Γ F t=true) :
 mI prog w K mg base (CX1 prog w) (k+1) fa fd (t.N.take F.np) (spF K P (k+1) f):=by
 unfold lK at hc
 simp only[bA,beq_iff_eq,decide_eq_true_eq,Bool.not_eq_true',List.all_eq_true,Bool.or_eq_true,bne_iff_ne,ne_eq] at hc
 obtain⟨⟨⟨⟨⟨⟨⟨⟨c1,c2⟩,c3⟩,c4⟩,c5⟩,c6⟩,c7⟩,c8⟩,c9⟩:=hc
 have lt:(t.N.take F.np).length=F.np:=by rw[List.length_take];omega
 have sc:mJ t.N (t.N.take F.np) (aZ t.st):=⟨c4,c5,c6,c3,by rw[lt],c7,c8⟩
 obtain⟨oc,od,kV,doc,pm,an,cdv,ct,osl,rfl,lk,hcd⟩:=h2.ex
 refine aFh lk hcd sc (λvs H Q E h=>by rw[lt];exact sP hF h) λA outer s H vs Q E hr h=>?_
 have hlen:=sP hF h
 obtain⟨ds,Y,hY,r,hq⟩:=h
 have M:Mc (mK (CX1 prog w) prog w K mg base t.N t.qual (aZ t.st) fa cdv A outer s H E) P { Γ with N:=t.N,sc:=(aZ t.st).names,fn:=true } k:={
  md:=⟨hmd,hblt,hcns,htab,hexc,hrsd,hcls⟩
  N:=rfl
  nd:=c3
  sc:=rfl
  calm:=rfl
  room:=hr
  own:=PassesOwn.leaving
  st:=λ_ _=>.inl rfl
  fk:=c4
  stk:=λ_=>rfl }
 have hq:RE (xE K H E) (jN P (call P k) f ds) _:=hq
 unfold jN at hq
 rw[hF] at hq
 have hdl:ds.length=F.np:=by rw[r.length];exact hlen
 have hq:RE (xE K H E) (if ds.length=F.np then (match exs P (call P k) ((ds.map λd=>Sl.sh true d)++List.replicate (F.ns-F.np) Sl.dead) F.body with
  | .ret v=>R.ok (v.d,v.fr,v.pa)
  | .next _=>R.ok (.non,false,false)
  | .exc x _=>R.exc x
  | _=>R.bad) else R.bad) λr=>∀u H',Tk K H'->aG H H'->Rr K H H' Y r u->Q u H':=hq
 rw[if_pos hdl] at hq
 refine⟨_,jB (t':=λD σV H'=>Tk K H'->wS _ (λ_=>False) Y (λb=>H b≠none) ((ds.map λd=>Sl.sh true d)++List.replicate (F.ns-F.np) Sl.dead) (exs P (call P k) ((ds.map λd=>Sl.sh true d)++List.replicate (F.ns-F.np) Sl.dead) F.body) D σV H') (sSs (Y:=Y) (old:=λb=>H b≠none) F.body M c9 (λ_=>False) ((ds.map λd=>Sl.sh true d)++List.replicate (F.ns-F.np) Sl.dead)) (λD σV H' tk hw=>⟨(hw tk).1,OE.tkE (hw tk).2⟩),λtk=>⟨?_,?_⟩⟩
 . have e:L2.start t.N vs=vs.map some++List.replicate (F.ns-F.np) none:=by unfold L2.start;rw[hlen,c1]
   rw[e]
   exact yZ hY tk r
 . have same:∀{H':Hp},Kp (λ_=>False) H H'->aG H H':=λk b o e=>k b o e id
   show OE K (XW _) (λ_=>False) Y (λb=>H b≠none) H (exs P (call P k) ((ds.map λd=>Sl.sh true d)++List.replicate (F.ns-F.np) Sl.dead) F.body) _
   cases q:exs P (call P k) ((ds.map λd=>Sl.sh true d)++List.replicate (F.ns-F.np) Sl.dead) F.body with
   | next σ'=>
    rw[q] at hq
    exact λRT' σV' H' kp sub S'=>hq .non H' S'.tk (same kp) (show(if false=true then _ else _) from aFp rfl)
   | ret v=>
    rw[q] at hq
    refine λu H' kp tk' rt=>hq u H' tk' (same kp) ?_
    unfold Rr
    unfold Rtv at rt
    cases hfr:v.fr with
    | true=>
     rw[hfr,if_pos rfl] at rt
     obtain⟨a,xs,ds',e1,e2,e3,e4,rr⟩:=rt
     exact aHW ⟨a,xs,ds',e1,e2,Classical.not_not.mp e3,e4,rr⟩
    | false=>
     rw[hfr,if_neg bN] at rt
     exact aFp rt
   | brk σ'=>rw[q] at hq;exact hq.elim
   | cnt σ'=>rw[q] at hq;exact hq.elim
   | exc e σ'=>
    rw[q] at hq
    have hq:xE K H E e:=hq
    intro RT' σV' H' kp sub S'
    cases e with
    | err c fs=>exact λcls hn pins s1 a I fl=>qO pins σV' H' s1 a cls I fl (hq cls H' hn S'.tk (same kp))
    | _=>exact hq.elim
   | bad=>rw[q] at hq;exact hq.elim
theorem zA(T:Top prog w K mg P Γ txs):∀(k f:Nat) (x:Str),Γ.fns[f]? = some x->∃fa fd ps,mg x=some (.ref fa)/\PySem.W.keepIn K (.ref fa)=true/\iK K fd ps []/\mI prog w K mg base (CX1 prog w) k fa fd ps (spF K P k f)
 | 0,f,x,hf=>by
  obtain⟨t,ht,rfl⟩:=T.fns f x hf
  obtain⟨fa,fd,h1,h2,h3⟩:=T.fn f t ht
  obtain⟨F,hF,_⟩:=eA T.chk ht
  have no:∀vs H Q E,¬ spF K P 0 f vs H Q E:=λvs H Q E h=>by
   obtain⟨ds,Y,_,r,hr⟩:=h
   exact hr
  exact⟨fa,fd,_,h1,h2.kp,h3 F hF,λvs H Q E h=>absurd h (no vs H Q E),λA outer s H args us vs Q E _ _ _ _ h=>absurd h (no vs H Q E)⟩
 | k+1,f,x,hf=>by
  obtain⟨t,ht,rfl⟩:=T.fns f x hf
  obtain⟨fa,fd,h1,h2,h3⟩:=T.fn f t ht
  obtain⟨F,hF,hc⟩:=eA T.chk ht
  exact⟨fa,fd,_,h1,h2.kp,h3 F hF,sQ (λf x hf=>zA T k f x hf) T.blt T.cns T.tab T.exc T.rsd T.cls h2 hF hc⟩
theorem aEk(T:Top prog w K mg P Γ txs){f:Nat}{t:Tx}{F:Fn}{fa:Addr}{fd:FuncData}(ht:txs[f]? = some t)(hF:P.fns[f]? = some F)(h2:Fun K t.x t.qual t.st fa fd)(k:Nat):mI prog w K mg base (CX1 prog w) (k+1) fa fd (t.N.take F.np) (spF K P (k+1) f):=by
 obtain⟨F',hF',hc⟩:=eA T.chk ht
 rw[hF] at hF'
 cases hF'
 exact sQ (zA T k) T.blt T.cns T.tab T.exc T.rsd T.cls h2 hF hc
theorem aEl{k f:Nat}{K:Fg}{H:Hp}{a:Addr}{ns:List Int}(hO:aAJ H)(hS:SqL K H a (ns.map V.int))(h:∃fr pa,call P k f [.lst (ns.map D.int)]=.ok (.bl true,fr,pa)) :
 spF K P k f [.ref a] H (λv _=>v=.bl true) λ_ _ _=>False:=by
 obtain⟨fr,pa,e⟩:=h
 have ri:∀(ns:List Int),Reps K H (λ_=>False) (ns.map D.int) (ns.map V.int):=by
  intro ns
  induction ns with
  | nil=>exact .nil
  | cons i ns ih=>exact .cons rfl ih
 refine⟨[.lst (ns.map D.int)],λ_=>False,λ_ z=>z.elim,.cons ⟨a,_,rfl,hS,id,ri ns⟩ .nil,?_⟩
 rw[e]
 intro u H' _ _ rr
 unfold Rr at rr
 cases fr with
 | true=>
  rw[if_pos rfl] at rr
  obtain⟨_,_,_,_,e2,_⟩:=rr
  cases e2
 | false=>
  rw[if_neg bN] at rr
  exact rr
theorem uX{H:Hp}{s:Shared}{e:Value}{s':Shared}{out:List Env}(h:CX1 prog w out H s (λ_ _ _=>False) e s'):False:=by
 obtain⟨_,_,_,_,_,_,_,_,_,z⟩:=h
 exact z
def qZ(K:Fg)(C:Addr)(cs:List (Addr×Bool))(ve:Bool):Bool:=
 PySem.W.excIn K C bmV "ValueError.__new__" && (PySem.W.clsIn K C).isSome&&(PySem.W.subIn K (.ref C) (.type "BaseException")==some true)&&(PySem.W.findIn K (.ref C) "__getattribute__" == some (some (.builtin "BaseException.__getattribute__"))) &&
 (PySem.W.findIn K (.ref C) "__getattr__" == some none)&&(PySem.W.findIn K (.ref C) "__class__" == some (some (.builtin "object.__class__")))&&(PySem.W.mroIn K C (.type "object")==some true)&&(PySem.W.kitOne K (.ref C) (.type "ValueError")==some ve) &&
 cs.all λp=>(PySem.W.kitOne K (.ref C) (.ref p.1)==some p.2)&&(!p.2||(lG K C p.1&&PySem.W.excIn K p.1 bmV "ValueError.__new__"))
def pD(mg:Str->Option Value):List Str->List Addr->Prop
 | [],[]=>True
 | x::xs,a::as=>mg x=some (.ref a)/\pD mg xs as
 | _,_=>False
theorem iD{f:Str->Bool}:∀{xs:List Str} {as:List Addr},pD mg xs as->∀x∈xs,∃a,mg x=some (.ref a)/\(a,f x)∈as.zip (xs.map f)
 | [],_,_,x,hx=>by cases hx
 | y::ys,[],h,_,_=>h.elim
 | y::ys,a::as,h,x,hx=>by
  rcases List.mem_cons.mp hx with rfl|hx
  . exact⟨a,h.1,List.mem_cons_self⟩
  . obtain⟨b,h1,h2⟩:=iD (f:=f) h.2 x hx
    exact⟨b,h1,List.mem_cons_of_mem _ h2⟩
theorem uY{xs:List Str}{as:List Addr}(h:pD mg xs as):∀x∈xs,∃C2,mg x=some (.ref C2):=λx hx=>by
 obtain⟨a,q,_⟩:=iD (f:=λ_=>true) h x hx
 exact⟨a,q⟩
theorem zB{cls:List Str}{c:Str}{ab:List Cl}{C:Addr}{as:List Addr}(hm:mg c=some (.ref C))(hn:PySem.W.nsIn K mainGlobals c=some (some (.ref C)))
 (h:qZ K C (as.zip (cls.map λx=>ab.contains (.own x))) (ab.contains .tValueError)=true) (ha:pD mg cls as):lH K mg cls c ab C:=by
 unfold qZ at h
 simp only[bA,beq_iff_eq,List.all_eq_true] at h
 obtain⟨⟨⟨⟨⟨⟨⟨⟨h1,h2⟩,h3⟩,h4⟩,h5⟩,h6⟩,h7⟩,h8⟩,h9⟩:=h
 refine⟨hm,hn,h1,⟨h2,h3,h4,h5,h6,h7⟩,h8,λx hx=>?_⟩
 obtain⟨a,q1,q2⟩:=iD (f:=λx=>ab.contains (.own x)) ha x hx
 obtain⟨g1,g2⟩:=h9 _ q2
 refine⟨a,q1,g1,λz=>?_⟩
 have g2:(!ab.contains (.own x)||(lG K C a&&PySem.W.excIn K a bmV "ValueError.__new__"))=true:=g2
 rw[z] at g2
 simpa using g2
end
end Hp
end
noncomputable section
namespace Hp
open PySem PySem.Spec PyProof.Rows L2
def ER(w:World)(K:Fg)(e:DictEntry)(p:Str×D):Prop:=e.hash=hashStr w p.1/\(∃tk,e.key=.str p.1 tk)/\∃v,aR v e.val/\∀(H:Hp) (ex:Addr->Prop),Rep K H ex p.2 v
theorem lL{K:Fg}{H:Hp}{ex:Addr->Prop}:∀xs:List Str,Reps K H ex (xs.map D.str) (xs.map V.str)
 | []=>rfl
 | x::xs=>⟨.str x,xs.map V.str,rfl,rfl,lL xs⟩
theorem zC{K:Fg}{b:Addr}{od:Option Addr}{its:Array Value}{n:Nat}{sl:Array (Option Value)}(h:K.lookup b=some ⟨.type "tuple",od,.seq its n,sl⟩)(xs:List Str)(hz:its.size<=1000)(hv:aJ (xs.map V.str) its.toList) :
 ∀(H:Hp) (ex:Addr->Prop),Rep K H ex (.tup (xs.map D.str)) (.ref b):=λH ex=>
 ⟨b,xs.map V.str,rfl,.inr ⟨_,its,n,h,rfl,rfl,Nat.le_trans hz (by rw[sizeLine_eq];decide),hv⟩,lL xs⟩
theorem zD{prog:Program}{w:World}{K:Fg}:∀{es:List DictEntry} {t:List (Str×D)},Paired (ER w K) es t->∃vs:List (Key×Value),(∀e∈es,∃k:Key,(cA prog w).is k e.key=true/\e.hash=(cA prog w).hash k) /\
 Pairs (cA prog w) es vs/\vs.map (·.1)=t.map (λp=>(Sum.inr p.1:Key)) /\
 ∀k:Str,(t.lookup k=none/\valueAt vs (Sum.inr k:Key)=none)\/∃d u v,t.lookup k=some d/\valueAt vs (Sum.inr k:Key)=some u/\aR v u/\∀(H:Hp) (ex:Addr->Prop),Rep K H ex d v
 | _,_,.nil=>⟨[],λe he=>absurd he (by simp),.nil,rfl,λk=>.inl ⟨rfl,rfl⟩⟩
 | e::es,p::t,.cons ⟨h1,⟨tk,h2⟩,v,h3,h4⟩ r=>by
  obtain⟨vs,g1,g2,g3,g4⟩:=zD (prog:=prog) r
  have hk:iJ (Sum.inr p.1:Key) e.key=true:=by rw[h2];exact gL p.1 tk
  refine⟨(Sum.inr p.1,e.val)::vs,λe' he=>?_,.cons hk rfl g2,by rw[mC,mC,g3],λk=>?_⟩
  . rcases List.mem_cons.mp he with rfl|he
    . exact⟨Sum.inr p.1,hk,h1⟩
    . exact g1 e' he
  . by_cases hkp:k=p.1
    . subst hkp
      refine .inr ⟨p.2,e.val,v,?_,?_,h3,h4⟩
      . obtain⟨a,b⟩:=p
        simp[List.lookup]
      . simp[valueAt]
    . have n1:(p::t).lookup k=t.lookup k:=by
       obtain⟨a,b⟩:=p
       have:(k==a)=false:=beq_eq_false_iff_ne.mpr hkp
       simp[List.lookup,this]
      have n2:valueAt ((Sum.inr p.1,e.val)::vs) (Sum.inr k:Key)=valueAt vs (Sum.inr k:Key):=by
       unfold valueAt
       have:decide ((Sum.inr p.1:Key)=Sum.inr k)=false:=decide_eq_false λz=>hkp (Sum.inr.inj z).symm
       rw[List.find?_cons]
       simp only[this]
      rw[n1,n2]
      exact g4 k
theorem aEm{prog:Program}{w:World}{K:Fg}{a:Addr}{es:Array DictEntry}{ep:Nat}{t:List (Str×D)}(hs:(a==sysModules)=false)(h:K.lookup a=some ⟨.type "dict",none,.dict es ep,#[]⟩)(hp:Paired (ER w K) es.toList t)(hn:(t.map (·.1)).Nodup):lF prog w K a t:=by
 obtain⟨vs,g1,g2,g3,g4⟩:=zD (prog:=prog) hp
 refine⟨hs,vs,λhh X=>⟨_,es,ep,X a _ h,⟨rfl,rfl,rfl⟩,rfl,λe he=>g1 e (by simpa using he),g2,?_⟩,g4⟩
 rw[g3]
 have e:t.map (λp=>(Sum.inr p.1:Key))=(t.map (·.1)).map Sum.inr:=by rw[List.map_map];rfl
 rw[e]
 unfold List.Nodup at hn ⊢
 rw[List.pairwise_map]
 exact hn.imp λhne z=>hne (Sum.inr.inj z)
end Hp
end
noncomputable section
namespace Hh
open PySem PySem.W PySem.Calls PyProof.Rows
def go(st:SharedT->Thread->Option (SharedT×Thread))(ok:Thread->Bool)(n:Nat):SharedT->Thread->Option SharedT:=
 @Nat.rec (λ_=>SharedT->Thread->Option SharedT) (λ_ _=>none) (λ_ ih s t=>match through t with
  | true=>some s
  | false=>match ok t with
   | false=>none
   | true=>match st s t with
    | some (s',t')=>ih s' t'
    | none=>none) n
theorem jH{tb:String->Option Builtin}{p:Program}{w:World}{n₀:Nat}{ann:Option Value}:∀(n:Nat) (s s':SharedT) (t:Thread),go (stepT (denote tb) p w) (stepOk n₀ ann) n s t=some s'->topRun tb p w n₀ ann n s.abs t=some s'.abs
 | 0,_,_,_,h=>by cases h
 | n+1,s,s',t,h=>by
  have h:(match through t with
   | true=>some s
   | false=>match stepOk n₀ ann t with
    | false=>none
    | true=>match stepT (denote tb) p w s t with
     | some (s',t')=>go (stepT (denote tb) p w) (stepOk n₀ ann) n s' t'
     | none=>none)=some s':=h
  unfold topRun
  cases ht:through t with
  | true=>rw[ht] at h;cases h;rfl
  | false=>
   rw[ht] at h
   cases hk:stepOk n₀ ann t with
   | false=>rw[hk] at h;cases h
   | true=>
    rw[hk] at h
    cases hs:stepT (denote tb) p w s t with
    | none=>rw[hs] at h;cases h
    | some r=>obtain⟨s₂,t₂⟩:=r;rw[hs] at h;rw[stepT_spec hs];exact jH n _ _ _ h
def bt(l:List Obj)(n:Nat):Nat->Nat->BT:=
 @Nat.rec (λ_=>Nat->Nat->BT) (λ_ _=>.nil) (λ_ ih a b=>match l[b]? with
  | some o=>.node o (ih (2*a) (a+b)) (ih (2*a) (2*a+b))
  | none=>.nil) n
end Hh
namespace Hh
open PySem PySem.W PySem.Calls PyProof.Rows
def zE{α:Type}(p q:Program)(loose:List Str)(Xt:Shared->Bool)(Yf:Shared->α)(h0:Heap)(s:Shared):=
 ((staticsOk (importedModules p.main.body) h0 s.heap&&namesBound p s.heap&&gensDone s&&laidKept h0 s.heap),openSeen q loose (importedModules p.main.body) Xt true s,Yf s)
theorem aBs{p q:Program}{loose:List Str}{Xt:Shared->Bool}{α:Type}{Yf:Shared->α}{Ya:World->α}{N m₀:Nat}{ann:Option Value}{T₀:Params->BT}{l₀:Life}(e:opening p=plainProg p.main.scope.names)(hN:Nat.ble 600 N=true)(f:∀s,fenceModules? p s=some s)
 (hb:∀P,absHeap (T₀ P) m₀ l₀=boot_heap P) (hz:∀P:Params,((boot_heap P).isNs mainGlobals,(boot_heap P).objs.size,(boot_heap P).nsMap mainGlobals "__annotations__")=(true,m₀,ann))
 (h:∀(w:World) (os:OsState),(go (stepT (denote treeTable) p w) (stepOk m₀ ann) N ⟨T₀ w.params,m₀,l₀,Array.mk [],boot_drawn,boot_toks,os⟩ (topStub p)).map (λs=>zE p q loose Xt Yf (boot_heap w.params) s.abs)=some (true,openGood q loose,Ya w)):LeftO p q loose Xt Yf Ya N:=λw=>by
 obtain⟨⟨hh,gs,d,k,os⟩,e1,e2⟩:=Option.map_eq_some_iff.mp (boot_open e hN f w)
 simp only[Prod.mk.injEq] at e2
 obtain⟨rfl,rfl,rfl,rfl⟩:=e2
 obtain⟨s,g1,g2⟩:=Option.map_eq_some_iff.mp (h w os)
 have r:=jH N _ _ _ g1
 have r:topRun treeTable p w m₀ ann N ⟨boot_heap w.params,Array.mk [],boot_drawn,boot_toks,os⟩ (topStub p)=some s.abs:=by
  rw[<-hb];exact r
 have z:=hz w.params
 simp only[Prod.mk.injEq] at z
 obtain⟨z1,z2,z3⟩:=z
 unfold zE at g2
 simp only[Prod.mk.injEq] at g2
 obtain⟨l1,l2,l3⟩:=g2
 have t:topFrom treeTable p w N ⟨boot_heap w.params,Array.mk [],boot_drawn,boot_toks,os⟩=some s.abs:=by
  unfold topFrom
  dsimp only
  rw[z1,z2,z3,r]
  show(match staticsOk (importedModules p.main.body) (boot_heap w.params) s.abs.heap&&namesBound p s.abs.heap&&gensDone s.abs&&laidKept (boot_heap w.params) s.abs.heap with|true=>_|false=>_)=_
  rw[l1]
 unfold openEnds
 rw[e1]
 show(topFrom treeTable p w N _).map _=_
 rw[t]
 exact congrArg some (Prod.ext l2 l3)
def T0(P:Params):BT:=bt (boot_heap P).objs.toList 5 1 0
theorem aEn:∀P,absHeap (T0 P) 11 {}=boot_heap P:=λP=>by kernel_rfl
theorem aBt:∀P:Params,((boot_heap P).isNs mainGlobals,(boot_heap P).objs.size,(boot_heap P).nsMap mainGlobals "__annotations__")=(true,11,some (.ref 6)):=λP=>by kernel_rfl
abbrev aGS:=@PySem.W.Fast.tw10156331382660048174
abbrev qOk:=@PySem.W.Fast.tw6613529449190102663
abbrev aIy:=@PySem.W.Fast.tw11892475500146522536
abbrev aIz:=@PySem.W.Fast.tw14364793385576792824
abbrev aGT:=@PySem.W.Fast.tw4187177175401517315
abbrev aGU:=@PySem.W.Fast.tw5923862056798008813
def aGV{α:Type}(p q:Program)(loose:List Str)(Yf:Shared->α)(N:Nat)(w:World)(os:OsState):=
 (go (aGS (aIy aIz) p w) (qOk 11 (some (.ref 6))) N ⟨T0 w.params,11,{},Array.mk [],boot_drawn,boot_toks,os⟩ (topStub p)).map λs=>
  ((staticsOk (aGU p.main.body) (boot_heap w.params) s.abs.heap&&namesBound p s.abs.heap&&gensDone s.abs&&laidKept (boot_heap w.params) s.abs.heap),aGT q loose (aGU p.main.body) (λ_=>true) true s.abs,Yf s.abs)
theorem aEo{p q:Program}{loose:List Str}{α:Type}{Yf:Shared->α}{Ya:World->α}{N:Nat}(e:opening p=plainProg p.main.scope.names)(hN:Nat.ble 600 N=true)(f:∀s,fenceModules? p s=some s)
 (h:∀w os,aGV p q loose Yf N w os=some (true,openGood q loose,Ya w)):LeftO p q loose (λ_=>true) Yf Ya N:=by
 refine aBs e hN f aEn aBt λw os=>?_
 unfold zE
 rw[PySem.W.Fast.te10156331382660048174,PySem.W.Fast.te6613529449190102663,PySem.W.Fast.te11892475500146522536,PySem.W.Fast.te14364793385576792824,PySem.W.Fast.te4187177175401517315,PySem.W.Fast.te5923862056798008813]
 exact h w os
end Hh
end
noncomputable section
namespace Hh
open PySem PySem.W PySem.Calls PyProof.Rows L2 Hp
def eR(h:Heap):PySem.W.Frag:=(List.range h.objs.size).filterMap λa=>(h.get? a).map λo=>(a,o)
theorem kA{α:Type}(f:Nat->Option α)(a:Nat):∀n,((List.range n).filterMap λi=>(f i).map λo=>(i,o)).lookup a=if a<n then f a else none
 | 0=>rfl
 | n+1=>by
  rw[List.range_succ,List.filterMap_append,List.lookup_append,kA f a n]
  by_cases h:a<n
  . rw[if_pos h,if_pos (Nat.lt_succ_of_lt h)]
    cases q:f a with
    | some o=>rfl
    | none=>
     have hne:(a==n)=false:=beq_eq_false_iff_ne.mpr (Nat.ne_of_lt h)
     cases q2:f n with
     | none=>simp[q2]
     | some o=>simp[q2,List.lookup,hne]
  . rw[if_neg h]
    by_cases e:a=n
    . subst e
      rw[if_pos (Nat.lt_succ_self _)]
      cases q:f a with
      | none=>simp[q]
      | some o=>simp[q,List.lookup]
    . rw[if_neg (by omega)]
      have hne:(a==n)=false:=beq_eq_false_iff_ne.mpr e
      cases q2:f n with
      | none=>simp[q2]
      | some o=>simp[q2,List.lookup,hne]
theorem bT(h:Heap)(a:Addr):(eR h).lookup a=h.get? a:=by
 unfold eR
 rw[kA]
 by_cases q:a<h.objs.size
 . rw[if_pos q]
 . rw[if_neg q]
   cases e:h.get? a with
   | none=>rfl
   | some o=>exact absurd (Heap.lt_size e) q
theorem sR{h h':Heap}(k:∀b o,h.get? b=some o->h'.get? b=some o):(eR h).In h':=λa o e=>k a o (by rw[<-bT];exact e)
def eS(h:Heap)(x:Str):Option (Option Value):=match h.get? mainGlobals with
 | some ⟨_,_,.dict es _,_⟩=>(match es.toList.find? (λe=>match e.key with|.str y _=>Fast.sEq y x|_=>false) with
  | some e=>some (some e.val)
  | none=>if es.toList.any (·.refKey) then none else some none)
 | _=>none
theorem zF(v:Value)(x:Str):v.isStr x=(match v with|.str y _=>Fast.sEq y x|_=>false):=by
 cases v with
 | str y t=>
  show(y==x)=Fast.sEq y x
  rw[Bool.eq_iff_iff,beq_iff_eq,Fast.sEq_iff]
 | _=>rfl
theorem cK(h:Heap)(x:Str):nsIn (eR h) mainGlobals x=eS h x:=by
 unfold nsIn eS
 rw[bT]
 simp only[zF]
 rfl
def kB(h:Heap)(cd:Value):Option Str:=match cd with
 | .ref c=>(match h.get? c with
  | some ⟨_,_,.fields vs,_⟩=>(match vs.toList with|_::.str n _::_=>some n|_=>none)
  | _=>none)
 | _=>none
theorem uZ{h:Heap}{cd:Value}{q:Str}(e:kB h cd=some q):codeIn (eR h) cd q=true:=by
 unfold kB at e
 unfold codeIn
 split at e
 . rename_i c
   simp only[bT]
   split at e
   . rename_i vs _ ho
     rw[ho]
     split at e
     . rename_i a n t r hv
       cases e
       simp only[hv,beq_self_eq_true]
     . cases e
   . cases e
 . cases e
abbrev Pin:=Str×Str×Arguments×FuncBody×Scope×Addr×List (Str×Addr)×Value×Addr×Option Str
def rA(h:Heap)(x:Str):Option Pin:=match eS h x with
 | some (some (.ref a))=>(match h.get? a with
  | some ⟨_,_,.func fd,_⟩=>some (fd.name,fd.qualname,fd.params,fd.body,fd.scope,fd.globals,fd.closure,fd.defaults,fd.builtins,kB h fd.code)
  | _=>none)
 | _=>none
def bQ(s:Stmt):Str:=match s with
 | .FunctionDef x _ _ _ _ _ _ _ _ _=>x
 | _=>⟨#[]⟩
def zG(st:Stmt):Pin:=(bQ st,bQ st,eV st,.stmts (fW st),aZ st,mainGlobals,[],.none,builtinsNs,some (bQ st))
theorem aBu{h:Heap}{st:Stmt}(e:rA h (bQ st)=some (zG st)):∃fa fd,nsIn (eR h) mainGlobals (bQ st)=some (some (.ref fa))/\Fun (eR h) (bQ st) (bQ st) st fa fd:=by
 unfold rA at e
 split at e
 . rename_i a hn
   split at e
   . rename_i c d fd sl ho
     obtain⟨n,qn,ps,b,sc,g,cl,df,kd,doc,pm,an,cd,ct,bn⟩:=fd
     unfold zG at e
     simp only[Option.some.injEq,Prod.mk.injEq] at e
     obtain⟨rfl,rfl,rfl,rfl,rfl,rfl,rfl,rfl,rfl,hc⟩:=e
     refine⟨a,_,by rw[cK];exact hn,⟨⟨c,d,kd,doc,pm,an,cd,ct,sl,rfl,by rw[bT];exact ho,uZ hc⟩,?_⟩⟩
     unfold keepIn
     simp only[bT,ho]
   . cases e
 . cases e
theorem pE{α:Type}{x:Str}{u:α}:∀{ps:List Str} {us:List α},ps.Nodup->ps.length=us.length->(x,u)∈ps.zip us->(ps.zip us).lookup x=some u
 | [],_,_,_,h=>by simp at h
 | p::ps,[],_,h,_=>by simp at h
 | p::ps,v::us,hn,hl,h=>by
  rw[List.zip_cons_cons] at h ⊢
  obtain⟨h1,h2⟩:=List.nodup_cons.mp hn
  rcases List.mem_cons.mp h with h|h
  . cases h;simp[List.lookup]
  . have hx:x∈ps:=(List.of_mem_zip h).1
    have:(x==p)=false:=beq_eq_false_iff_ne.mpr λz=>h1 (z▸hx)
    simp only[List.lookup,this]
    exact pE h2 (by simpa using hl) h
theorem zH{α:Type}(L:List (Str×α)):∀{ps:List Str} {us:List α},ps.length=us.length->(∀p∈ps.zip us,L.lookup p.1=some p.2)->(ps.filterMap λn=>(L.lookup n).map (n,·))=ps.zip us
 | [],_,_,_=>by simp
 | p::ps,[],h,_=>by simp at h
 | p::ps,v::us,hl,h=>by
  rw[List.zip_cons_cons,List.filterMap_cons,h (p,v) (by simp),zH L (ps:=ps) (us:=us) (by simpa using hl) λq hq=>h q (by rw[List.zip_cons_cons];exact List.mem_cons_of_mem _ hq)]
  rfl
theorem zI{α:Type}(L:List (Str×α)):∀{ps:List Str} {us:List α},ps.length=us.length->(∀p∈ps.zip us,L.lookup p.1=some p.2)->(ps.filter λn=>(L.lookup n).isNone)=[]
 | [],_,_,_=>by simp
 | p::ps,[],h,_=>by simp at h
 | p::ps,v::us,hl,h=>by
  rw[List.filter_cons,h (p,v) (by simp),zI L (ps:=ps) (us:=us) (by simpa using hl) λq hq=>h q (by rw[List.zip_cons_cons];exact List.mem_cons_of_mem _ hq)]
  rfl
def fD(a:Arguments)(ps:List Str):Bool:=match a with
 | ⟨[],as,none,[],[],none,[]⟩=>decide (as.map (·.arg)=ps)&&decide ps.Nodup
 | _=>false
theorem kC{x q:Str}{a:Arguments}{b:List Stmt}{sc:Scope}{kV doc pm:Value}{an:Option Addr}{cdv ct:Value}{ps:List Str}{us:List Value}(h:fD a ps=true)(hl:us.length=ps.length) :
 bindArgs (fnOf x q a b sc .none kV doc pm an cdv ct) ⟨us,[]⟩=pure (ps.zip us):=by
 unfold fD at h
 split at h
 . rename_i as
   obtain⟨h1,h2⟩:=Bool.and_eq_true_iff.mp h
   have h1:=of_decide_eq_true h1
   have h2:=of_decide_eq_true h2
   have z:∀p∈ps.zip us,(ps.zip us).lookup p.1=some p.2:=λp hp=>pE h2 hl.symm hp
   have e1:=zI (ps.zip us) hl.symm z
   have e2:=zH (ps.zip us) hl.symm z
   unfold bindArgs
   have e3:∀s:Value,s=.none->(seqItems? s)=pure none:=λs e=>by subst e;rfl
   simp only[mN,List.nil_append,h1,e3,List.forIn_nil,pure_bind,hl,gt_iff_lt,Nat.lt_irrefl,decide_false,Bool.false_and,Option.getD_none,lN,Nat.zero_sub,List.drop_nil,Nat.sub_zero,List.take_length,e1,List.isEmpty_nil,Bool.not_true,List.drop_length,List.zip_nil_right,List.append_nil,e2,if_false,bF]
 . cases h
def pF(s:Stmt):Bool:=match s with
 | .FunctionDef _ _ _ _ _ _ _ _ _ _=>true
 | _=>false
def zJ:D->Value->Bool
 | .int i,.int j _=>decide (i=j)
 | .str a,.str b _=>Fast.sEq a b
 | .non,.none=>true
 | .bl a,.bool b=>a==b
 | _,_=>false
def rB(h:Heap)(c:Str×D):Bool:=match eS h c.1 with
 | some (some u)=>zJ c.2 u
 | _=>false
def gC:Value->Option Str
 | .str x _=>some x
 | _=>none
abbrev zK:=Int×Option Str×Option (Value×List (Option Str))
def jC(h:Heap)(e:DictEntry):zK:=(e.hash,gC e.key,match e.val with
 | .ref b=>(match h.get? b with
  | some ⟨c,_,.seq its _,_⟩=>some (c,its.toList.map gC)
  | _=>none)
 | _=>none)
def nF(h:Heap)(x:Str):Option (Bool×Value×Option Addr×Array (Option Value)×List zK):=match eS h x with
 | some (some (.ref a))=>(match h.get? a with
  | some ⟨c,d,.dict es _,sl⟩=>some (a==sysModules,c,d,sl,es.toList.map (jC h))
  | _=>none)
 | _=>none
def nG(w:World)(p:Str×List Str):zK:=(hashStr w p.1,some p.1,some (.type "tuple",p.2.map some))
def rD(w:World)(t:List (Str×List Str)):Option (Bool×Value×Option Addr×Array (Option Value)×List zK):=some (false,.type "dict",none,#[],t.map (nG w))
def vA(t:List (Str×List Str)):List (Str×D):=t.map λp=>(p.1,.tup (p.2.map D.str))
theorem sU:∀{us:List Value} {xs:List Str},us.map gC=xs.map some->aJ (xs.map V.str) us
 | [],[],_=>.nil
 | [],_::_,h=>by cases h
 | _::_,[],h=>by cases h
 | u::us,x::xs,h=>by
  rw[mC,mC] at h
  obtain⟨h1,h2⟩:=List.cons.inj h
  refine .cons ?_ (sU h2)
  unfold gC at h1
  split at h1
  . cases h1;exact⟨_,rfl⟩
  . cases h1
theorem aEp{h:Heap}{w:World}{e:DictEntry}{p:Str×List Str}(q:jC h e=nG w p)(hl:p.2.length<=1000):ER w (eR h) e (p.1,.tup (p.2.map D.str)):=by
 unfold jC nG at q
 simp only[Prod.mk.injEq] at q
 obtain⟨q1,q2,q3⟩:=q
 refine⟨q1,?_,?_⟩
 . unfold gC at q2
   split at q2
   . rename_i y tk he
     exact⟨tk,by rw[he];exact congrArg (λz=>Value.str z tk) (Option.some.inj q2)⟩
   . cases q2
 . split at q3
   . rename_i b he
     split at q3
     . rename_i c d its n sl ho
       have q3:=Option.some.inj q3
       simp only[Prod.mk.injEq] at q3
       obtain⟨e1,e2⟩:=q3
       subst e1
       have hz:=congrArg List.length e2
       rw[lM,lM] at hz
       exact⟨.ref b,by rw[he];rfl,zC (by rw[bT];exact ho) p.2 (by rw[<-Array.length_toList,hz];exact hl) (sU e2)⟩
     . cases q3
   . cases q3
theorem lO{h:Heap}{w:World}:∀{es:List DictEntry} {t:List (Str×List Str)},es.map (jC h)=t.map (nG w)->(∀p∈t,p.2.length<=1000)->Paired (ER w (eR h)) es (vA t)
 | [],[],_,_=>.nil
 | [],_::_,q,_=>by cases q
 | _::_,[],q,_=>by cases q
 | e::es,p::t,q,hl=>by
  rw[mC,mC] at q
  obtain⟨h1,h2⟩:=List.cons.inj q
  exact .cons (aEp h1 (hl p (List.mem_cons_self ..))) (lO h2 λp' hp=>hl p' (List.mem_cons_of_mem _ hp))
def sV(t:List (Str×List Str)):Bool:=(t.all λp=>decide (p.2.length<=1000))&&decide (t.map (·.1)).Nodup
theorem zL{prog:Program}{h:Heap}{w:World}{x:Str}{t:List (Str×List Str)}(e:nF h x=rD w t)(ok:sV t=true):∃a,nsIn (eR h) mainGlobals x=some (some (.ref a))/\lF prog w (eR h) a (vA t):=by
 unfold sV at ok
 rw[bA,List.all_eq_true] at ok
 unfold nF rD at e
 split at e
 . rename_i a hn
   split at e
   . rename_i c d es ep sl ho
     have e:=Option.some.inj e
     simp only[Prod.mk.injEq] at e
     obtain⟨e1,rfl,rfl,rfl,e5⟩:=e
     refine⟨a,(cK h x).trans hn,aEm e1 (by rw[bT];exact ho) (lO e5 λp hp=>of_decide_eq_true (ok.1 p hp)) ?_⟩
     unfold vA
     rw[List.map_map]
     exact of_decide_eq_true ok.2
   . cases e
 . cases e
def gD(h:Heap):List Str->Option (List Addr)
 | []=>some []
 | x::xs=>match eS h x,gD h xs with
  | some (some (.ref a)),some as=>some (a::as)
  | _,_=>none
def sW(h:Heap)(above:List (Str×List Cl))(cls:List Str):Bool:=match gD h cls with
 | some as=>above.all λca=>match eS h ca.1 with
  | some (some (.ref C))=>qZ (eR h) C (as.zip (cls.map λx=>ca.2.contains (.own x))) (ca.2.contains .tValueError)
  | _=>false
 | none=>false
structure Sn where
 cns:List (Str×D)
 tbs:List (Str×List (Str×List Str))
 above:List (Str×List Cl)
 cls:List Str
abbrev aCq:=List (Option Pin)×List (Option (Option Value))×Bool×List (Option (Bool×Value×Option Addr×Array (Option Value)×List zK))×Bool
def fE(p:Program)(n:Sn)(h:Heap):aCq:=
 ((p.main.body.filter pF).map (λst=>rA h (bQ st)),bltNames.map (eS h),n.cns.all (rB h),n.tbs.map (λq=>nF h q.1),sW h n.above n.cls)
def iE(p:Program)(n:Sn)(w:World):aCq:=
 ((p.main.body.filter pF).map (λst=>some (zG st)),bltNames.map (λ_=>some none),true,n.tbs.map (λq=>rD w q.2),true)
def pG(p:Program)(i:Nat):Stmt:=p.main.body.getD i (.Pass ⟨0,0,0,0⟩)
def iV(p:Program)(c:Nat×List Str):Tx:=⟨bQ (pG p c.1),bQ (pG p c.1),pG p c.1,c.2⟩
theorem aEq{p:Program}{i:Nat}(h:pF (pG p i)=true):pG p i∈p.main.body:=by
 unfold pG at h ⊢
 rw[List.getD_eq_getElem?_getD] at h ⊢
 cases e:p.main.body[i]? with
 | none=>rw[e] at h;cases h
 | some s=>exact mG e
theorem aBv{h:Heap}{c:Str×D}(e:rB h c=true):∃u v,nsIn (eR h) mainGlobals c.1=some (some u)/\aR v u/\∀H ex,Rep (eR h) H ex c.2 v:=by
 unfold rB at e
 split at e
 . rename_i u hn
   obtain⟨x,d⟩:=c
   have e:zJ d u=true:=e
   unfold zJ at e
   split at e
   . cases of_decide_eq_true e;exact⟨_,.int _,(cK _ _).trans hn,⟨_,rfl⟩,λ_ _=>rfl⟩
   . cases Fast.sEq_iff.mp e;exact⟨_,.str _,(cK _ _).trans hn,⟨_,rfl⟩,λ_ _=>rfl⟩
   . exact⟨_,.non,(cK _ _).trans hn,rfl,λ_ _=>rfl⟩
   . cases eq_of_beq e;exact⟨_,.bl _,(cK _ _).trans hn,rfl,λ_ _=>rfl⟩
   . cases e
 . cases e
theorem sX{h0 h:Heap}{mg:Str->Option Value}(X:(eR h0).In h)(G:h.Ns mainGlobals mg):∀{xs:List Str} {as:List Addr},gD h0 xs=some as->pD mg xs as
 | [],as,e=>by cases e;trivial
 | x::xs,as,e=>by
  unfold gD at e
  split at e
  . rename_i a as' e1 e2
    cases e
    exact⟨mg_of X G ((cK h0 x).trans e1),sX X G e2⟩
  . cases e
theorem aEr{prog p:Program}{w:World}{h0 h:Heap}{mg:Str->Option Value}{P:Pg}{Γ:Ct}{ix:List (Nat×List Str)}{n:Sn}(S:fE p n h0=iE p n w)(k:∀b o,h0.get? b=some o->h.get? b=some o)(G:h.Ns mainGlobals mg)
 (hi:(ix.all λc=>pF (pG p c.1))=true) (h1:Γ.fns=(ix.map (iV p)).map (·.x)) (h2:Γ.cns=n.cns) (h3:Γ.tbs=n.tbs.map (·.1)) (h4:P.tabs=n.tbs.map λq=>vA q.2) (h5:(n.tbs.all λq=>sV q.2)=true) (h6:P.above=n.above) (h7:Γ.cls=n.cls) (h8:(Γ.rsd.all λc=>(P.above.lookup c).isSome)=true)
 (hb:((P.fns.zip (ix.map (iV p))).all λq=>fD (eV q.2.st) (q.2.N.take q.1.np))=true) (chk:eQ Γ P.fns (ix.map (iV p))=true) :
 Top prog w (eR h0) mg P Γ (ix.map (iV p)):=by
 unfold fE iE at S
 simp only[Prod.mk.injEq] at S
 obtain⟨s1,s2,s3,s4,s5⟩:=S
 have X:=sR k
 unfold sW at s5
 split at s5
 . rename_i as hr
   have ma:=sX X G hr
   rw[List.all_eq_true] at s5
   exact {
    fn:=λf t ht=>by
     rw[List.getElem?_map] at ht
     obtain⟨c,hc,rfl⟩:=Option.map_eq_some_iff.mp ht
     have hd:=List.all_eq_true.mp hi c (mG hc)
     obtain⟨fa,fd,g1,g2⟩:=aBu (List.map_inj_left.mp s1 _ (List.mem_filter.mpr ⟨aEq hd,hd⟩))
     refine⟨fa,fd,mg_of X G g1,g2,λF hF=>g2.binds λkV doc pm an cdv ct us hl=>kC (List.all_eq_true.mp hb (F,iV p c) (mG (i:=f) ?_)) hl⟩
     rw[List.getElem?_zip_eq_some]
     exact⟨hF,by rw[List.getElem?_map,hc];rfl⟩
    fns:=λf x hx=>by
     rw[h1,List.getElem?_map] at hx
     obtain⟨t,ht,rfl⟩:=Option.map_eq_some_iff.mp hx
     exact⟨t,ht,rfl⟩
    blt:=λx hx=>mg_none_of X G ((cK h0 x).trans (List.map_inj_left.mp s2 x hx))
    cns:=λx d hx=>by
     rw[h2] at hx
     obtain⟨u,v,g1,g2⟩:=aBv (List.all_eq_true.mp s3 _ (PySem.mem_of_lookup hx))
     exact⟨u,v,mg_of X G g1,g2⟩
    tab:=λi x hx=>by
     rw[h3,List.getElem?_map] at hx
     obtain⟨q,hq,rfl⟩:=Option.map_eq_some_iff.mp hx
     have hm:=mG hq
     obtain⟨a,g1,g2⟩:=zL (prog:=prog) (List.map_inj_left.mp s4 q hm) (List.all_eq_true.mp h5 q hm)
     exact⟨a,vA q.2,mg_of X G g1,by rw[h4,List.getElem?_map,hq];rfl,g2⟩
    exc:=λc ab hc=>by
     rw[h6] at hc
     have z:=s5 (c,ab) (PySem.mem_of_lookup hc)
     split at z
     . rename_i C hn
       refine⟨C,zB (as:=as) (mg_of X G ((cK h0 c).trans hn)) ((cK h0 c).trans hn) ?_ ?_⟩
       . rw[h7];exact z
       . rw[h7];exact ma
     . cases z
    rsd:=λc hc=>Option.isSome_iff_exists.mp (List.all_eq_true.mp h8 c hc)
    cls:=λx hx=>uY ma x (by rw[<-h7];exact hx)
    chk:=chk }
 . cases s5
theorem zM{l:PySem.W.OpenLaw}{n k:Nat}{q:Program}{loose:List Str}{XP:(Str->Option Value)->Heap->Prop}{YP:World->Heap->Prop}{d:DefRec}{sp:PySem.W.Frag->Sp}{x:Str}(hn:l.most=some n)(hn2:n<=sizeLine)(hdf:d.params.defaults=[])(hr:iR k callerA)
 (F:∀(w:World) (mg:Str->Option Value) (fa:Addr) (h:Heap),YP w h->h.Ns mainGlobals mg->mg d.name=some (.ref fa)->∃K:PySem.W.Frag,K.In h/\∃fd:FuncData,(∀(s:Shared) (u:Value),BindsTo s fd ⟨[u],[]⟩ [(x,u)])/\∀base:Heap,K.In base->base.Ns mainGlobals mg->mI l.prog w K mg base (CX1 l.prog w) k fa fd [x] (sp K))
 (hsp:∀(K:PySem.W.Frag) (H:Hp) (a:Addr) (ns:List Int),ns.length<=n->aAJ H->SqL K H a (ns.map V.int)->sp K [.ref a] H (λv _=>v=.bl true) λ_ _ _=>False):PySem.W.WalkO q loose XP YP l.row.toRowW d [] (λf vs=>PySem.call f vs):=by
 refine Att.attach_call hn hdf λw s₀ s₁ mg mb fa o pm cd doc a vs ns G Y ho hd hcd hmg hobj hints hlen hg=>?_
 obtain⟨K,KX,fd,hb,hF⟩:=F w mg fa _ Y G.T.g hmg
 exact wL KX G.T.g G.T.b G.T.builtins G.T.nolimit hg hobj hints (Nat.le_trans hlen hn2) hr hF hb (λH hO hS=>hsp K H a ns hlen hO hS) λ_ _ _ z=>uX z
def lst(p:Program):Stmt:=p.main.body.getLastD (.Pass ⟨0,0,0,0⟩)
def lP(p:Program):Program:={ p with main:={ p.main with body:=[lst p] } }
def nH(p:Program):List Str:=(p.main.scope.names.map (·.1)).filter λx=>!(Fast.sEq x (bQ (lst p)))
def aEs(s:Stmt):Pos:=match s with
 | .FunctionDef _ _ _ _ _ _ _ _ _ p=>p
 | _=>⟨0,0,0,0⟩
def fP(p:Program):DefRec:=⟨bQ (lst p),eV (lst p),fW (lst p),aZ (lst p),aEs (lst p)⟩
theorem aEt{l:PySem.W.OpenLaw}{P:Pg}{n:Sn}{rsd:List Str}{ix:List (Nat×List Str)}{k f N:Nat}{x:Str}{sl:List Str}(said:l.row.wellSaid=true)(left:LeftO l.prog (lP l.prog) (nH l.prog) (λ_=>true) (λs=>fE l.prog n s.heap) (λw=>iE l.prog n w) N)
 (hdef:defOf (lP l.prog) l.name=some (fP l.prog,[])) (hp:l.prog.theDef l.name=some ((fP l.prog).params,(fP l.prog).body,(fP l.prog).scope)) (hk:kwWritten? (fP l.prog).params.kwonlyargs (fP l.prog).params.kw_defaults=some []) (hwr:(!l.writes||([]:WRecords).isEmpty)=true)
 (ok:(chainsOk (lP l.prog)&&opensWell l.prog&&(frees l.row.toRowW&&l.row.within.isEmpty))=true) (hb:l.prog.bare) (hw:l.row.toRowW.promised) (hn:l.most=some 63) (hdf:(fP l.prog).params.defaults=[])
 (hi:(ix.all λc=>pF (pG l.prog c.1))=true) (hbd:((P.fns.zip (ix.map (iV l.prog))).all λq=>fD (eV q.2.st) (q.2.N.take q.1.np))=true) (chk:eQ ⟨[],[],(ix.map (iV l.prog)).map (·.x),n.cns,n.cls,true,n.tbs.map (·.1),rsd⟩ P.fns (ix.map (iV l.prog))=true)
 (h4:P.tabs=n.tbs.map λq=>vA q.2) (h5:(n.tbs.all λq=>sV q.2)=true) (h6:P.above=n.above) (h8:(rsd.all λc=>(P.above.lookup c).isSome)=true) (hr:iR (k+1) callerA) (hx:(ix.map (iV l.prog))[f]? = some ⟨bQ (lst l.prog),bQ (lst l.prog),lst l.prog,x::sl⟩) (hnp:(P.fns[f]?).map (·.np)=some 1)
 (pure:∀ns:List Int,ns.length<=63->∃fr pa,Hp.call P (k+1) f [.lst (ns.map D.int)]=.ok (.bl true,fr,pa)):l.row.Holds:=by
 refine holds_open (XP:=λ_ _=>True) (YP:=λw h=>∃h0,fE l.prog n h0=iE l.prog n w/\∀b o,h0.get? b=some o->h.get? b=some o) left (λw s e=>⟨s.heap,e,λ_ _ z=>z⟩) (λw h h' ⟨h0,e,k⟩ k'=>⟨h0,e,λb o z=>k' b o (k b o z)⟩) (λ_ _=>trivial) (λ_ _ _ _ _=>trivial) hdef hp hk (λ_ _=>recFacts_nil rfl) hwr said ok hb hw ?_
 obtain⟨F,hF,hFn⟩:=Option.map_eq_some_iff.mp hnp
 refine zM (sp:=λK=>spF K P (k+1) f) (x:=x) hn (by decide) hdf hr (λw mg fa h ⟨h0,e,kk⟩ G hmg=>?_) λK H a ns hl hO hS=>aEl hO hS (pure ns hl)
 have T:=aEr (prog:=l.prog) (w:=w) (P:=P) (Γ:=⟨[],[],(ix.map (iV l.prog)).map (·.x),n.cns,n.cls,true,n.tbs.map (·.1),rsd⟩) e kk G hi rfl rfl rfl h4 h5 h6 rfl h8 hbd chk
 obtain⟨fa',fd,g1,g2,g3⟩:=T.fn f _ hx
 have e:=hmg.symm.trans g1
 cases e
 have b:=g3 F hF
 refine⟨eR h0,sR kk,fd,λs u=>?_,λbase _ _=>?_⟩
 . obtain⟨oc,od,kV,doc,pm,an,cdv,ct,osl,rfl,lk,hcd⟩:=g2.ex
   refine .of_eq ((kC (ps:=[x]) ?_ rfl).trans rfl)
   have:=List.all_eq_true.mp hbd (F,_) (mG (i:=f) (List.getElem?_zip_eq_some.mpr ⟨hF,hx⟩))
   rw[hFn] at this
   exact this
 . have:=aEk (base:=base) T hx hF g2 k
   rw[hFn] at this
   exact this
end Hh
end
noncomputable section
namespace Hp
open PySem (Str Operator CmpOp)
section
variable {P:Pg} {cl:Caller} {σ:Sg}
@[simp] theorem aB {α β:Type} (a:α) (f:α->R β):((R.ok a:R α) >>= f)=f a:=id rfl
@[simp] theorem sY {α:Type} (x:R α):R.iff true x=x:=id rfl
@[simp] theorem aJf {α:Type} (x:α):R.of (some x)=.ok x:=id rfl
@[simp] theorem aP {α:Type} (a:α) (f:α->O):O.from σ (.ok a) f=f a:=id rfl
@[simp] theorem zN (f:Sg->O):(O.next σ).on f=f σ:=id rfl
@[simp] theorem aGW (v:Vl) (f:Sg->O):(O.ret v).on f=.ret v:=id rfl
@[simp] theorem aQ (d:D):ev P cl σ (.c d)=.ok (.cl d):=id rfl
@[simp] theorem fJ (i:Nat):ev P cl σ (.v i)=bH σ i:=id rfl
@[simp] theorem pH (o:Operator) (a b:E):ev P cl σ (.op o a b)=(ev P cl σ a >>= λx=>ev P cl σ b >>= λy=>opD o x y):=id rfl
@[simp] theorem aIA (a:E):ev P cl σ (.neg a)=(ev P cl σ a >>= λx=>match x.d with|.int i=>.ok (.cl (.int (-i)))|_=>.bad):=id rfl
@[simp] theorem aIY (a:E):ev P cl σ (.nt a)=(ev P cl σ a >>= λx=>dG x >>= λk=>.ok (.cl (.bl (!k)))):=id rfl
@[simp] theorem aGX (a b:E):ev P cl σ (.an a b)=(ev P cl σ a >>= λx=>match x.d with|.bl true=>ev P cl σ b|.bl false=>.ok (.cl (.bl false))|_=>.bad):=id rfl
@[simp] theorem aIB (a b:E):ev P cl σ (.orr a b)=(ev P cl σ a >>= λx=>match x.d with|.bl true=>.ok (.cl (.bl true))|.bl false=>ev P cl σ b|_=>.bad):=id rfl
@[simp] theorem aIC (t a b:E):ev P cl σ (.ife t a b)=(tst P cl σ t >>= λx=>if x then ev P cl σ a else ev P cl σ b):=id rfl
@[simp] theorem rE (o:CmpOp) (a b:E):ev P cl σ (.cmp o a b)=(ev P cl σ a >>= λx=>ev P cl σ b >>= λy=>match bP o x.d y.d with|some k=>.ok (.cl (.bl k))|none=>.bad):=id rfl
@[simp] theorem aHp (o o':CmpOp) (a b c:E):ev P cl σ (.cmp2 o o' a b c)=(ev P cl σ a >>= λx=>ev P cl σ b >>= λy=>match bP o x.d y.d with
 | some true=>ev P cl σ c >>= λz=>(match bP o' y.d z.d with|some k=>.ok (.cl (.bl k))|none=>.bad)
 | some false=>.ok (.cl (.bl false))
 | none=>.bad):=id rfl
@[simp] theorem zO (a b:E):ev P cl σ (.idx a b)=(ev P cl σ a >>= λx=>ev P cl σ b >>= λy=>eE x y):=id rfl
@[simp] theorem dC (es:Es):ev P cl σ (.tup es)=(evs P cl σ es >>= λvs=>.ok (nZ vs)):=id rfl
@[simp] theorem kE (es:Es):ev P cl σ (.lst es)=(evs P cl σ es >>= λvs=>.ok (lB vs)):=id rfl
@[simp] theorem bK (f:Nat) (es:Es):ev P cl σ (.call f es)=(evs P cl σ es >>= λvs=>cl f (vs.map (·.d)) >>= λr=>.ok (eF vs r)):=id rfl
@[simp] theorem aCr (b:Bi) (es:Es):ev P cl σ (.bi b es)=(evs P cl σ es >>= λvs=>biD b vs):=id rfl
@[simp] theorem aID (m:Mt) (o:E) (es:Es):ev P cl σ (.mth m o es)=(ev P cl σ o >>= λx=>evs P cl σ es >>= λys=>mtD m x ys):=id rfl
@[simp] theorem aEu (a:E) (cs:List Cl):ev P cl σ (.isi a cs)=(ev P cl σ a >>= λx=>match isI cs P x.d with|some k=>.ok (.cl (.bl k))|none=>.bad):=id rfl
@[simp] theorem aHq (a:E) (h:E):ev P cl σ (.sli a .nil (.cons h .nil))=(ev P cl σ a >>= λx=>ev P cl σ h >>= λh=>match h.d with|.int h=>.iff (aF h) (cH x none (some h))|_=>.bad):=by
 show(ev P cl σ a >>= λx=>evs P cl σ .nil >>= λl=>evs P cl σ (.cons h .nil) >>= λh=>_)=_
 cases ev P cl σ a with
 | ok x=>
  show(evs P cl σ (.cons h .nil) >>= λh=>_)=(ev P cl σ h >>= λh=>_)
  show((ev P cl σ h >>= λx=>evs P cl σ .nil >>= λxs=>R.ok (x::xs)) >>= λh=>_)=_
  cases ev P cl σ h <;> rfl
 | exc e=>rfl
 | bad=>rfl
@[simp] theorem aGY {α:Type} (a:α):(R.ok a).calm=R.ok a:=id rfl
theorem aBw(k:Nat)(caps:List Nat)(t:T)(it:It)(cond:Es)(elt:E):ev P cl σ (.comp k caps t it cond elt)=(walk P cl σ it >>= λxs=>.iff (decide (xs.1.length<=lim)) (
 cY (λx=>bM (List.replicate k .dead++caps.map λi=>((freeze σ xs.2)[i]?).getD .dead) x t >>= λσ1=>(tsts P cl σ1 cond).calm >>= λk=>if k then (ev P cl σ1 elt >>= λy=>.ok (some y)) else .ok none) xs.1 >>= λvs=>
 .ok (dP k caps xs.2 vs))):=rfl
@[simp] theorem aEK (a:E):ev P cl σ (.numset a)=(ev P cl σ a >>= λx=>match x.d with
 | .lst ds=>(match mX ds with|some ks=>.iff (decide (ds.length<=1000)) (.ok (.cl (.int (wN ks).length)))|none=>.bad)
 | _=>.bad):=id rfl
@[simp] theorem bV:evs P cl σ .nil=.ok []:=id rfl
@[simp] theorem aC (e:E) (es:Es):evs P cl σ (.cons e es)=(ev P cl σ e >>= λx=>evs P cl σ es >>= λxs=>.ok (x::xs)):=id rfl
@[simp] theorem aEv (a:E):tst P cl σ (.nt a)=(tst P cl σ a >>= λx=>.ok (!x)):=id rfl
@[simp] theorem zP (a b:E):tst P cl σ (.an a b)=(tst P cl σ a >>= λx=>if x then tst P cl σ b else .ok false):=id rfl
@[simp] theorem nI (a b:E):tst P cl σ (.orr a b)=(tst P cl σ a >>= λx=>if x then .ok true else tst P cl σ b):=id rfl
@[simp] theorem aIZ (d:D):tst P cl σ (.c d)=dG (.cl d):=id rfl
@[simp] theorem aJa (i:Nat):tst P cl σ (.v i)=(bH σ i >>= λx=>dG x):=id rfl
@[simp] theorem cT (o:CmpOp) (a b:E):tst P cl σ (.cmp o a b)=(ev P cl σ a >>= λx=>ev P cl σ b >>= λy=>match bP o x.d y.d with|some k=>.ok k|none=>.bad):=id rfl
@[simp] theorem aGZ (o o':CmpOp) (a b c:E):tst P cl σ (.cmp2 o o' a b c)=(ev P cl σ a >>= λx=>ev P cl σ b >>= λy=>match bP o x.d y.d with
 | some true=>ev P cl σ c >>= λz=>(match bP o' y.d z.d with|some k=>.ok k|none=>.bad)
 | some false=>.ok false
 | none=>.bad):=id rfl
@[simp] theorem zQ (f:Nat) (es:Es):tst P cl σ (.call f es)=(evs P cl σ es >>= λvs=>cl f (vs.map (·.d)) >>= λr=>dG (eF vs r)):=id rfl
@[simp] theorem aHr (a:E) (cs:List Cl):tst P cl σ (.isi a cs)=(ev P cl σ a >>= λx=>match isI cs P x.d with|some k=>.ok k|none=>.bad):=id rfl
@[simp] theorem aHs (a b:E):tst P cl σ (.idx a b)=(ev P cl σ a >>= λx=>ev P cl σ b >>= λy=>eE x y >>= λz=>dG z):=id rfl
@[simp] theorem aHa:tsts P cl σ .nil=.ok true:=id rfl
@[simp] theorem aEL (e:E) (es:Es):tsts P cl σ (.cons e es)=(tst P cl σ e >>= λx=>if x then tsts P cl σ es else .ok false):=id rfl
@[simp] theorem zR (a b:E):walk P cl σ (.rng a b)=(ev P cl σ a >>= λx=>ev P cl σ b >>= λy=>match x.d,y.d with|.int i,.int j=>.iff (aF i&&aF j) (.ok ((dW i j).map .cl,[]))|_,_=>.bad):=id rfl
@[simp] theorem pI (e:E):walk P cl σ (.seq e)=(ev P cl σ e >>= λx=>match x.d with
 | .lst ds=>.ok (items x ds,x.al)
 | .tup ds=>.ok (items x ds,x.al)
 | .str a=>.iff (decide (a.length<=lim)) (.ok (a.cps.toList.map λn=>.cl (.str ⟨#[n]⟩),[]))
 | _=>.bad):=id rfl
@[simp] theorem zS (a b:E):walk P cl σ (.zip a b)=(ev P cl σ a >>= λx=>ev P cl σ b >>= λy=>match fX x.d,fX y.d with
 | some as,some bs=>.ok (items ⟨.non,false,x.pa||y.pa,x.al++y.al⟩ (fK as bs),x.al++y.al)
 | _,_=>.bad):=id rfl
@[simp] theorem cQ (t:T) (e:E):ex P cl σ (.set t e)=O.from σ (ev P cl σ e) λv=>O.from σ (bM (freeze σ v.al) v t) .next:=id rfl
@[simp] theorem aIE (i:Nat) (e:E):ex P cl σ (.app i e)=O.from σ (ev P cl σ e).calm λv=>put σ i v λds=>some (ds++[v.d]):=id rfl
@[simp] theorem aIF (i:Nat) (e:E):ex P cl σ (.ext i e)=O.from σ (ev P cl σ e).calm λv=>match aCg v with|some (v',ds')=>put σ i v' λds=>some (ds++ds')|none=>.bad:=id rfl
@[simp] theorem aIG (i:Nat):ex P cl σ (.clr i)=put σ i (.cl .non) λ_=>some []:=id rfl
@[simp] theorem aHb (i:Nat) (k e:E):ex P cl σ (.setIx i k e)=O.from σ (ev P cl σ e) λv=>O.from σ (ev P cl σ k).calm λkv=>match kv.d with
 | .int k=>put σ i v λds=>(match ixN ds.length k with|some j=>some (ds.set j v.d)|none=>none)
 | _=>.bad:=id rfl
@[simp] theorem zT (e:E):ex P cl σ (.ret e)=O.from σ (ev P cl σ e) .ret:=id rfl
@[simp] theorem cB (c:E) (a b:Ss):ex P cl σ (.iff c a b)=O.from σ (tst P cl σ c) λk=>if k then exs P cl σ a else exs P cl σ b:=id rfl
theorem fQ(t:T)(it:It)(b:Ss):ex P cl σ (.for t it b)=O.from σ (walk P cl σ it) λxs=>bO (λσ x=>O.from σ (bM σ x t) λσ'=>exs P cl σ' b) xs.1 (freeze σ xs.2):=rfl
@[simp] theorem aIH (i j:Nat):ex P cl σ (.mov i j)=(match σ[j]? with
 | some (.own pa ds)=>if i=j then .bad else .next ((σ.set j .dead).set i (.own pa ds))
 | some (.sh pa d)=>.next (σ.set i (.sh (pa&&!noL d) d))
 | _=>.bad):=id rfl
@[simp] theorem aHt (i:Nat):ex P cl σ (.retv i)=(match σ[i]? with|some (.own pa ds)=>.ret ⟨.lst ds,true,pa,[]⟩|_=>O.from σ (bH σ i) .ret):=id rfl
@[simp] theorem aHc (i:Nat) (k:E):ex P cl σ (.pop none i (some k))=O.from σ ((ev P cl σ k).calm >>= λv=>match v.d with|.int k=>.iff (aF k) (.ok (some k))|_=>.bad) λk=>O.from σ (wY σ i k) λr=>.next r.2:=id rfl
@[simp] theorem bC:exs P cl σ .nil=.next σ:=id rfl
@[simp] theorem aT (s:S) (ss:Ss):exs P cl σ (.cons s ss)=(ex P cl σ s).on λσ'=>exs P cl σ' ss:=id rfl
end
theorem aL{P:Pg}{cl:Caller}{f:Nat}{F:Fn}{ds:List D}(hF:P.fns[f]? = some F)(hl:ds.length=F.np){v:Vl}
 (h:exs P cl ((ds.map λd=>Sl.sh true d)++List.replicate (F.ns-F.np) Sl.dead) F.body=.ret v):jN P cl f ds=.ok (v.d,v.fr,v.pa):=by
 unfold jN
 rw[hF]
 simp only[hl,if_true,h]
theorem pJ{f:Sg->Vl->O}:∀(xs:List Vl) (I:Nat->Sg->Prop) (σ:Sg),I 0 σ->(∀(i:Nat) (h:i<xs.length) (σ:Sg),I i σ->∃σ',f σ xs[i]=.next σ'/\I (i+1) σ')->∃σ',bO f xs σ=.next σ'/\I xs.length σ'
 | [],I,σ,h0,_=>⟨σ,rfl,h0⟩
 | x::xs,I,σ,h0,hs=>by
  obtain⟨σ1,e1,h1⟩:=hs 0 (by simp) σ h0
  obtain⟨σ2,e2,h2⟩:=pJ xs (λi=>I (i+1)) σ1 h1 λi h σ hI=>by
   have:=hs (i+1) (by simpa using h) σ hI
   simpa using this
  refine⟨σ2,?_,by simpa using h2⟩
  have e1:f σ x=.next σ1:=by simpa using e1
  unfold bO
  rw[e1]
  exact e2
theorem aEw(n:Nat):(dW 0 (n:Int)).map Vl.cl=(List.range n).map λ(k:Nat)=>Vl.cl (.int (k:Int)):=by
 unfold dW
 rw[List.map_map]
 simp
theorem fR{P:Pg}{cl:Caller}{σ:Sg}{t:T}{it:It}{b:Ss}{xs:List Vl}{al:List Nat}(I:Nat->Sg->Prop)(hw:walk P cl σ it=.ok (xs,al))(h0:I 0 (freeze σ al))
 (hs:∀(i:Nat) (h:i<xs.length) (σ:Sg),I i σ->∃σ1 σ',bM σ xs[i] t=.ok σ1/\exs P cl σ1 b=.next σ'/\I (i+1) σ'):∃σ',ex P cl σ (.for t it b)=.next σ'/\I xs.length σ':=by
 rw[fQ,hw]
 refine pJ xs I _ h0 λi h σ hI=>?_
 obtain⟨σ1,σ',e1,e2,h'⟩:=hs i h σ hI
 refine⟨σ',?_,h'⟩
 show O.from σ (bM σ xs[i] t) _=_
 rw[e1]
 exact e2
theorem aBx:aF 0=true:=by decide
theorem aBy{n:Nat}(hn:n<=1000000):aF (n:Int)=true:=by
 unfold aF
 rw[bA,decide_eq_true_eq,decide_eq_true_eq]
 exact⟨Int.le_trans (b:=0) (by decide) (Int.natCast_nonneg n),Int.lt_of_le_of_lt (b:=1000000) (by omega) (by decide)⟩
theorem dD{P:Pg}{cl:Caller}{σ:Sg}{a:E}{v:Vl}{n:Nat}(h:ev P cl σ a=.ok v)(hd:v.d=.int n)(hn:n<=1000000):walk P cl σ (.rng (.c (.int 0)) a)=.ok ((List.range n).map λ(k:Nat)=>Vl.cl (.int (k:Int)),[]):=by
 rw[zR,h,aQ,aB,aB,hd,<-aEw]
 show R.iff (aF 0&&aF (n:Int)) _=_
 rw[aBx,aBy hn]
 rfl
theorem vB{k:Nat}{caps al:List Nat}{vs:List Vl}(h:noLs (vs.map (·.d))=true):dP k caps al vs=⟨.lst (vs.map (·.d)),true,false,[]⟩:=by
 unfold dP
 rw[if_pos h]
end Hp
end
noncomputable section
namespace HpS
open Hp PySem
def box(b:Str×Int):D:=.tup [.str b.1,.int b.2]
@[simp] theorem aHu (b:Str×Int):noL (box b)=true:=by simp[box,noL,noLs]
end HpS
end
noncomputable section
namespace Hp
open PySem (Str)
@[simp] theorem aHv (d:D):(⟨d,false,false,[]⟩:Vl)=.cl d:=id rfl
@[simp] theorem dQ (d:D):(Vl.cl d).d=d:=id rfl
@[simp] theorem aJb (d:D):(Vl.cl d).fr=false:=id rfl
@[simp] theorem aJc (d:D):(Vl.cl d).pa=false:=id rfl
@[simp] theorem zU (d:D):(Vl.cl d).al=[]:=id rfl
@[simp] theorem fF (d:D):(Vl.cl d).slot=.sh false d:=by cases d <;> rfl
@[simp] theorem aBz (ds:List D) (pa:Bool) (al:List Nat):(⟨.lst ds,true,pa,al⟩:Vl).slot=.own pa ds:=id rfl
@[simp] theorem dI (i:Nat) (d:D):Sl.val i (.sh false d)=.ok (.cl d):=id rfl
@[simp] theorem sZ (i:Nat) (pa:Bool) (k:Int):Sl.val i (.sh pa (.int k))=.ok (.cl (.int k)):=by cases pa <;> rfl
@[simp] theorem tB (i:Nat) (pa:Bool) (k:Str):Sl.val i (.sh pa (.str k))=.ok (.cl (.str k)):=by cases pa <;> rfl
@[simp] theorem rF (i:Nat) (pa:Bool) (k:Bool):Sl.val i (.sh pa (.bl k))=.ok (.cl (.bl k)):=by cases pa <;> rfl
@[simp] theorem aHw (i:Nat) (pa:Bool):Sl.val i (.sh pa .non)=.ok (.cl .non):=by cases pa <;> rfl
@[simp] theorem gE (i:Nat) (ds:List D):Sl.val i (.sh true (.lst ds))=.ok ⟨.lst ds,false,true,[]⟩:=id rfl
theorem aBA(i:Nat)(pa:Bool){d:D}(h:noL d=true):Sl.val i (.sh pa d)=.ok (.cl d):=by unfold Sl.val;simp[h]
@[simp] theorem nJ (i:Nat) (pa:Bool) (ds:List D):Sl.val i (.own pa ds)=.ok ⟨.lst ds,false,pa,[i]⟩:=id rfl
@[simp] theorem dJ (σ:Sg) (v:Vl) (i:Nat):bM σ v (.n i)=.ok (σ.set i v.slot):=id rfl
@[simp] theorem cL (σ:Sg):freeze σ []=σ:=id rfl
@[simp] theorem aEx (b:Bool):dG (.cl (.bl b))=.ok b:=id rfl
@[simp] theorem zV (args:List Vl) (d:D):eF args (d,false,false)=.cl d:=id rfl
@[simp] theorem zW (args:List Vl) (d:D):eF args (d,true,false)=⟨d,true,false,[]⟩:=id rfl
@[simp] theorem dN (a b:D):bP .Eq a b=eqD a b:=id rfl
@[simp] theorem aEy (a b:D):bP .NotEq a b=(eqD a b).map (!·):=id rfl
@[simp] theorem aII (a b:Int):bP .Lt (.int a) (.int b)=some (decide (a<b)):=id rfl
@[simp] theorem aEz (a b:Int):bP .Gt (.int a) (.int b)=some (decide (b<a)):=id rfl
@[simp] theorem aIJ (a b:Int):bP .LtE (.int a) (.int b)=some (decide (a<=b)):=id rfl
@[simp] theorem aIK (a b:Int):bP .GtE (.int a) (.int b)=some (decide (b<=a)):=id rfl
theorem jD(n:Nat)(a b:Int):eqF (n+1) (.int a) (.int b)=some (a==b):=rfl
theorem cU(n:Nat)(a b:Str):eqF (n+1) (.str a) (.str b)=some (a==b):=rfl
theorem cV(n:Nat)(a b:List D):eqF (n+1) (.tup a) (.tup b)=bY n a b:=qH n a b
@[simp] theorem jE (a b:Int):eqD (.int a) (.int b)=some (a==b):=id rfl
@[simp] theorem gF (a b:Str):eqD (.str a) (.str b)=some (a==b):=id rfl
@[simp] theorem aIL (a b:Bool):eqD (.bl a) (.bl b)=some (a==b):=id rfl
@[simp] theorem aHx (P:Pg) (k:Int):isI [.tInt] P (.int k)=some true:=id rfl
@[simp] theorem aHd (P:Pg) (k:Int):isI [.tBool] P (.int k)=some false:=id rfl
@[simp] theorem aHy (P:Pg) (k:Str):isI [.tStr] P (.str k)=some true:=id rfl
@[simp] theorem aHz (P:Pg) (k:List D):isI [.tTuple] P (.tup k)=some true:=id rfl
@[simp] theorem aHA (P:Pg) (k:List D):isI [.tList] P (.lst k)=some true:=id rfl
@[simp] theorem aIM (P:Pg) (k:Bool):isI [.tBool] P (.bl k)=some true:=id rfl
@[simp] theorem add_int (i j:Int):opD .Add (.cl (.int i)) (.cl (.int j))=.ok (.cl (.int (i+j))):=id rfl
@[simp] theorem sub_int (i j:Int):opD .Sub (.cl (.int i)) (.cl (.int j))=.ok (.cl (.int (i-j))):=id rfl
theorem mul_int{i j:Int}(h:jM i j=true):opD .Mult (.cl (.int i)) (.cl (.int j))=.ok (.cl (.int (i*j))):=by
 show R.iff (jM i j) _=_
 rw[h];rfl
theorem eB{i j:Int}(h:nY j=true):opD .FloorDiv (.cl (.int i)) (.cl (.int j))=.ok (.cl (.int (i / j))):=by
 show R.iff (nY j) _=_
 rw[h];rfl
theorem aX{i j:Int}(h:0<j):opD .Mod (.cl (.int i)) (.cl (.int j))=.ok (.cl (.int (i % j))):=by
 show R.iff (decide (0<j)) _=_
 rw[decide_eq_true h];rfl
@[simp] theorem tD (ds:List D) (fr pa:Bool) (al:List Nat):biD .len [⟨.lst ds,fr,pa,al⟩]=.ok (.cl (.int ds.length)):=id rfl
@[simp] theorem aHB (ds:List D):biD .len [.cl (.tup ds)]=.ok (.cl (.int ds.length)):=id rfl
@[simp] theorem aHe (ds:List D):biD .len [.cl (.lst ds)]=.ok (.cl (.int ds.length)):=id rfl
end Hp
end
noncomputable section
namespace HpS
open Hp PySem
section
variable {P:Pg} {cl:Caller} {σ σ':Sg}
theorem cs{s:S}{ss:Ss}{o:O}(h:ex P cl σ s=.next σ')(r:exs P cl σ' ss=o):exs P cl σ (.cons s ss)=o:=by rw[aT,h,zN,r]
theorem dL{i:Nat}{e:E}{d:D}(h:ev P cl σ e=.ok (.cl d)):ex P cl σ (.set (.n i) e)=.next (σ.set i (.sh false d)):=by rw[cQ,h,aP,zU,cL,dJ,aP,fF]
theorem dE{e:E}{ss:Ss}{v:Vl}(h:ev P cl σ e=.ok v):exs P cl σ (.cons (.ret e) ss)=.ret v:=by rw[aT,zT,h];rfl
theorem eT{c:E}{a:Ss}(h:tst P cl σ c=.ok false):ex P cl σ (.iff c a .nil)=.next σ:=by rw[cB,h];rfl
theorem iP{c:E}{a b ss:Ss}{v:Vl}(h:tst P cl σ c=.ok true)(r:exs P cl σ a=.ret v):exs P cl σ (.cons (.iff c a b) ss)=.ret v:=by
 rw[aT,cB,h,aP,if_pos rfl,r];rfl
theorem kF{a b:E}{x y z:Vl}(h:ev P cl σ a=.ok x)(k:ev P cl σ b=.ok y)(e:eE x y=.ok z):ev P cl σ (.idx a b)=.ok z:=by rw[zO,h,aB,k,aB,e]
theorem aCs{a:E}{w x:Str}{b:Bool}(h:ev P cl σ a=.ok (.cl (.str w)))(q:(w==x)=b):ev P cl σ (.cmp .Eq a (.c (.str x)))=.ok (.cl (.bl b)):=by
 rw[rE,h,aB,aQ,aB,dQ,dQ,dN,gF,q]
theorem tE{f:Nat}{a b c:E}{x y z:Vl}{d:D}(h1:ev P cl σ a=.ok x)(h2:ev P cl σ b=.ok y)(h3:ev P cl σ c=.ok z)(hc:cl f [x.d,y.d,z.d]=.ok (d,false,false)):ev P cl σ (.call f (.cons a (.cons b (.cons c .nil))))=.ok (.cl d):=by
 have e:evs P cl σ (.cons a (.cons b (.cons c .nil)))=.ok [x,y,z]:=by rw[aC,h1,aB,aC,h2,aB,aC,h3,aB,bV];rfl
 rw[bK,e,aB,show [x,y,z].map (·.d)=[x.d,y.d,z.d] from rfl,hc];rfl
theorem v2_{s t:Sl}{d:D}{r:Sg}(h:noL d=true):ev P cl (s::t::.sh true d::r) (.v 2)=.ok (.cl d):=aBA 2 true h
theorem aHf{a b:E}{x y:Bool}(h1:ev P cl σ a=.ok (.cl (.bl x)))(h2:ev P cl σ b=.ok (.cl (.bl y))):ev P cl σ (.an a b)=.ok (.cl (.bl (x&&y))):=by
 rw[aGX,h1,aB];cases x
 . rfl
 . exact h2
theorem aW{o:Operator}{a b:E}{x y z:Vl}(h:ev P cl σ a=.ok x)(k:ev P cl σ b=.ok y)(e:opD o x y=.ok z):ev P cl σ (.op o a b)=.ok z:=by rw[pH,h,aB,k,aB,e]
theorem zX{o:CmpOp}{a b:E}{x y:Vl}{k:Bool}(h:ev P cl σ a=.ok x)(g:ev P cl σ b=.ok y)(e:bP o x.d y.d=some k):ev P cl σ (.cmp o a b)=.ok (.cl (.bl k)):=by rw[rE,h,aB,g,aB,e]
theorem zY{b:Bi}{a:E}{x z:Vl}(h:ev P cl σ a=.ok x)(e:biD b [x]=.ok z):ev P cl σ (.bi b (.cons a .nil))=.ok z:=by
 have h2:evs P cl σ (.cons a .nil)=.ok [x]:=by rw[aC,h];rfl
 rw[aCr,h2,aB,e]
end
end HpS
end
noncomputable section
namespace Hp
open PySem (Str)
theorem pK{α:Type}{g:α->D}(ng:∀t,noL (g t)=true):∀ts:List α,noLs (ts.map g)=true
 | []=>rfl
 | t::ts=>by rw[mC,noLs,ng t,pK ng ts];rfl
theorem pL{α:Type}{F:Vl->R (Option Vl)}{f:α->Vl}{g:α->D}{p:α->Bool}:∀{ts:List α},(∀t∈ts,F (f t)=.ok (if p t then some (.cl (g t)) else none))->cY F (ts.map f)=.ok ((ts.filter p).map λt=>.cl (g t))
 | [],_=>rfl
 | t::ts,h=>by
  have h1:=h t List.mem_cons_self
  have h2:=pL (F:=F) (f:=f) (g:=g) (p:=p) (ts:=ts) λy hy=>h y (List.mem_cons_of_mem _ hy)
  show(F (f t) >>= λy=>cY F (ts.map f) >>= λys=>(match y with|some y=>R.ok (y::ys)|none=>R.ok ys))=_
  rw[h1,h2]
  cases hp:p t with
  | true=>rw[List.filter_cons_of_pos hp];rfl
  | false=>rw[List.filter_cons_of_neg (by rw[hp];exact bN)];rfl
theorem aBB{α:Type}{g:α->D}(ng:∀t,noL (g t)=true){k:Nat}{caps al:List Nat}(ts:List α):dP k caps al (ts.map λt=>Vl.cl (g t))=⟨.lst (ts.map g),true,false,[]⟩:=by
 have e:(ts.map λt=>Vl.cl (g t)).map (·.d)=ts.map g:=by rw[List.map_map];rfl
 rw[vB (by rw[e];exact pK ng ts),e]
theorem aEA{P:Pg}{cl:Caller}{σ:Sg}{k:Nat}{caps al:List Nat}{T:T}{it:It}{elt:E}{α:Type}{ts:List α}(f:α->Vl)(g:α->D)(ng:∀t,noL (g t)=true)(hw:walk P cl σ it=.ok (ts.map f,al))(hl:ts.length<=lim)
 (hb:∀t∈ts,∃σ1,bM (List.replicate k .dead++caps.map λi=>((freeze σ al)[i]?).getD .dead) (f t) T=.ok σ1/\ev P cl σ1 elt=.ok (.cl (g t))):ev P cl σ (.comp k caps T it .nil elt)=.ok ⟨.lst (ts.map g),true,false,[]⟩:=by
 rw[aBw,hw,aB,pL (f:=f) (g:=g) (p:=λ_=>true) λt ht=>by
  obtain⟨σ1,e1,e2⟩:=hb t ht
  show(bM _ (f t) T >>= λσ1=>_)=_
  rw[e1]
  show(ev P cl σ1 elt >>= λy=>R.ok (some y))=_
  rw[e2]
  rfl]
 have hf:ts.filter (λ_=>true)=ts:=List.filter_eq_self.mpr λ_ _=>rfl
 have hl2:decide ((ts.map f).length<=lim)=true:=decide_eq_true (by rw[lM];exact hl)
 show R.iff (decide ((ts.map f).length<=lim)) (R.ok (dP k caps al ((ts.filter λ_=>true).map λt=>Vl.cl (g t))))=_
 rw[hf,hl2,sY,aBB ng]
theorem lQ{α:Type}{v:Vl}{g:α->D}(ng:∀t,noL (g t)=true)(ts:List α):items v (ts.map g)=ts.map λt=>Vl.cl (g t):=by
 unfold items
 rw[List.map_map]
 refine List.map_congr_left λt _=>?_
 show Vl.sub v (g t)=_
 unfold Vl.sub
 rw[if_pos (ng t)]
@[simp] theorem aHC {P:Pg} {cl:Caller} {σ:Sg} (a b:E):ev P cl σ (.lzip a b)=(ev P cl σ a >>= λx=>ev P cl σ b >>= λy=>match fX x.d,fX y.d with
 | some as,some bs=>.iff (decide (as.length<=lim)) (.ok (aCe x y (fK as bs)))
 | _,_=>.bad):=id rfl
end Hp
end
noncomputable section
namespace Hp
open PySem (Str Operator CmpOp)
section
variable {P:Pg} {cl:Caller} {σ:Sg}
@[simp] theorem aBC {α β:Type} (a:D) (f:α->R β):((R.exc a:R α) >>= f)=.exc a:=id rfl
@[simp] theorem aBD {α:Type} (a:D) (f:α->O):O.from σ (.exc a) f=.exc a σ:=id rfl
@[simp] theorem aHg (x:D) (f:Sg->O):(O.exc x σ).on f=.exc x σ:=id rfl
@[simp] theorem aIN (c:Str) (k:Bool) (es:Es):ex P cl σ (.rse c k es)=O.from σ (evs P cl σ es) λvs=>.exc (.err c (if k then vs.map (·.d) else [])) σ:=id rfl
@[simp] theorem zZ (b:Ss) (c:Str) (i j:Nat):ex P cl σ (.tryAs b c i j)=(match exs P cl σ b with
 | .exc x σ'=>(match isX [.own c] P x with
  | some true=>.next ((σ'.set i (.sh true x)).set j .dead)
  | _=>.bad)
 | o=>o):=id rfl
@[simp] theorem aIO (a:E) (cs:List Cl):ev P cl σ (.isx a cs)=(ev P cl σ a >>= λx=>match isX cs P x.d with|some k=>.ok (.cl (.bl k))|none=>.bad):=id rfl
@[simp] theorem aHD (a:E) (cs:List Cl):tst P cl σ (.isx a cs)=(ev P cl σ a >>= λx=>match isX cs P x.d with|some k=>.ok k|none=>.bad):=id rfl
@[simp] theorem aJd (e:E):ex P cl σ (.ex e)=O.from σ (ev P cl σ e) λ_=>.next σ:=id rfl
@[simp] theorem aIP (i:Nat) (k e:E):ex P cl σ (.ins i k e)=O.from σ (ev P cl σ k).calm λkv=>O.from σ (ev P cl σ e).calm λv=>match kv.d with
 | .int k=>if 0<=k/\k<1000000 then put σ i v λds=>some (ds.take k.toNat++v.d::ds.drop k.toNat) else .bad
 | _=>.bad:=id rfl
@[simp] theorem aHE:ev P cl σ (.dic .nil .nil)=.ok (.cl (.dic [])):=id rfl
end
theorem cC{P:Pg}{cl:Caller}{f:Nat}{F:Fn}{ds:List D}(hF:P.fns[f]? = some F)(hl:ds.length=F.np){x:D}{σ:Sg}
 (h:exs P cl ((ds.map λd=>Sl.sh true d)++List.replicate (F.ns-F.np) Sl.dead) F.body=.exc x σ):jN P cl f ds=.exc x:=by
 unfold jN
 rw[hF]
 simp only[hl,if_true,h]
section
variable {P:Pg} {cl:Caller} {σ:Sg}
@[simp] theorem aBE (a l:E):ev P cl σ (.sli a (.cons l .nil) .nil)=(ev P cl σ a >>= λx=>ev P cl σ l >>= λl=>match l.d with|.int l=>.iff (aF l) (cH x (some l) none)|_=>.bad):=by
 show(ev P cl σ a >>= λx=>evs P cl σ (.cons l .nil) >>= λl=>evs P cl σ .nil >>= λh=>_)=_
 cases ev P cl σ a with
 | ok x=>
  show((ev P cl σ l >>= λx=>evs P cl σ .nil >>= λxs=>R.ok (x::xs)) >>= λl=>_)=(ev P cl σ l >>= λl=>_)
  cases ev P cl σ l <;> rfl
 | exc e=>rfl
 | bad=>rfl
@[simp] theorem tF (a l h:E):ev P cl σ (.sli a (.cons l .nil) (.cons h .nil))=(ev P cl σ a >>= λx=>ev P cl σ l >>= λl=>ev P cl σ h >>= λh=>match l.d,h.d with|.int l,.int h=>.iff (aF l&&aF h) (cH x (some l) (some h))|_,_=>.bad):=by
 show(ev P cl σ a >>= λx=>evs P cl σ (.cons l .nil) >>= λl=>evs P cl σ (.cons h .nil) >>= λh=>_)=_
 cases ev P cl σ a with
 | ok x=>
  show((ev P cl σ l >>= λx=>evs P cl σ .nil >>= λxs=>R.ok (x::xs)) >>= λl=>_)=(ev P cl σ l >>= λl=>_)
  cases ev P cl σ l with
  | ok l=>
   show((ev P cl σ h >>= λx=>evs P cl σ .nil >>= λxs=>R.ok (x::xs)) >>= λh=>_)=(ev P cl σ h >>= λh=>_)
   cases ev P cl σ h <;> rfl
  | exc e=>rfl
  | bad=>rfl
 | exc e=>rfl
 | bad=>rfl
end
theorem dR:∀is:List Int,noLs (is.map D.int)=true
 | []=>rfl
 | i::is=>by simp[noLs,noL,dR is]
theorem tG{n k:Nat}(h:k<n):ixN n (k:Int)=some k:=by
 unfold ixN
 rw[if_pos (Int.natCast_nonneg k),if_pos (by omega)]
 simp
theorem nK{v:Vl}{is:List Int}{k:Nat}(hv:v.d=.lst (is.map D.int))(h:k<is.length):eE v (.cl (.int (k:Int)))=.ok (.cl (.int (is.getD k 0))):=by
 unfold eE
 rw[hv]
 have hl:(is.map D.int).length=is.length:=by simp
 have e:(is.map D.int)[k]? = some (.int (is.getD k 0)):=by simp[h]
 simp only[dQ,hl,tG h,e,Vl.sub,noL,if_true]
def nL:Fn:=⟨2,5,
 (.cons (.set (.n 2) (.lst .nil))
 (.cons (.set (.n 3) (.op .Add (.op .Mod (.v 0) (.c (.int 2147483647))) (.c (.int 48271))))
 (.cons (.for (.n 4) (.rng (.c (.int 0)) (.op .Add (.v 1) (.c (.int 1))))
  (.cons (.set (.n 3) (.op .Mod (.op .Add (.op .Add (.op .Mult (.v 3) (.v 3)) (.op .Mult (.c (.int 48271)) (.v 3))) (.v 4)) (.c (.int 2147483647))))
  (.cons (.app 2 (.v 3))
  .nil)))
 (.cons (.ret (.sli (.v 2) (.cons (.c (.int 1)) .nil) .nil))
 .nil))))⟩
def num(c:Int):Nat->Int
 | 0=>c % 2147483647+48271
 | k+1=>(num c k*num c k+48271*num c k+(k:Int)) % 2147483647
theorem tH(c:Int):∀k,0<=num c k/\num c k<2147531918
 | 0=>by
  have h0:0<=c % 2147483647:=Int.emod_nonneg _ (by decide)
  have h1:c % 2147483647<2147483647:=Int.emod_lt_of_pos _ (by decide)
  unfold num
  omega
 | k+1=>by
  unfold num
  have h0:=Int.emod_nonneg (num c k*num c k+48271*num c k+(k:Int)) (show(2147483647:Int)≠0 by decide)
  have h1:=Int.emod_lt_of_pos (num c k*num c k+48271*num c k+(k:Int)) (show(0:Int)<2147483647 by decide)
  omega
def strm(c:Int)(m:Nat):List Int:=(List.range m).map λi=>num c (i+2)
theorem pM(c:Int)(m:Nat):(strm c m).length=m:=by simp[strm]
theorem aBF(c:Int)(m:Nat):∀x∈strm c m,0<=x:=by
 intro x hx
 obtain⟨i,_,rfl⟩:=List.mem_map.mp hx
 exact(tH c _).1
theorem lR{P:Pg}{f:Nat}(hF:P.fns[f]? = some nL)(n:Nat)(c:Int){m:Nat}(hm:m<=1000):call P (n+1) f [.int c,.int m]=.ok (.lst ((strm c m).map D.int),true,false):=by
 have mm:∀i:Int,opD .Mod (.cl (.int i)) (.cl (.int 2147483647))=.ok (.cl (.int (i % 2147483647))):=λi=>aX (by decide)
 have hw:walk P (call P n) [.sh true (.int c),.sh true (.int m),.own false [],.sh false (.int (num c 0)),.dead] (.rng (.c (.int 0)) (.op .Add (.v 1) (.c (.int 1))))=.ok ((List.range (m+1)).map λ(k:Nat)=>Vl.cl (.int (k:Int)),[]):=by
  refine dD (v:=.cl (.int ((m+1:Nat):Int))) ?_ rfl (by omega)
  simp[bH]
 obtain⟨σ',e,hI⟩:=fR (t:=.n 4) (b:=(.cons (.set (.n 3) (.op .Mod (.op .Add (.op .Add (.op .Mult (.v 3) (.v 3)) (.op .Mult (.c (.int 48271)) (.v 3))) (.v 4)) (.c (.int 2147483647))))
  (.cons (.app 2 (.v 3))
  .nil)))
   (λk σ=>∃s4,σ=[.sh true (.int c),.sh true (.int m),.own false ((List.range k).map λi=>.int (num c (i+1))),.sh false (.int (num c k)),s4]) hw ⟨_,rfl⟩ (λk hk σ hσ=>by
    obtain⟨s4,rfl⟩:=hσ
    have hk':k<m+1:=by simpa using hk
    obtain⟨r0,r1⟩:=tH c k
    have m1:opD .Mult (.cl (.int (num c k))) (.cl (.int (num c k)))=.ok (.cl (.int (num c k*num c k))):=mul_int (by
     simp only[jM,Bool.or_eq_true,bA,decide_eq_true_eq];right;omega)
    have m2:opD .Mult (.cl (.int 48271)) (.cl (.int (num c k)))=.ok (.cl (.int (48271*num c k))):=mul_int (by
     simp only[jM,Bool.or_eq_true,bA,decide_eq_true_eq];right;omega)
    have hll:k+1<=lim:=by unfold lim;omega
    have hsn:(List.range (k+1)).map (λi=>D.int (num c (i+1)))=(List.range k).map (λi=>D.int (num c (i+1)))++[.int (num c (k+1))]:=by rw[List.range_succ];simp
    refine⟨[.sh true (.int c),.sh true (.int m),.own false ((List.range k).map λi=>.int (num c (i+1))),.sh false (.int (num c k)),.sh false (.int k)],
     [.sh true (.int c),.sh true (.int m),.own false ((List.range (k+1)).map λi=>.int (num c (i+1))),.sh false (.int (num c (k+1))),.sh false (.int k)],?_,?_,⟨_,rfl⟩⟩
    . simp
    . rw[hsn]
      simp[bH,m1,m2,mm,put,oA,hll,num])
 obtain⟨s4,rfl⟩:=hI
 have et:((List.range (m+1)).map λ(k:Nat)=>Vl.cl (.int (k:Int))).length=m+1:=by simp
 rw[et] at e
 have hno:noLs ((List.range (m+1)).map λi=>D.int (num c (i+1)))=true:=by
  have:(List.range (m+1)).map (λi=>D.int (num c (i+1)))=((List.range (m+1)).map λi=>num c (i+1)).map D.int:=by simp
  rw[this]
  exact dR _
 have hcut:cut ((List.range (m+1)).map λi=>D.int (num c (i+1))) (some 1) none=(strm c m).map D.int:=by
  unfold cut sIx
  simp only[lM,List.length_range]
  have e1:min (1:Int).toNat (m+1)=1:=by simp
  rw[if_neg (by decide),e1,List.take_of_length_le (by simp),List.range_succ_eq_map]
  simp[strm,Function.comp_def]
 have s1:aF 1=true:=by decide
 refine aL (F:=nL) hF rfl (v:=⟨.lst ((strm c m).map D.int),true,false,[]⟩) ?_
 have e:ex P (call P n) [.sh true (.int c),.sh true (.int m),.own false [],.sh false (.int (c % 2147483647+48271)),.dead] _=_:=e
 simp[nL,bH,mm,lB,dO,bI,e,s1,cH,hno,hcut]
def kP(b:Str×Int):D:=.tup [.str b.1,.int b.2]
def aM(bs:List (Str×Int)):List D:=bs.map kP
@[simp] theorem aHh (b:Str×Int):noL (kP b)=true:=by simp[kP,noL,noLs]
theorem iQ:∀bs:List (Str×Int),noLs (aM bs)=true
 | []=>rfl
 | b::bs=>by
  have:=iQ bs
  unfold aM at this
  simp[aM,noLs,this]
end Hp
end
noncomputable section
namespace HpS
open Hp PySem
inductive Sm where
 | num (n:Int)|box (k:Nat)|aft (k:Nat)|two (p:Bool) (a b:Sm)
def vD(p:Bool):Str:=if p then "plus" else "minus"
def Sm.d:Sm->D
 | .num n=>.tup [.str "number",.int n]
 | .box k=>.tup [.str "box",.int k]
 | .aft k=>.tup [.str "after",.int k]
 | .two p a b=>.tup [.str (vD p),a.d,b.d]
def Sm.sz:Sm->Nat
 | .two _ a b=>1+a.sz+b.sz
 | _=>1
def Sm.wf(c:Nat)(pl:Bool):Sm->Prop
 | .num n=>0<=n/\n<=99
 | .box k=>k<c
 | .aft k=>k<c/\pl=false
 | .two _ a b=>a.wf c pl/\b.wf c pl
theorem tJ{v:Vl}{d:D}(h:Hp.noL d=true):Vl.sub v d=.cl d:=by unfold Vl.sub;rw[if_pos h]
theorem lT{P:Pg}{cl:Caller}{f:Nat}{F:Fn}{ds:List D}(hF:P.fns[f]? = some F)(hl:ds.length=F.np){σ:Sg}
 (h:exs P cl ((ds.map λd=>Sl.sh true d)++List.replicate (F.ns-F.np) Sl.dead) F.body=.next σ):jN P cl f ds=.ok (.non,false,false):=by
 unfold jN
 rw[hF]
 simp only[hl,if_true,h]
@[simp] theorem aHi {P:Pg} {cl:Caller} {σ:Sg} (i:Nat) (a:E):ev P cl σ (.tget i a)=(ev P cl σ a >>= λx=>match x.d,P.tabs[i]? with|.str k,some t=>.ok (.cl ((t.lookup k).getD .non))|_,_=>.bad):=id rfl
def fWhole:Fn:=⟨1,1,(.cons (.ret (.an (.isi (.v 0) [.tInt]) (.nt (.isi (.v 0) [.tBool])))) .nil)⟩
def fWithin(wh:Nat):Fn:=⟨3,3,(.cons (.ret (.an (.call wh (.cons (.v 0) .nil)) (.cmp2 .LtE .LtE (.v 1) (.v 0) (.v 2)))) .nil)⟩
def fCheck(wi:Nat):Fn:=⟨3,4,
 (.cons (.set (.n 3) (.ife (.cmp .Eq (.v 1) (.c (.str "number"))) (.c (.int 99)) (.op .Sub (.bi .len (.cons (.v 0) .nil)) (.c (.int 1)))))
 (.cons (.iff (.nt (.call wi (.cons (.v 2) (.cons (.c (.int 0)) (.cons (.v 3) .nil)))))
  (.cons (.rse "NoCond" false (.cons (.c (.str "a number is a whole one from 0 to 99, a box the number of one")) .nil))
  .nil)
  .nil)
 .nil))⟩
theorem pN{P:Pg}{wh:Nat}(hF:P.fns[wh]? = some fWhole)(n:Nat)(i:Int):call P (n+1) wh [.int i]=.ok (.bl true,false,false):=aL (F:=fWhole) hF rfl (v:=.cl (.bl true)) rfl
theorem vE{P:Pg}{wh wi:Nat}(hW:P.fns[wh]? = some fWhole)(hF:P.fns[wi]? = some (fWithin wh))(n:Nat)(i a b:Int)(h1:a<=i)(h2:i<=b):call P (n+2) wi [.int i,.int a,.int b]=.ok (.bl true,false,false):=by
 refine aL (F:=fWithin wh) hF rfl (v:=.cl (.bl true)) ?_
 simp[fWithin,bH,pN hW,h1,h2]
theorem aAa{P:Pg}{wh wi ch:Nat}(hW:P.fns[wh]? = some fWhole)(hI:P.fns[wi]? = some (fWithin wh))(hF:P.fns[ch]? = some (fCheck wi))(n:Nat){bs:List D}{due:Str}{i:Int}(h0:0<=i)(h1:i<=(if due == "number" then 99 else (bs.length:Int)-1)) :
 call P (n+3) ch [.lst bs,.str due,.int i]=.ok (.non,false,false):=by
 have c1:=vE hW hI n i 0 _ h0 h1
 cases q:due == "number" with
 | true=>
  rw[q,if_pos rfl] at c1
  refine lT (F:=fCheck wi) hF rfl (σ:=[.sh true (.lst bs),.sh true (.str due),.sh true (.int i),.sh false (.int 99)]) ?_
  simp[fCheck,bH,q,c1]
 | false=>
  rw[q,if_neg bN] at c1
  refine lT (F:=fCheck wi) hF rfl (σ:=[.sh true (.lst bs),.sh true (.str due),.sh true (.int i),.sh false (.int ((bs.length:Int)-1))]) ?_
  simp[fCheck,bH,q,c1]
def sumTab:List (Str×D):=[("number",.tup [.str "number"]),("box",.tup [.str "box"]),("after",.tup [.str "box"]),("plus",.tup [.str "sum",.str "sum"]),("minus",.tup [.str "sum",.str "sum"])]
def fForm:Fn:=⟨3,5,
 (.cons (.iff (.orr (.nt (.isi (.v 1) [.tTuple])) (.orr (.cmp .Eq (.bi .len (.cons (.v 1) .nil)) (.c (.int 0))) (.nt (.isi (.idx (.v 1) (.c (.int 0))) [.tStr]))))
  (.cons (.rse "NoCond" false (.cons (.c (.str "a part is a tuple that begins with a word")) .nil))
  .nil)
  .nil)
 (.cons (.set (.n 3) (.idx (.v 1) (.c (.int 0))))
 (.cons (.set (.n 4) (.ife (.cmp .Eq (.v 0) (.c (.str "sum"))) (.tget 0 (.v 3)) (.tget 1 (.v 3))))
 (.cons (.iff (.orr (.cmp .Is (.v 4) (.c .non)) (.cmp .NotEq (.bi .len (.cons (.v 1) .nil)) (.op .Add (.bi .len (.cons (.v 4) .nil)) (.c (.int 1)))))
  (.cons (.rse "NoCond" false (.cons (.c (.str "a part has a word that is due there, and as many things as go with it")) .nil))
  .nil)
  .nil)
 (.cons (.iff (.an (.v 2) (.cmp .Eq (.v 3) (.c (.str "after"))))
  (.cons (.rse "NoCond" false (.cons (.c (.str "no after stands where a plain one is due")) .nil))
  .nil)
  .nil)
 (.cons (.retv 4)
 .nil))))))⟩
def Sm.word:Sm->Str
 | .num _ => "number" | .box _ => "box" | .aft _ => "after" | .two p _ _=>vD p
def Sm.rest:Sm->List D
 | .num n=>[.int n]|.box k=>[.int k]|.aft k=>[.int k]|.two _ a b=>[a.d,b.d]
def Sm.form:Sm->List Str
 | .num _=>["number"]|.box _=>["box"]|.aft _=>["box"]|.two _ _ _=>["sum", "sum"]
theorem Sm.look:∀s:Sm,sumTab.lookup s.word=some (.tup (s.form.map D.str))
 | .num _=>by rfl
 | .box _=>by rfl
 | .aft _=>by rfl
 | .two true _ _=>by rfl
 | .two false _ _=>by rfl
def fLook(fo ch lo:Nat):Fn:=⟨5,8,
 (.cons (.iff (.cmp .Eq (.v 4) (.c (.int 40)))
  (.cons (.rse "TooMany" false (.cons (.c (.str "a condition or sum has at most forty parts")) .nil))
  .nil)
  .nil)
 (.cons (.set (.n 4) (.op .Add (.v 4) (.c (.int 1))))
 (.cons (.set (.n 5) (.call fo (.cons (.v 1) (.cons (.v 2) (.cons (.v 3) .nil)))))
 (.cons (.for (.t [6,7]) (.zip (.v 5) (.sli (.v 2) (.cons (.c (.int 1)) .nil) .nil))
  (.cons (.iff (.orr (.cmp .Eq (.v 6) (.c (.str "sum"))) (.cmp .Eq (.v 6) (.c (.str "cond"))))
   (.cons (.set (.n 4) (.call lo (.cons (.v 0) (.cons (.v 6) (.cons (.v 7) (.cons (.v 3) (.cons (.v 4) .nil)))))))
   .nil)
   (.cons (.ex (.call ch (.cons (.v 0) (.cons (.v 6) (.cons (.v 7) .nil)))))
   .nil))
  .nil))
 (.cons (.retv 4)
 .nil)))))⟩
def eU(ch lo:Nat):Ss:=(.cons (.iff (.orr (.cmp .Eq (.v 6) (.c (.str "sum"))) (.cmp .Eq (.v 6) (.c (.str "cond"))))
 (.cons (.set (.n 4) (.call lo (.cons (.v 0) (.cons (.v 6) (.cons (.v 7) (.cons (.v 3) (.cons (.v 4) .nil)))))))
 .nil)
 (.cons (.ex (.call ch (.cons (.v 0) (.cons (.v 6) (.cons (.v 7) .nil)))))
 .nil))
 .nil)
theorem aAb{P:Pg}{cl:Caller}{σ:Sg}(e:E):ex P cl σ (.ex e)=O.from σ (ev P cl σ e) λ_=>.next σ:=rfl
theorem aIQ:(("sum" : Str) == "sum")=true:=by decide +kernel
theorem aIR:(("number" : Str) == "sum")=false:=by decide +kernel
theorem aIS:(("number" : Str) == "cond")=false:=by decide +kernel
theorem aIT:(("box" : Str) == "sum")=false:=by decide +kernel
theorem aIU:(("box" : Str) == "cond")=false:=by decide +kernel
section
variable {P:Pg} {wh wi ch fo lo:Nat} (hW:P.fns[wh]? = some fWhole) (hI:P.fns[wi]? = some (fWithin wh)) (hC:P.fns[ch]? = some (fCheck wi)) (hO:P.fns[fo]? = some fForm) (hT:P.tabs[0]? = some sumTab) (hL:P.fns[lo]? = some (fLook fo ch lo))
include hW hI hC hO hT hL
end
section
variable {P:Pg} {wh wi ch fo lo:Nat} (hW:P.fns[wh]? = some fWhole) (hI:P.fns[wi]? = some (fWithin wh)) (hC:P.fns[ch]? = some (fCheck wi)) (hO:P.fns[fo]? = some fForm) (hT:P.tabs[0]? = some sumTab) (hL:P.fns[lo]? = some (fLook fo ch lo))
include hW hI hC hO hT hL
end
inductive Cn where
 | yes|cmp (i:Bool) (a b:Sm)|nt (c:Cn)|two (p:Bool) (a b:Cn)
def gG(i:Bool):Str:=if i then "is" else "less"
def lU(p:Bool):Str:=if p then "both" else "either"
def Cn.d:Cn->D
 | .yes=>.tup [.str "yes"]
 | .cmp i a b=>.tup [.str (gG i),a.d,b.d]
 | .nt c=>.tup [.str "not",c.d]
 | .two p a b=>.tup [.str (lU p),a.d,b.d]
def Cn.sz:Cn->Nat
 | .yes=>1
 | .cmp _ a b=>1+a.sz+b.sz
 | .nt c=>1+c.sz
 | .two _ a b=>1+a.sz+b.sz
def Cn.wf(c:Nat)(pl:Bool):Cn->Prop
 | .yes=>True
 | .cmp _ a b=>a.wf c pl/\b.wf c pl
 | .nt x=>x.wf c pl
 | .two _ a b=>a.wf c pl/\b.wf c pl
def condTab:List (Str×D):=[("yes",.tup []),("is",.tup [.str "sum",.str "sum"]),("less",.tup [.str "sum",.str "sum"]),("not",.tup [.str "cond"]),("both",.tup [.str "cond",.str "cond"]),("either",.tup [.str "cond",.str "cond"])]
def Cn.word:Cn->Str
 | .yes => "yes" | .cmp i _ _=>gG i|.nt _ => "not" | .two p _ _=>lU p
def Cn.rest:Cn->List D
 | .yes=>[]|.cmp _ a b=>[a.d,b.d]|.nt x=>[x.d]|.two _ a b=>[a.d,b.d]
def Cn.form:Cn->List Str
 | .yes=>[]|.cmp _ _ _=>["sum", "sum"]|.nt _=>["cond"]|.two _ _ _=>["cond", "cond"]
theorem Cn.look:∀s:Cn,condTab.lookup s.word=some (.tup (s.form.map D.str))
 | .yes=>by rfl
 | .cmp true _ _=>by rfl
 | .cmp false _ _=>by rfl
 | .nt _=>by rfl
 | .two true _ _=>by rfl
 | .two false _ _=>by rfl
theorem aIV:(("cond" : Str) == "sum")=false:=by decide +kernel
theorem aIW:(("cond" : Str) == "cond")=true:=by decide +kernel
section
variable {P:Pg} {wh wi ch fo lo:Nat} (hW:P.fns[wh]? = some fWhole) (hI:P.fns[wi]? = some (fWithin wh)) (hC:P.fns[ch]? = some (fCheck wi)) (hO:P.fns[fo]? = some fForm) (hT:P.tabs[0]? = some sumTab) (hU:P.tabs[1]? = some condTab) (hL:P.fns[lo]? = some (fLook fo ch lo))
include hW hI hC hO hT hU hL
end
end HpS
end
noncomputable section
namespace K08
open Hp
def f0:Hp.Fn:=⟨1,1,
 (.cons (.ret (.an (.isi (.v 0) [.tInt]) (.nt (.isi (.v 0) [.tBool]))))
 .nil)⟩
def f1:Hp.Fn:=⟨3,3,
 (.cons (.ret (.an (.call 0 (.cons (.v 0) .nil)) (.cmp2 .LtE .LtE (.v 1) (.v 0) (.v 2))))
 .nil)⟩
def f2:Hp.Fn:=⟨3,3,
 (.cons (.ex (.call 4 (.cons (.v 0) (.cons (.c (.str "sum")) (.cons (.v 1) (.cons (.v 2) (.cons (.c (.int 0)) .nil)))))))
 (.cons (.retv 1)
 .nil))⟩
def f3:Hp.Fn:=⟨3,3,
 (.cons (.ex (.call 4 (.cons (.v 0) (.cons (.c (.str "cond")) (.cons (.v 1) (.cons (.v 2) (.cons (.c (.int 0)) .nil)))))))
 (.cons (.retv 1)
 .nil))⟩
def f4:Hp.Fn:=⟨5,8,
 (.cons (.iff (.cmp .Eq (.v 4) (.c (.int 40)))
  (.cons (.rse "TooMany" false (.cons (.c (.str "a condition or sum has at most forty parts")) .nil))
  .nil)
  .nil)
 (.cons (.set (.n 4) (.op .Add (.v 4) (.c (.int 1))))
 (.cons (.set (.n 5) (.call 5 (.cons (.v 1) (.cons (.v 2) (.cons (.v 3) .nil)))))
 (.cons (.for (.t [6,7]) (.zip (.v 5) (.sli (.v 2) (.cons (.c (.int 1)) .nil) .nil))
  (.cons (.iff (.orr (.cmp .Eq (.v 6) (.c (.str "sum"))) (.cmp .Eq (.v 6) (.c (.str "cond"))))
   (.cons (.set (.n 4) (.call 4 (.cons (.v 0) (.cons (.v 6) (.cons (.v 7) (.cons (.v 3) (.cons (.v 4) .nil)))))))
   .nil)
   (.cons (.ex (.call 6 (.cons (.v 0) (.cons (.v 6) (.cons (.v 7) .nil)))))
   .nil))
  .nil))
 (.cons (.retv 4)
 .nil)))))⟩
def f5:Hp.Fn:=⟨3,5,
 (.cons (.iff (.orr (.nt (.isi (.v 1) [.tTuple])) (.orr (.cmp .Eq (.bi .len (.cons (.v 1) .nil)) (.c (.int 0))) (.nt (.isi (.idx (.v 1) (.c (.int 0))) [.tStr]))))
  (.cons (.rse "NoCond" false (.cons (.c (.str "a part is a tuple that begins with a word")) .nil))
  .nil)
  .nil)
 (.cons (.set (.n 3) (.idx (.v 1) (.c (.int 0))))
 (.cons (.set (.n 4) (.ife (.cmp .Eq (.v 0) (.c (.str "sum"))) (.tget 0 (.v 3)) (.tget 1 (.v 3))))
 (.cons (.iff (.orr (.cmp .Is (.v 4) (.c .non)) (.cmp .NotEq (.bi .len (.cons (.v 1) .nil)) (.op .Add (.bi .len (.cons (.v 4) .nil)) (.c (.int 1)))))
  (.cons (.rse "NoCond" false (.cons (.c (.str "a part has a word that is due there, and as many things as go with it")) .nil))
  .nil)
  .nil)
 (.cons (.iff (.an (.v 2) (.cmp .Eq (.v 3) (.c (.str "after"))))
  (.cons (.rse "NoCond" false (.cons (.c (.str "no after stands where a plain one is due")) .nil))
  .nil)
  .nil)
 (.cons (.retv 4)
 .nil))))))⟩
def f6:Hp.Fn:=⟨3,4,
 (.cons (.set (.n 3) (.ife (.cmp .Eq (.v 1) (.c (.str "number"))) (.c (.int 99)) (.op .Sub (.bi .len (.cons (.v 0) .nil)) (.c (.int 1)))))
 (.cons (.iff (.nt (.call 1 (.cons (.v 2) (.cons (.c (.int 0)) (.cons (.v 3) .nil)))))
  (.cons (.rse "NoCond" false (.cons (.c (.str "a number is a whole one from 0 to 99, a box the number of one")) .nil))
  .nil)
  .nil)
 .nil))⟩
def f7:Hp.Fn:=⟨2,5,
 (.cons (.set (.n 2) (.lst .nil))
 (.cons (.set (.n 3) (.op .Add (.op .Mod (.v 0) (.c (.int 2147483647))) (.c (.int 48271))))
 (.cons (.for (.n 4) (.rng (.c (.int 0)) (.op .Add (.v 1) (.c (.int 1))))
  (.cons (.set (.n 3) (.op .Mod (.op .Add (.op .Add (.op .Mult (.v 3) (.v 3)) (.op .Mult (.c (.int 48271)) (.v 3))) (.v 4)) (.c (.int 2147483647))))
  (.cons (.app 2 (.v 3))
  .nil)))
 (.cons (.ret (.sli (.v 2) (.cons (.c (.int 1)) .nil) .nil))
 .nil))))⟩
def f8:Hp.Fn:=⟨1,3,
 (.cons (.set (.n 1) (.lst (.cons (.op .Add (.c (.int 1)) (.op .Mod (.idx (.v 0) (.c (.int 2))) (.c (.int 5)))) (.cons (.c (.int 1)) (.cons (.c (.int 1)) .nil)))))
 (.cons (.set (.n 2) (.op .Add (.c (.int 1)) (.op .Mod (.idx (.v 0) (.c (.int 1))) (.c (.int 5)))))
 (.cons (.ret (.comp 1 [1,2] (.n 0) (.rng (.c (.int 0)) (.op .Add (.c (.int 1)) (.op .Mod (.idx (.v 0) (.c (.int 0))) (.c (.int 3))))) .nil (.tup (.cons (.sli (.c (.str "abcdefgh")) (.cons (.v 0) .nil) (.cons (.op .Add (.v 0) (.v 2)) .nil)) (.cons (.idx (.v 1) (.v 0)) .nil)))))
 .nil)))⟩
def f9:Hp.Fn:=⟨3,4,
 (.cons (.set (.n 3) (.lst (.cons (.c .non) (.cons (.c (.int 7)) (.cons (.c (.bl true)) (.cons (.c (.str "yes")) (.cons (.lst .nil) (.cons (.tup .nil) (.cons (.tup (.cons (.c (.str "yes")) (.cons (.c (.int 1)) .nil))) (.cons (.tup (.cons (.c (.str "no")) .nil)) (.cons (.lst (.cons (.c (.str "yes")) .nil)) (.cons (.tup (.cons (.c (.str "Yes")) .nil)) .nil))))))))))))
 (.cons (.set (.n 3) (.op .Add (.v 3) (.lst (.cons (.tup (.cons (.tup (.cons (.c (.str "yes")) .nil)) .nil)) (.cons (.tup (.cons (.c .non) (.cons (.v 1) .nil))) (.cons (.v 2) (.cons (.tup (.cons (.c (.str "is")) (.cons (.v 2) .nil))) (.cons (.tup (.cons (.c (.str "is")) (.cons (.v 2) (.cons (.v 2) (.cons (.v 2) .nil))))) .nil))))))))
 (.cons (.set (.n 3) (.op .Add (.v 3) (.lst (.cons (.tup (.cons (.c (.str "less")) (.cons (.v 2) (.cons (.v 1) .nil)))) (.cons (.tup (.cons (.c (.str "is")) (.cons (.v 1) (.cons (.v 2) .nil)))) (.cons (.tup (.cons (.c (.str "not")) .nil)) (.cons (.tup (.cons (.c (.str "")) (.cons (.v 1) .nil))) (.cons (.tup (.cons (.c (.str "not")) (.cons (.v 1) (.cons (.v 1) .nil)))) .nil))))))))
 (.cons (.set (.n 3) (.op .Add (.v 3) (.lst (.cons (.tup (.cons (.c (.str "not")) (.cons (.v 2) .nil))) (.cons (.tup (.cons (.c (.str "both")) (.cons (.v 1) .nil))) (.cons (.tup (.cons (.c (.str "either")) (.cons (.v 1) (.cons (.v 2) .nil)))) (.cons (.tup (.cons (.c (.str "both")) (.cons (.v 2) (.cons (.v 1) .nil)))) .nil)))))))
 (.cons (.set (.n 3) (.op .Add (.v 3) (.lst (.cons (.tup (.cons (.c (.str "either")) (.cons (.v 1) (.cons (.v 1) (.cons (.v 1) .nil))))) (.cons (.tup (.cons (.c (.str "and")) (.cons (.v 1) (.cons (.v 1) .nil)))) (.cons (.tup (.cons (.c (.str "plus")) (.cons (.v 2) (.cons (.v 2) .nil)))) (.cons (.dic (.cons (.c (.str "yes")) .nil) (.cons (.c (.int 1)) .nil)) .nil)))))))
 (.cons (.set (.n 3) (.op .Add (.v 3) (.lst (.cons (.tup (.cons (.c (.str "both")) (.cons (.v 1) (.cons (.c .non) .nil)))) (.cons (.tup (.cons (.c (.str "both")) (.cons (.c .non) (.cons (.v 1) .nil)))) (.cons (.tup (.cons (.c (.str "is")) (.cons (.v 2) (.cons (.c (.int 3)) .nil)))) (.cons (.tup (.cons (.c (.str "less")) (.cons (.c (.int 0)) (.cons (.v 2) .nil)))) .nil)))))))
 (.cons (.set (.n 3) (.op .Add (.v 3) (.lst (.cons (.tup (.cons (.lst .nil) (.cons (.v 1) .nil))) (.cons (.tup (.cons (.dic (.cons (.c (.str "is")) .nil) (.cons (.c (.int 1)) .nil)) (.cons (.v 2) (.cons (.v 2) .nil)))) (.cons (.tup (.cons (.lst (.cons (.c (.str "yes")) .nil)) .nil)) (.cons (.tup (.cons (.dic .nil .nil) (.cons (.v 1) (.cons (.v 1) .nil)))) (.cons (.tup (.cons (.c (.bl true)) .nil)) .nil))))))))
 (.cons (.ret (.idx (.v 3) (.op .Mod (.v 0) (.bi .len (.cons (.v 3) .nil)))))
 .nil))))))))⟩
def f10:Hp.Fn:=⟨2,3,
 (.cons (.set (.n 2) (.lst (.cons (.tup (.cons (.c (.str "number")) .nil)) (.cons (.tup (.cons (.c (.str "number")) (.cons (.neg (.c (.int 1))) .nil))) (.cons (.tup (.cons (.c (.str "number")) (.cons (.c (.int 100)) .nil))) (.cons (.tup (.cons (.c (.str "number")) (.cons (.c (.bl true)) .nil))) .nil))))))
 (.cons (.set (.n 2) (.op .Add (.v 2) (.lst (.cons (.tup (.cons (.c (.str "number")) (.cons (.op .Add (.op .Pow (.c (.int 10)) (.c (.int 59))) (.v 0)) .nil))) (.cons (.tup (.cons (.c (.str "number")) (.cons (.c (.str "1")) .nil))) (.cons (.tup (.cons (.c (.str "number")) (.cons (.c (.int 1)) (.cons (.c (.int 1)) .nil)))) .nil))))))
 (.cons (.set (.n 2) (.op .Add (.v 2) (.lst (.cons (.tup (.cons (.c (.str "number")) (.cons (.tup (.cons (.c (.int 1)) .nil)) .nil))) (.cons (.tup (.cons (.c (.str "number")) (.cons (.c .non) .nil))) (.cons (.tup (.cons (.c (.str "Number")) (.cons (.c (.int 1)) .nil))) (.cons (.tup (.cons (.c (.int 0)) (.cons (.c (.int 1)) .nil))) (.cons (.sli (.v 1) .nil (.cons (.c (.int 1)) .nil)) .nil))))))))
 (.cons (.ret (.idx (.v 2) (.op .Mod (.v 0) (.bi .len (.cons (.v 2) .nil)))))
 .nil))))⟩
def f11:Hp.Fn:=⟨2,3,
 (.cons (.set (.n 2) (.lst (.cons (.tup (.cons (.c (.str "box")) .nil)) (.cons (.tup (.cons (.c (.str "box")) (.cons (.neg (.c (.int 1))) .nil))) (.cons (.tup (.cons (.c (.str "box")) (.cons (.v 1) .nil))) (.cons (.tup (.cons (.c (.str "box")) (.cons (.c (.bl true)) .nil))) (.cons (.tup (.cons (.c (.str "box")) (.cons (.c .non) .nil))) .nil)))))))
 (.cons (.set (.n 2) (.op .Add (.v 2) (.lst (.cons (.tup (.cons (.c (.str "box")) (.cons (.c (.int 0)) (.cons (.c (.int 0)) .nil)))) (.cons (.tup (.cons (.c (.str "box")) (.cons (.op .Sub (.c (.int 0)) (.op .Pow (.c (.int 10)) (.c (.int 59)))) .nil))) (.cons (.tup (.cons (.c (.str "after")) (.cons (.v 1) .nil))) .nil))))))
 (.cons (.set (.n 2) (.op .Add (.v 2) (.lst (.cons (.tup (.cons (.c (.str "after")) (.cons (.neg (.c (.int 1))) .nil))) (.cons (.tup (.cons (.c (.str "after")) (.cons (.c (.bl false)) .nil))) (.cons (.tup (.cons (.c (.str "after")) .nil)) (.cons (.tup (.cons (.c (.str "Box")) (.cons (.c (.int 0)) .nil))) (.cons (.lst (.cons (.c (.str "box")) (.cons (.c (.int 0)) .nil))) .nil))))))))
 (.cons (.ret (.idx (.v 2) (.op .Mod (.v 0) (.bi .len (.cons (.v 2) .nil)))))
 .nil))))⟩
def f12:Hp.Fn:=⟨5,7,
 (.cons (.set (.n 5) (.lst (.cons (.c .non) (.cons (.c (.int 7)) (.cons (.c (.bl false)) (.cons (.c (.str "a")) (.cons (.lst .nil) (.cons (.tup .nil) (.cons (.v 1) (.cons (.tup (.cons (.c (.str "plus")) (.cons (.v 2) .nil))) (.cons (.tup (.cons (.c (.str "minus")) (.cons (.v 2) (.cons (.v 2) (.cons (.v 2) .nil))))) .nil)))))))))))
 (.cons (.set (.n 5) (.op .Add (.v 5) (.lst (.cons (.tup (.cons (.c (.str "times")) (.cons (.v 2) (.cons (.v 2) .nil)))) (.cons (.tup (.cons (.c (.str "plus")) (.cons (.v 2) (.cons (.v 1) .nil)))) (.cons (.tup (.cons (.c (.str "minus")) (.cons (.c (.int 1)) (.cons (.v 2) .nil)))) (.cons (.tup (.cons (.c (.str "less")) (.cons (.v 2) (.cons (.v 2) .nil)))) .nil)))))))
 (.cons (.set (.n 5) (.op .Add (.v 5) (.lst (.cons (.tup (.cons (.c (.str "yes")) .nil)) (.cons (.tup (.cons (.c (.str "plus")) (.cons (.tup (.cons (.c (.str "yes")) .nil)) (.cons (.v 2) .nil)))) (.cons (.tup (.cons (.c (.str "plus")) (.cons (.v 2) (.cons (.c .non) .nil)))) (.cons (.tup (.cons (.c (.str "")) (.cons (.v 2) (.cons (.v 2) .nil)))) .nil)))))))
 (.cons (.set (.n 5) (.op .Add (.v 5) (.lst (.cons (.tup (.cons (.lst .nil) (.cons (.v 2) (.cons (.v 2) .nil)))) (.cons (.tup (.cons (.dic (.cons (.c (.str "box")) .nil) (.cons (.c (.int 1)) .nil)) (.cons (.c (.int 0)) .nil))) (.cons (.tup (.cons (.lst (.cons (.c (.str "number")) .nil)) (.cons (.c (.int 1)) .nil))) (.cons (.tup (.cons (.dic .nil .nil) (.cons (.v 2) (.cons (.v 2) .nil)))) .nil)))))))
 (.cons (.set (.n 6) (.tup (.cons (.c (.str "after")) (.cons (.op .Sub (.v 3) (.c (.int 1))) .nil))))
 (.cons (.iff (.v 4)
  (.cons (.set (.n 5) (.op .Add (.v 5) (.lst (.cons (.v 6) (.cons (.tup (.cons (.c (.str "plus")) (.cons (.v 2) (.cons (.v 6) .nil)))) (.cons (.tup (.cons (.c (.str "minus")) (.cons (.v 6) (.cons (.v 2) .nil)))) (.cons (.tup (.cons (.c (.str "after")) (.cons (.c (.int 0)) .nil))) .nil)))))))
  .nil)
  .nil)
 (.cons (.iff (.cmp .Eq (.op .Mod (.v 0) (.c (.int 3))) (.c (.int 0)))
  (.cons (.ret (.call 10 (.cons (.op .FloorDiv (.v 0) (.c (.int 3))) (.cons (.v 2) .nil))))
  .nil)
  .nil)
 (.cons (.iff (.cmp .Eq (.op .Mod (.v 0) (.c (.int 3))) (.c (.int 1)))
  (.cons (.ret (.call 11 (.cons (.op .FloorDiv (.v 0) (.c (.int 3))) (.cons (.v 3) .nil))))
  .nil)
  .nil)
 (.cons (.ret (.idx (.v 5) (.op .Mod (.op .FloorDiv (.v 0) (.c (.int 3))) (.bi .len (.cons (.v 5) .nil)))))
 .nil)))))))))⟩
def f13:Hp.Fn:=⟨3,5,
 (.cons (.for (.n 3) (.seq (.v 0))
  (.cons (.set (.n 4) (.lst (.cons (.v 1) (.cons (.tup (.cons (.c (.str "not")) (.cons (.v 1) .nil))) (.cons (.tup (.cons (.c (.str "both")) (.cons (.v 2) (.cons (.v 1) .nil)))) (.cons (.tup (.cons (.c (.str "either")) (.cons (.v 1) (.cons (.v 2) .nil)))) .nil))))))
  (.cons (.set (.n 1) (.idx (.op .Add (.v 4) (.lst (.cons (.tup (.cons (.c (.str "both")) (.cons (.v 1) (.cons (.v 1) .nil)))) .nil))) (.op .Mod (.v 3) (.c (.int 5)))))
  .nil)))
 (.cons (.retv 1)
 .nil))⟩
def f14:Hp.Fn:=⟨3,5,
 (.cons (.for (.n 3) (.seq (.v 0))
  (.cons (.set (.n 4) (.lst (.cons (.v 1) (.cons (.tup (.cons (.c (.str "plus")) (.cons (.v 2) (.cons (.v 1) .nil)))) (.cons (.tup (.cons (.c (.str "minus")) (.cons (.v 1) (.cons (.v 2) .nil)))) .nil)))))
  (.cons (.set (.n 1) (.idx (.op .Add (.v 4) (.lst (.cons (.tup (.cons (.c (.str "plus")) (.cons (.v 1) (.cons (.v 1) .nil)))) .nil))) (.op .Mod (.v 3) (.c (.int 4)))))
  .nil)))
 (.cons (.retv 1)
 .nil))⟩
def f15:Hp.Fn:=⟨6,7,
 (.cons (.iff (.an (.v 1) (.cmp .Eq (.op .Mod (.idx (.v 0) (.c (.int 0))) (.c (.int 2))) (.c (.int 0))))
  (.cons (.ret (.call 13 (.cons (.sli (.v 0) (.cons (.c (.int 2)) .nil) (.cons (.c (.int 6)) .nil)) (.cons (.call 9 (.cons (.idx (.v 0) (.c (.int 1))) (.cons (.v 2) (.cons (.v 3) .nil)))) (.cons (.v 2) .nil)))))
  .nil)
  .nil)
 (.cons (.set (.n 6) (.call 12 (.cons (.idx (.v 0) (.c (.int 1))) (.cons (.v 2) (.cons (.v 3) (.cons (.v 4) (.cons (.v 5) .nil)))))))
 (.cons (.set (.n 6) (.call 14 (.cons (.sli (.v 0) (.cons (.c (.int 6)) .nil) (.cons (.c (.int 8)) .nil)) (.cons (.v 6) (.cons (.v 3) .nil)))))
 (.cons (.iff (.nt (.v 1))
  (.cons (.retv 6)
  .nil)
  .nil)
 (.cons (.set (.n 6) (.tup (.cons (.idx (.lst (.cons (.c (.str "is")) (.cons (.c (.str "less")) .nil))) (.op .Mod (.idx (.v 0) (.c (.int 8))) (.c (.int 2)))) (.cons (.v 6) (.cons (.v 3) .nil)))))
 (.cons (.ret (.call 13 (.cons (.sli (.v 0) (.cons (.c (.int 2)) .nil) (.cons (.c (.int 5)) .nil)) (.cons (.v 6) (.cons (.v 2) .nil)))))
 .nil))))))⟩
def f16:Hp.Fn:=⟨3,3,
 (.cons (.iff (.v 1)
  (.cons (.ret (.idx (.lst (.cons (.c .non) (.cons (.tup (.cons (.c (.str "no")) .nil)) (.cons (.tup (.cons (.c (.str "box")) (.cons (.c (.int 0)) .nil))) (.cons (.tup (.cons (.c (.str "not")) .nil)) .nil))))) (.op .Mod (.v 0) (.c (.int 4)))))
  .nil)
  .nil)
 (.cons (.ret (.idx (.lst (.cons (.c .non) (.cons (.tup (.cons (.c (.str "number")) (.cons (.c (.int 100)) .nil))) (.cons (.tup (.cons (.c (.str "box")) (.cons (.v 2) .nil))) (.cons (.tup (.cons (.c (.str "yes")) .nil)) .nil))))) (.op .Mod (.v 0) (.c (.int 4)))))
 .nil))⟩
def f17:Hp.Fn:=⟨3,7,
 (.cons (.set (.n 3) (.op .Add (.c (.int 24)) (.op .Mod (.idx (.v 0) (.c (.int 2))) (.c (.int 20)))))
 (.cons (.iff (.v 1)
  (.cons (.set (.n 4) (.tup (.cons (.c (.str "yes")) .nil)))
  (.cons (.for (.n 5) (.rng (.c (.int 0)) (.op .Sub (.v 3) (.c (.int 1))))
   (.cons (.set (.n 4) (.tup (.cons (.c (.str "not")) (.cons (.v 4) .nil))))
   .nil))
  (.cons (.set (.n 6) (.tup (.cons (.c (.str "either")) (.cons (.v 4) (.cons (.idx (.lst (.cons (.tup (.cons (.c (.str "yes")) .nil)) (.cons (.v 2) .nil))) (.op .Mod (.idx (.v 0) (.c (.int 0))) (.c (.int 2)))) .nil)))))
  .nil)))
  (.cons (.set (.n 4) (.tup (.cons (.c (.str "number")) (.cons (.op .Mod (.idx (.v 0) (.c (.int 3))) (.c (.int 100))) .nil))))
  (.cons (.for (.n 5) (.rng (.c (.int 0)) (.op .FloorDiv (.v 3) (.c (.int 2))))
   (.cons (.set (.n 4) (.tup (.cons (.c (.str "plus")) (.cons (.tup (.cons (.c (.str "box")) (.cons (.c (.int 0)) .nil))) (.cons (.v 4) .nil)))))
   .nil))
  (.cons (.set (.n 3) (.op .Add (.op .Mult (.op .FloorDiv (.v 3) (.c (.int 2))) (.c (.int 2))) (.c (.int 1))))
  (.cons (.set (.n 6) (.tup (.cons (.c (.str "minus")) (.cons (.v 4) (.cons (.idx (.lst (.cons (.tup (.cons (.c (.str "number")) (.cons (.c (.int 99)) .nil))) (.cons (.v 2) .nil))) (.op .Mod (.idx (.v 0) (.c (.int 0))) (.c (.int 2)))) .nil)))))
  .nil)))))
 (.cons (.iff (.cmp .Gt (.op .Add (.v 3) (.c (.int 2))) (.c (.int 40)))
  (.cons (.ret (.tup (.cons (.v 6) (.cons (.c (.str "many")) .nil))))
  .nil)
  .nil)
 (.cons (.ret (.tup (.cons (.v 6) (.cons (.idx (.lst (.cons (.c (.str "told")) (.cons (.c (.str "none")) .nil))) (.op .Mod (.idx (.v 0) (.c (.int 0))) (.c (.int 2)))) .nil))))
 .nil))))⟩
def f18:Hp.Fn:=⟨3,7,
 (.cons (.set (.n 3) (.op .Add (.c (.int 6)) (.op .Mod (.idx (.v 0) (.c (.int 2))) (.c (.int 55)))))
 (.cons (.set (.n 4) (.idx (.lst (.cons (.tup (.cons (.c (.str "box")) (.cons (.c (.int 0)) .nil))) (.cons (.tup (.cons (.c (.str "yes")) .nil)) .nil))) (.bi .int (.cons (.v 1) .nil))))
 (.cons (.iff (.cmp .Eq (.op .Mod (.idx (.v 0) (.c (.int 0))) (.c (.int 2))) (.c (.int 1)))
  (.cons (.mov 4 2)
  .nil)
  .nil)
 (.cons (.set (.n 5) (.idx (.lst (.cons (.lst (.cons (.c (.str "plus")) (.cons (.c (.str "minus")) .nil))) (.cons (.lst (.cons (.c (.str "both")) (.cons (.c (.str "either")) .nil))) .nil))) (.bi .int (.cons (.v 1) .nil))))
 (.cons (.for (.n 6) (.rng (.c (.int 0)) (.v 3))
  (.cons (.set (.n 4) (.tup (.cons (.idx (.v 5) (.op .Mod (.op .FloorDiv (.idx (.v 0) (.c (.int 3))) (.op .Add (.v 6) (.c (.int 1)))) (.c (.int 2)))) (.cons (.v 4) (.cons (.v 4) .nil)))))
  .nil))
 (.cons (.iff (.an (.cmp .Eq (.op .Mod (.idx (.v 0) (.c (.int 0))) (.c (.int 2))) (.c (.int 1))) (.cmp .Lt (.v 3) (.c (.int 40))))
  (.cons (.ret (.tup (.cons (.v 4) (.cons (.c (.str "none")) .nil))))
  .nil)
  .nil)
 (.cons (.ret (.tup (.cons (.v 4) (.cons (.c (.str "many")) .nil))))
 .nil)))))))⟩
def f19:Hp.Fn:=⟨4,8,
 (.cons (.set (.n 4) (.c .non))
 (.cons (.set (.n 5) (.c .non))
 (.cons (.tryAs (.cons (.iff (.v 3)
  (.cons (.set (.n 5) (.call 3 (.cons (.v 0) (.cons (.v 1) (.cons (.v 2) .nil)))))
  .nil)
  (.cons (.set (.n 5) (.call 2 (.cons (.v 0) (.cons (.v 1) (.cons (.v 2) .nil)))))
  .nil))
  .nil) "PromiseError" 4 6)
 (.cons (.iff (.cmp .Is (.v 4) (.c .non))
  (.cons (.ret (.idx (.lst (.cons (.c (.str "other")) (.cons (.c (.str "told")) .nil))) (.bi .int (.cons (.an (.isi (.v 5) [.tTuple]) (.cmp .Eq (.v 5) (.v 1))) .nil))))
  .nil)
  .nil)
 (.cons (.iff (.nt (.isx (.v 4) [.tValueError]))
  (.cons (.ret (.c (.str "other")))
  .nil)
  .nil)
 (.cons (.iff (.isx (.v 4) [.own "NoBoxes",.own "NoHand",.own "NoHouse",.own "NoName",.own "NoPaper"])
  (.cons (.ret (.c (.str "other")))
  .nil)
  .nil)
 (.cons (.iff (.isx (.v 4) [.own "NoProgram",.own "NoRow",.own "NoStart",.own "NoStep",.own "NoText"])
  (.cons (.ret (.c (.str "other")))
  .nil)
  .nil)
 (.cons (.set (.n 7) (.op .Add (.bi .int (.cons (.isx (.v 4) [.own "NoCond"]) .nil)) (.op .Mult (.c (.int 2)) (.bi .int (.cons (.isx (.v 4) [.own "TooMany"]) .nil)))))
 (.cons (.ret (.idx (.lst (.cons (.c (.str "other")) (.cons (.c (.str "none")) (.cons (.c (.str "many")) (.cons (.c (.str "other")) .nil))))) (.v 7)))
 .nil)))))))))⟩
def f20:Hp.Fn:=⟨2,11,
 (.cons (.set (.n 2) (.bi .len (.cons (.v 0) .nil)))
 (.cons (.set (.n 3) (.cmp .Eq (.op .Mod (.idx (.v 1) (.c (.int 9))) (.c (.int 2))) (.c (.int 0))))
 (.cons (.set (.n 4) (.cmp .Gt (.op .Mod (.op .FloorDiv (.idx (.v 1) (.c (.int 9))) (.c (.int 2))) (.c (.int 3))) (.c (.int 0))))
 (.cons (.set (.n 5) (.tup (.cons (.c (.str "box")) (.cons (.op .Mod (.idx (.v 1) (.c (.int 10))) (.v 2)) .nil))))
 (.cons (.set (.n 6) (.tup (.cons (.idx (.lst (.cons (.c (.str "is")) (.cons (.c (.str "less")) .nil))) (.op .Mod (.op .FloorDiv (.idx (.v 1) (.c (.int 10))) (.c (.int 4))) (.c (.int 2)))) (.cons (.v 5) (.cons (.tup (.cons (.c (.str "number")) (.cons (.op .Mod (.op .FloorDiv (.idx (.v 1) (.c (.int 10))) (.c (.int 8))) (.c (.int 100))) .nil))) .nil)))))
 (.cons (.set (.n 7) (.call 15 (.cons (.v 1) (.cons (.v 4) (.cons (.v 6) (.cons (.v 5) (.cons (.v 2) (.cons (.v 3) .nil))))))))
 (.cons (.set (.n 8) (.c (.str "none")))
 (.cons (.set (.n 9) (.call 16 (.cons (.idx (.v 1) (.c (.int 4))) (.cons (.v 4) (.cons (.v 2) .nil)))))
 (.cons (.iff (.cmp .Eq (.op .Mod (.op .FloorDiv (.idx (.v 1) (.c (.int 9))) (.c (.int 6))) (.c (.int 4))) (.c (.int 1)))
  (.cons (.set (.t [7,8]) (.call 17 (.cons (.v 1) (.cons (.v 4) (.cons (.v 9) .nil)))))
  .nil)
  .nil)
 (.cons (.iff (.cmp .Eq (.op .Mod (.op .FloorDiv (.idx (.v 1) (.c (.int 9))) (.c (.int 6))) (.c (.int 4))) (.c (.int 2)))
  (.cons (.set (.t [7,8]) (.call 18 (.cons (.v 1) (.cons (.v 4) (.cons (.v 9) .nil)))))
  .nil)
  .nil)
 (.cons (.iff (.cmp .NotEq (.call 19 (.cons (.v 0) (.cons (.v 7) (.cons (.v 3) (.cons (.v 4) .nil))))) (.v 8))
  (.cons (.ret (.c (.bl false)))
  .nil)
  .nil)
 (.cons (.set (.n 10) (.cmp .Eq (.call 19 (.cons (.v 0) (.cons (.v 6) (.cons (.v 3) (.cons (.c (.bl true)) .nil))))) (.c (.str "told"))))
 (.cons (.ret (.an (.v 10) (.cmp .Eq (.call 19 (.cons (.v 0) (.cons (.v 5) (.cons (.v 3) (.cons (.c (.bl false)) .nil))))) (.c (.str "told")))))
 .nil)))))))))))))⟩
def f21:Hp.Fn:=⟨1,4,
 (.cons (.set (.n 1) (.call 8 (.cons (.call 7 (.cons (.idx (.op .Add (.v 0) (.lst (.cons (.c (.int 0)) .nil))) (.c (.int 0))) (.cons (.c (.int 3)) .nil))) .nil)))
 (.cons (.set (.n 2) (.bi .list (.cons (.v 1) .nil)))
 (.cons (.for (.n 3) (.seq (.op .Add (.sli (.v 0) (.cons (.c (.int 1)) .nil) (.cons (.c (.int 17)) .nil)) (.lst (.cons (.bi .len (.cons (.v 0) .nil)) .nil))))
  (.cons (.iff (.nt (.call 20 (.cons (.v 2) (.cons (.call 7 (.cons (.v 3) (.cons (.c (.int 11)) .nil))) .nil))))
   (.cons (.ret (.c (.bl false)))
   .nil)
   .nil)
  .nil))
 (.cons (.ret (.cmp .Eq (.v 2) (.v 1)))
 .nil))))⟩
def pg:Hp.Pg:=⟨[f0,f1,f2,f3,f4,f5,f6,f7,f8,f9,f10,f11,f12,f13,f14,f15,f16,f17,f18,f19,f20,f21],[("TooMany",[.own "TooMany",.own "PromiseError",.tValueError]),("NoCond",[.own "NoCond",.own "PromiseError",.tValueError]),("PromiseError",[.own "PromiseError",.tValueError])],[[("number",.tup [.str "number"]),("box",.tup [.str "box"]),("after",.tup [.str "box"]),("plus",.tup [.str "sum",.str "sum"]),("minus",.tup [.str "sum",.str "sum"])],[("yes",.tup []),("is",.tup [.str "sum",.str "sum"]),("less",.tup [.str "sum",.str "sum"]),("not",.tup [.str "cond"]),("both",.tup [.str "cond",.str "cond"]),("either",.tup [.str "cond",.str "cond"])]]⟩
end K08
end
noncomputable section
namespace K08
open Hp HpS PySem
abbrev noC:D:=.err "NoCond" []
abbrev aEB:D:=.err "TooMany" []
inductive Rs where
 | ok (m:Nat)|none|many
def Rs.r:Rs->R Rt
 | .ok m=>.ok (.int m,false,false)|.none=>.exc noC|.many=>.exc aEB
def Rs.o(m:Nat)(F:Int->Sg):Rs->O
 | .ok m'=>.next (F m')|.none=>.exc noC (F m)|.many=>.exc aEB (F m)
theorem Rs.run{bs:List D}{pl:Bool}{k:Str}{d:D}{M s m:Nat}{F:Int->Sg}{r:Rs}(h4:∀i,exs pg (call pg M) (F i) (.cons (.retv 4) .nil)=.ret (.cl (.int i)))
 (h:exs pg (call pg M) [.sh true (.lst bs),.sh true (.str k),.sh true d,.sh true (.bl pl),.sh true (.int (s:Int)),.dead,.dead,.dead] f4.body=(r.o m F).on λσ=>exs pg (call pg M) σ (.cons (.retv 4) .nil)) :
 call pg (M+1) 4 [.lst bs,.str k,d,.bl pl,.int s]=r.r:=by
 cases r with
 | ok m'=>exact aL (F:=f4) rfl rfl (v:=.cl (.int (m':Int))) (h.trans (h4 _))
 | none=>exact cC (F:=f4) rfl rfl (x:=noC) h
 | many=>exact cC (F:=f4) rfl rfl (x:=aEB) h
def lV(pl:Bool)(k:Str)(d:D):Prop:=∀n,call pg (n+1) 5 [.str k,d,.bl pl]=.exc noC
def bL(pl:Bool)(k:Str)(d:D)(fm:List Str):Prop:=∀n,call pg (n+1) 5 [.str k,d,.bl pl]=.ok (.tup (fm.map D.str),false,false)
def aCt(bs:List D)(w:Str)(x:D):Prop:=∀n,call pg (n+3) 6 [.lst bs,.str w,x]=.ok (.non,false,false)
def aAc(bs:List D)(w:Str)(x:D):Prop:=∀n,call pg (n+3) 6 [.lst bs,.str w,x]=.exc noC
def Rec(k:Str):Prop:=k = "sum" \/ k = "cond"
def Num(w:Str):Prop:=(w == "sum")=false/\(w == "cond")=false
inductive Lk (bs:List D) (pl:Bool):Str->D->Nat->Rs->Prop
 | many {k d}:Lk bs pl k d 40 .many
 | bad {k d s} (h:s<40) (f:lV pl k d):Lk bs pl k d s .none
 | nul {k w s} (h:s<40) (f:bL pl k (.tup [.str w]) []):Lk bs pl k (.tup [.str w]) s (.ok (s+1))
 | num {k w w1 x s} (h:s<40) (f:bL pl k (.tup [.str w,x]) [w1]) (n:Num w1) (c:aCt bs w1 x):Lk bs pl k (.tup [.str w,x]) s (.ok (s+1))
 | numX {k w w1 x s} (h:s<40) (f:bL pl k (.tup [.str w,x]) [w1]) (n:Num w1) (c:aAc bs w1 x):Lk bs pl k (.tup [.str w,x]) s .none
 | un {k w k1 a s r} (h:s<40) (f:bL pl k (.tup [.str w,a]) [k1]) (n:Rec k1) (l:Lk bs pl k1 a (s+1) r):Lk bs pl k (.tup [.str w,a]) s r
 | twoX {k w k1 a b s r} (h:s<40) (f:bL pl k (.tup [.str w,a,b]) [k1,k1]) (n:Rec k1) (l:Lk bs pl k1 a (s+1) r) (x:∀m,r≠.ok m):Lk bs pl k (.tup [.str w,a,b]) s r
 | two {k w k1 a b s m r} (h:s<40) (f:bL pl k (.tup [.str w,a,b]) [k1,k1]) (n:Rec k1) (l:Lk bs pl k1 a (s+1) (.ok m)) (l2:Lk bs pl k1 b m r):Lk bs pl k (.tup [.str w,a,b]) s r
theorem Lk.le{bs:List D}{pl:Bool}{k:Str}{d:D}{s:Nat}{r:Rs}(h:Lk bs pl k d s r):s<=40/\∀m,r=.ok m->s<m:=by
 induction h with
 | many=>exact⟨Nat.le_refl _,λm z=>nomatch z⟩
 | bad h=>exact⟨by omega,λm z=>nomatch z⟩
 | nul h=>exact⟨by omega,λm z=>by cases z;omega⟩
 | num h=>exact⟨by omega,λm z=>by cases z;omega⟩
 | numX h=>exact⟨by omega,λm z=>nomatch z⟩
 | un h f n l ih=>exact⟨by omega,λm z=>by have:=ih.2 m z;omega⟩
 | twoX h f n l x ih=>exact⟨by omega,λm z=>absurd z (x m)⟩
 | two h f n l l2 ih ih2=>exact⟨by omega,λm z=>by have:=ih.2 _ rfl;have:=ih2.2 m z;omega⟩
theorem kG(i:Nat)(p:Bool)(d:D):Sl.val i (.sh p d)=.ok ⟨d,false,p&&!noL d,[]⟩:=rfl
abbrev lkB:=eU 6 4
abbrev itL:Hp.It:=.zip (.v 5) (.sli (.v 2) (.cons (.c (.int 1)) .nil) .nil)
theorem fG{m:Nat}{bs:List D}{pl:Bool}{k:Str}{d:D}{fm:List Str}{s:Nat}(hs:s<40)(c1:call pg m 5 [.str k,d,.bl pl]=.ok (.tup (fm.map D.str),false,false)){o:O}
 (hfor:ex pg (call pg m) [.sh true (.lst bs),.sh true (.str k),.sh true d,.sh true (.bl pl),.sh false (.int ((s+1:Nat):Int)),.sh false (.tup (fm.map D.str)),.dead,.dead] (.for (.t [6,7]) itL lkB)=o) :
 exs pg (call pg m) [.sh true (.lst bs),.sh true (.str k),.sh true d,.sh true (.bl pl),.sh true (.int (s:Int)),.dead,.dead,.dead] f4.body=o.on λσ=>exs pg (call pg m) σ (.cons (.retv 4) .nil):=by
 have q40:((s:Int)==40)=false:=beq_eq_false_iff_ne.mpr (by omega)
 have e1:((s:Int)+1)=((s+1:Nat):Int):=rfl
 have v2:=kG 2 true d
 show exs pg (call pg m) _ (.cons (.iff (.cmp .Eq (.v 4) (.c (.int 40)))
  (.cons (.rse "TooMany" false (.cons (.c (.str "a condition or sum has at most forty parts")) .nil))
  .nil)
  .nil)
 (.cons (.set (.n 4) (.op .Add (.v 4) (.c (.int 1))))
 (.cons (.set (.n 5) (.call 5 (.cons (.v 1) (.cons (.v 2) (.cons (.v 3) .nil)))))
 (.cons (.for (.t [6,7]) itL lkB)
 (.cons (.retv 4)
 .nil)))))=_
 simp only[aT,bC,cB,cT,fJ,aQ,bH,gS,gZ,sZ,aB,dQ,dN,jE,q40,bF,if_false,aP,zN,cQ,pH,add_int,zU,cL,dJ,fF,lS,lZ,bK,aC,bV,tB,v2,rF,mC,mN,c1,zV,e1,hfor]
theorem iF{P:Pg}{cl:Caller}{s0 s1 s3 s4 s6 s7:Sl}(w:Str)(as:List D)(fm:List Str):∃B,walk P cl [s0,s1,.sh true (.tup (.str w::as)),s3,s4,.sh false (.tup (fm.map D.str)),s6,s7] itL=.ok (items ⟨.non,false,B,[]⟩ (fK (fm.map D.str) as),[]):=by
 have k1:aF 1=true:=by decide
 have hcut:cut (.str w::as) (some 1) none=as:=by
  unfold cut;simp[sIx]
 have hs:∀v:Vl,v.d=.tup (.str w::as)->v.al=[]->cH v (some 1) none=.ok ⟨.tup as,false,v.pa&&!noLs (.str w::as),[]⟩:=by
  intro v h1 h2
  unfold cH
  rw[h1]
  simp only[hcut,h2,ite_self]
 have v2:=kG 2 true (.tup (.str w::as))
 have hs:=hs ⟨.tup (.str w::as),false,true&&!noL (.tup (.str w::as)),[]⟩ rfl rfl
 refine⟨false||((true&&!noL (.tup (.str w::as)))&&!noLs (.str w::as)),?_⟩
 simp only[zS,fJ,aBE,aQ,bH,gS,gZ,v2,dI,aB,dQ,k1,sY,hs]
 rfl
theorem kH(v:Vl)(d:D):∃p,(Vl.sub v d).slot=.sh p d:=by
 unfold Vl.sub
 cases h:noL d with
 | true=>
  refine⟨false,?_⟩
  rw[if_pos rfl,fF]
 | false=>
  refine⟨v.pa,?_⟩
  rw[if_neg bN]
  rfl
theorem aCu(v:Vl)(d:D):(Vl.sub v d).d=d:=by
 unfold Vl.sub;split <;> rfl
theorem lW{s0 s1 s2 s3 s4 s5 s6 s7:Sl}(B:Bool)(w:Str)(a:D):∃p,bM [s0,s1,s2,s3,s4,s5,s6,s7] (Vl.sub ⟨.non,false,B,[]⟩ (.tup [.str w,a])) (.t [6,7])=.ok [s0,s1,s2,s3,s4,s5,.sh false (.str w),.sh p a]:=by
 obtain⟨p,hp⟩:=kH (Vl.sub ⟨.non,false,B,[]⟩ (.tup [.str w,a])) a
 refine⟨p,?_⟩
 unfold bM
 rw[aCu]
 simp only[lC,lN,if_true,List.zip_cons_cons,List.zip_nil_left,List.foldl_cons,List.foldl_nil,tJ (show Hp.noL (.str w)=true from rfl),fF,hp,lS,lZ]
theorem gH{M:Nat}{bs:List D}{s1 s2 s5:Sl}{pl p:Bool}{m:Nat}{w:Str}(hw:Rec w){d:D}{r:Rs}(c1:call pg M 4 [.lst bs,.str w,d,.bl pl,.int m]=r.r) :
 exs pg (call pg M) [.sh true (.lst bs),s1,s2,.sh true (.bl pl),.sh false (.int m),s5,.sh false (.str w),.sh p d] lkB =
  r.o m (λi=>[.sh true (.lst bs),s1,s2,.sh true (.bl pl),.sh false (.int i),s5,.sh false (.str w),.sh p d]):=by
 have t:tst pg (call pg M) [.sh true (.lst bs),s1,s2,.sh true (.bl pl),.sh false (.int m),s5,.sh false (.str w),.sh p d] (.orr (.cmp .Eq (.v 6) (.c (.str "sum"))) (.cmp .Eq (.v 6) (.c (.str "cond"))))=.ok true:=by
  rcases hw with rfl|rfl
  . simp only[nI,cT,fJ,aQ,bH,gS,gZ,dI,aB,dQ,dN,gF,aIQ,if_true]
  . simp only[nI,cT,fJ,aQ,bH,gS,gZ,dI,aB,dQ,dN,gF,aIV,aIW,bF,if_false]
 have e:evs pg (call pg M) [.sh true (.lst bs),s1,s2,.sh true (.bl pl),.sh false (.int m),s5,.sh false (.str w),.sh p d] (.cons (.v 0) (.cons (.v 6) (.cons (.v 7) (.cons (.v 3) (.cons (.v 4) .nil)))))=.ok [⟨.lst bs,false,true,[]⟩,.cl (.str w),⟨d,false,p&&!noL d,[]⟩,.cl (.bl pl),.cl (.int m)]:=by
  simp only[aC,bV,fJ,bH,gS,gZ,gE,dI,rF,kG,aB]
  rfl
 show exs pg (call pg M) _ (eU 6 4)=_
 unfold eU
 rw[aT,cB,t,aP,if_pos rfl,aT,cQ,bK,e,aB]
 show(O.on (O.on (O.from _ (call pg M 4 [.lst bs,.str w,d,.bl pl,.int m] >>= _) _) _) _)=_
 rw[c1]
 cases r <;> rfl
theorem pO{M:Nat}{bs:List D}{s1 s2 s3 s4 s5:Sl}{p:Bool}{w:Str}(hw:Num w){x:D}(b:Bool)(c1:call pg M 6 [.lst bs,.str w,x]=bif b then .ok (.non,false,false) else .exc noC) :
 exs pg (call pg M) [.sh true (.lst bs),s1,s2,s3,s4,s5,.sh false (.str w),.sh p x] lkB =
  bif b then .next [.sh true (.lst bs),s1,s2,s3,s4,s5,.sh false (.str w),.sh p x]
  else .exc noC [.sh true (.lst bs),s1,s2,s3,s4,s5,.sh false (.str w),.sh p x]:=by
 have t:tst pg (call pg M) [.sh true (.lst bs),s1,s2,s3,s4,s5,.sh false (.str w),.sh p x] (.orr (.cmp .Eq (.v 6) (.c (.str "sum"))) (.cmp .Eq (.v 6) (.c (.str "cond"))))=.ok false:=by
  simp only[nI,cT,fJ,aQ,bH,gS,gZ,dI,aB,dQ,dN,gF,hw.1,hw.2,bF,if_false]
 have e:evs pg (call pg M) [.sh true (.lst bs),s1,s2,s3,s4,s5,.sh false (.str w),.sh p x] (.cons (.v 0) (.cons (.v 6) (.cons (.v 7) .nil)))=.ok [⟨.lst bs,false,true,[]⟩,.cl (.str w),⟨x,false,p&&!noL x,[]⟩]:=by
  simp only[aC,bV,fJ,bH,gS,gZ,gE,dI,kG,aB]
  rfl
 show exs pg (call pg M) _ (eU 6 4)=_
 unfold eU
 rw[aT,cB,t,aP,if_neg bN,aT,aAb,bK,e,aB]
 show(O.on (O.on (O.from _ (call pg M 6 [.lst bs,.str w,x] >>= _) _) _) _)=_
 rw[c1]
 cases b <;> rfl
theorem pP{bs:List D}{pl:Bool}{k:Str}{d:D}{s:Nat}{r:Rs}(h:Lk bs pl k d s r):∀M,44<=M+s->call pg M 4 [.lst bs,.str k,d,.bl pl,.int s]=r.r:=by
 induction h with
 | @many k d=>
  intro M hM
  obtain⟨M,rfl⟩:∃m,M=m+1:=⟨M-1,by omega⟩
  refine cC (F:=f4) rfl rfl (σ:=[.sh true (.lst bs),.sh true (.str k),.sh true d,.sh true (.bl pl),.sh true (.int 40),.dead,.dead,.dead]) ?_
  rfl
 | @bad k d s h f=>
  intro M hM
  obtain⟨M,rfl⟩:∃m,M=m+2:=⟨M-2,by omega⟩
  have q40:((s:Int)==40)=false:=beq_eq_false_iff_ne.mpr (by omega)
  refine cC (F:=f4) rfl rfl (σ:=[.sh true (.lst bs),.sh true (.str k),.sh true d,.sh true (.bl pl),.sh false (.int ((s:Int)+1)),.dead,.dead,.dead]) ?_
  show exs pg (call pg (M+1)) [.sh true (.lst bs),.sh true (.str k),.sh true d,.sh true (.bl pl),.sh true (.int (s:Int)),.dead,.dead,.dead] f4.body=_
  unfold f4
  have v2:=kG 2 true d
  simp only[aT,bC,cB,cT,fJ,aQ,bH,gS,gZ,sZ,aB,dQ,dN,jE,q40,bF,if_false,aP,zN,cQ,pH,add_int,zU,cL,dJ,fF,lS,lZ,bK,aC,bV,tB,v2,rF,mC,mN,f M,aBC,aBD,aHg]
 | @nul k w s h f=>
  intro M hM
  obtain⟨M,rfl⟩:∃m,M=m+2:=⟨M-2,by omega⟩
  obtain⟨B,hw⟩:=iF (P:=pg) (cl:=call pg (M+1)) (s0:=.sh true (.lst bs)) (s1:=.sh true (.str k)) (s3:=.sh true (.bl pl)) (s4:=.sh false (.int ((s+1:Nat):Int))) (s6:=.dead) (s7:=.dead) w [] []
  refine aL (F:=f4) rfl rfl (v:=.cl (.int ((s+1:Nat):Int))) ?_
  exact fG (o:=.next [.sh true (.lst bs),.sh true (.str k),.sh true (.tup [.str w]),.sh true (.bl pl),.sh false (.int ((s+1:Nat):Int)),.sh false (.tup []),.dead,.dead]) h (f M) (by rw[fQ,hw];rfl)
 | @num k w w1 x s h f n c=>
  intro M hM
  obtain⟨M,rfl⟩:∃m,M=m+4:=⟨M-4,by omega⟩
  obtain⟨B,hw⟩:=iF (P:=pg) (cl:=call pg (M+3)) (s0:=.sh true (.lst bs)) (s1:=.sh true (.str k)) (s3:=.sh true (.bl pl)) (s4:=.sh false (.int ((s+1:Nat):Int))) (s6:=.dead) (s7:=.dead) w [x] [w1]
  obtain⟨p,hp⟩:=lW (s0:=.sh true (.lst bs)) (s1:=.sh true (.str k)) (s2:=.sh true (.tup [.str w,x])) (s3:=.sh true (.bl pl)) (s4:=.sh false (.int ((s+1:Nat):Int))) (s5:=.sh false (.tup ([w1].map D.str))) (s6:=.dead) (s7:=.dead) B w1 x
  have t:=pO n true (c M) (s1:=.sh true (.str k)) (s2:=.sh true (.tup [.str w,x])) (s3:=.sh true (.bl pl)) (s4:=.sh false (.int ((s+1:Nat):Int))) (s5:=.sh false (.tup ([w1].map D.str))) (p:=p)
  refine aL (F:=f4) rfl rfl (v:=.cl (.int ((s+1:Nat):Int))) ?_
  refine(fG h (f (M+2)) (o:=.next [.sh true (.lst bs),.sh true (.str k),.sh true (.tup [.str w,x]),.sh true (.bl pl),.sh false (.int ((s+1:Nat):Int)),.sh false (.tup ([w1].map D.str)),.sh false (.str w1),.sh p x]) ?_).trans rfl
  rw[fQ,hw,aP,cL]
  show bO _ [Vl.sub ⟨.non,false,B,[]⟩ (.tup [.str w1,x])] _=_
  rw[bO,hp,aP,t]
  rfl
 | @numX k w w1 x s h f n c=>
  intro M hM
  obtain⟨M,rfl⟩:∃m,M=m+4:=⟨M-4,by omega⟩
  obtain⟨B,hw⟩:=iF (P:=pg) (cl:=call pg (M+3)) (s0:=.sh true (.lst bs)) (s1:=.sh true (.str k)) (s3:=.sh true (.bl pl)) (s4:=.sh false (.int ((s+1:Nat):Int))) (s6:=.dead) (s7:=.dead) w [x] [w1]
  obtain⟨p,hp⟩:=lW (s0:=.sh true (.lst bs)) (s1:=.sh true (.str k)) (s2:=.sh true (.tup [.str w,x])) (s3:=.sh true (.bl pl)) (s4:=.sh false (.int ((s+1:Nat):Int))) (s5:=.sh false (.tup ([w1].map D.str))) (s6:=.dead) (s7:=.dead) B w1 x
  have t:=pO n false (c M) (s1:=.sh true (.str k)) (s2:=.sh true (.tup [.str w,x])) (s3:=.sh true (.bl pl)) (s4:=.sh false (.int ((s+1:Nat):Int))) (s5:=.sh false (.tup ([w1].map D.str))) (p:=p)
  refine cC (F:=f4) rfl rfl (x:=noC) (σ:=[.sh true (.lst bs),.sh true (.str k),.sh true (.tup [.str w,x]),.sh true (.bl pl),.sh false (.int ((s+1:Nat):Int)),.sh false (.tup ([w1].map D.str)),.sh false (.str w1),.sh p x]) ?_
  refine(fG h (f (M+2)) (o:=.exc noC [.sh true (.lst bs),.sh true (.str k),.sh true (.tup [.str w,x]),.sh true (.bl pl),.sh false (.int ((s+1:Nat):Int)),.sh false (.tup ([w1].map D.str)),.sh false (.str w1),.sh p x]) ?_).trans rfl
  rw[fQ,hw,aP,cL]
  show bO _ [Vl.sub ⟨.non,false,B,[]⟩ (.tup [.str w1,x])] _=_
  rw[bO,hp,aP,t]
  rfl
 | @un k w k1 a s r h f n l ih=>
  intro M hM
  obtain⟨M,rfl⟩:∃m,M=m+2:=⟨M-2,by omega⟩
  obtain⟨B,hw⟩:=iF (P:=pg) (cl:=call pg (M+1)) (s0:=.sh true (.lst bs)) (s1:=.sh true (.str k)) (s3:=.sh true (.bl pl)) (s4:=.sh false (.int ((s+1:Nat):Int))) (s6:=.dead) (s7:=.dead) w [a] [k1]
  obtain⟨p,hp⟩:=lW (s0:=.sh true (.lst bs)) (s1:=.sh true (.str k)) (s2:=.sh true (.tup [.str w,a])) (s3:=.sh true (.bl pl)) (s4:=.sh false (.int ((s+1:Nat):Int))) (s5:=.sh false (.tup ([k1].map D.str))) (s6:=.dead) (s7:=.dead) B k1 a
  have t:=gH n (ih (M+1) (by omega)) (s1:=.sh true (.str k)) (s2:=.sh true (.tup [.str w,a])) (s5:=.sh false (.tup ([k1].map D.str))) (p:=p)
  have g:∀o,bO (λσ x=>O.from σ (bM σ x (.t [6,7])) λσ'=>exs pg (call pg (M+1)) σ' lkB) [Vl.sub ⟨.non,false,B,[]⟩ (.tup [.str k1,a])] [.sh true (.lst bs),.sh true (.str k),.sh true (.tup [.str w,a]),.sh true (.bl pl),.sh false (.int ((s+1:Nat):Int)),.sh false (.tup ([k1].map D.str)),.dead,.dead]=o ->
   ex pg (call pg (M+1)) [.sh true (.lst bs),.sh true (.str k),.sh true (.tup [.str w,a]),.sh true (.bl pl),.sh false (.int ((s+1:Nat):Int)),.sh false (.tup ([k1].map D.str)),.dead,.dead] (.for (.t [6,7]) itL lkB)=o:=by
   intro o ho
   rw[fQ,hw,aP,cL]
   exact ho
  refine Rs.run (m:=s+1) (F:=λi=>[.sh true (.lst bs),.sh true (.str k),.sh true (.tup [.str w,a]),.sh true (.bl pl),.sh false (.int i),.sh false (.tup ([k1].map D.str)),.sh false (.str k1),.sh p a]) (λ_=>rfl) (fG h (f M) (g _ ?_))
  rw[bO,hp,aP,t]
  cases r <;> rfl
 | @twoX k w k1 a b s r h f n l x ih=>
  intro M hM
  obtain⟨M,rfl⟩:∃m,M=m+2:=⟨M-2,by omega⟩
  obtain⟨B,hw⟩:=iF (P:=pg) (cl:=call pg (M+1)) (s0:=.sh true (.lst bs)) (s1:=.sh true (.str k)) (s3:=.sh true (.bl pl)) (s4:=.sh false (.int ((s+1:Nat):Int))) (s6:=.dead) (s7:=.dead) w [a,b] [k1,k1]
  obtain⟨p,hp⟩:=lW (s0:=.sh true (.lst bs)) (s1:=.sh true (.str k)) (s2:=.sh true (.tup [.str w,a,b])) (s3:=.sh true (.bl pl)) (s4:=.sh false (.int ((s+1:Nat):Int))) (s5:=.sh false (.tup ([k1,k1].map D.str))) (s6:=.dead) (s7:=.dead) B k1 a
  have t:=gH n (ih (M+1) (by omega)) (s1:=.sh true (.str k)) (s2:=.sh true (.tup [.str w,a,b])) (s5:=.sh false (.tup ([k1,k1].map D.str))) (p:=p)
  have g:∀o,bO (λσ x=>O.from σ (bM σ x (.t [6,7])) λσ'=>exs pg (call pg (M+1)) σ' lkB) [Vl.sub ⟨.non,false,B,[]⟩ (.tup [.str k1,a]),Vl.sub ⟨.non,false,B,[]⟩ (.tup [.str k1,b])] [.sh true (.lst bs),.sh true (.str k),.sh true (.tup [.str w,a,b]),.sh true (.bl pl),.sh false (.int ((s+1:Nat):Int)),.sh false (.tup ([k1,k1].map D.str)),.dead,.dead]=o ->
   ex pg (call pg (M+1)) [.sh true (.lst bs),.sh true (.str k),.sh true (.tup [.str w,a,b]),.sh true (.bl pl),.sh false (.int ((s+1:Nat):Int)),.sh false (.tup ([k1,k1].map D.str)),.dead,.dead] (.for (.t [6,7]) itL lkB)=o:=by
   intro o ho
   rw[fQ,hw,aP,cL]
   exact ho
  refine Rs.run (m:=s+1) (F:=λi=>[.sh true (.lst bs),.sh true (.str k),.sh true (.tup [.str w,a,b]),.sh true (.bl pl),.sh false (.int i),.sh false (.tup ([k1,k1].map D.str)),.sh false (.str k1),.sh p a]) (λ_=>rfl) (fG h (f M) (g _ ?_))
  rw[bO,hp,aP,t]
  cases r with
  | ok m=>exact absurd rfl (x m)
  | none=>rfl
  | many=>rfl
 | @two k w k1 a b s m r h f n l l2 ih ih2=>
  intro M hM
  obtain⟨M,rfl⟩:∃m,M=m+2:=⟨M-2,by omega⟩
  have hlt:=l.le.2 m rfl
  obtain⟨B,hw⟩:=iF (P:=pg) (cl:=call pg (M+1)) (s0:=.sh true (.lst bs)) (s1:=.sh true (.str k)) (s3:=.sh true (.bl pl)) (s4:=.sh false (.int ((s+1:Nat):Int))) (s6:=.dead) (s7:=.dead) w [a,b] [k1,k1]
  obtain⟨p,hp⟩:=lW (s0:=.sh true (.lst bs)) (s1:=.sh true (.str k)) (s2:=.sh true (.tup [.str w,a,b])) (s3:=.sh true (.bl pl)) (s4:=.sh false (.int ((s+1:Nat):Int))) (s5:=.sh false (.tup ([k1,k1].map D.str))) (s6:=.dead) (s7:=.dead) B k1 a
  have t:=gH n (ih (M+1) (by omega)) (s1:=.sh true (.str k)) (s2:=.sh true (.tup [.str w,a,b])) (s5:=.sh false (.tup ([k1,k1].map D.str))) (p:=p)
  obtain⟨p2,hp2⟩:=lW (s0:=.sh true (.lst bs)) (s1:=.sh true (.str k)) (s2:=.sh true (.tup [.str w,a,b])) (s3:=.sh true (.bl pl)) (s4:=.sh false (.int (m:Int))) (s5:=.sh false (.tup ([k1,k1].map D.str))) (s6:=.sh false (.str k1)) (s7:=.sh p a) B k1 b
  have t2:=gH n (ih2 (M+1) (by omega)) (s1:=.sh true (.str k)) (s2:=.sh true (.tup [.str w,a,b])) (s5:=.sh false (.tup ([k1,k1].map D.str))) (p:=p2)
  have g:∀o,bO (λσ x=>O.from σ (bM σ x (.t [6,7])) λσ'=>exs pg (call pg (M+1)) σ' lkB) [Vl.sub ⟨.non,false,B,[]⟩ (.tup [.str k1,a]),Vl.sub ⟨.non,false,B,[]⟩ (.tup [.str k1,b])] [.sh true (.lst bs),.sh true (.str k),.sh true (.tup [.str w,a,b]),.sh true (.bl pl),.sh false (.int ((s+1:Nat):Int)),.sh false (.tup ([k1,k1].map D.str)),.dead,.dead]=o ->
   ex pg (call pg (M+1)) [.sh true (.lst bs),.sh true (.str k),.sh true (.tup [.str w,a,b]),.sh true (.bl pl),.sh false (.int ((s+1:Nat):Int)),.sh false (.tup ([k1,k1].map D.str)),.dead,.dead] (.for (.t [6,7]) itL lkB)=o:=by
   intro o ho
   rw[fQ,hw,aP,cL]
   exact ho
  refine Rs.run (m:=m) (F:=λi=>[.sh true (.lst bs),.sh true (.str k),.sh true (.tup [.str w,a,b]),.sh true (.bl pl),.sh false (.int i),.sh false (.tup ([k1,k1].map D.str)),.sh false (.str k1),.sh p2 b]) (λ_=>rfl) (fG h (f M) (g _ ?_))
  rw[bO,hp,aP,t]
  show bO _ _ _=_
  rw[bO,hp2,aP,t2]
  cases r <;> rfl
section
variable {bs:List D} {pl:Bool} {c:Nat}
theorem pQ(i:Bool)(a b:D):bL pl "cond" (.tup [.str (gG i),a,b]) ["sum", "sum"]:=λn=>by cases pl <;> cases i <;> rfl
theorem cE(p:Bool)(a b:D):bL pl "cond" (.tup [.str (lU p),a,b]) ["cond", "cond"]:=λn=>by cases pl <;> cases p <;> rfl
theorem cS(p:Bool)(a b:D):bL pl "sum" (.tup [.str (vD p),a,b]) ["sum", "sum"]:=λn=>by cases pl <;> cases p <;> rfl
theorem tK(a:D):bL pl "cond" (.tup [.str "not",a]) ["cond"]:=λn=>by cases pl <;> rfl
theorem gI(a:D):bL pl "sum" (.tup [.str "number",a]) ["number"]:=λn=>by cases pl <;> rfl
theorem kI(a:D):bL pl "sum" (.tup [.str "box",a]) ["box"]:=λn=>by cases pl <;> rfl
theorem aCv(a:D):bL false "sum" (.tup [.str "after",a]) ["box"]:=λn=>rfl
theorem aHj:bL pl "cond" (.tup [.str "yes"]) []:=λn=>by cases pl <;> rfl
theorem nM:Num "number" := ⟨aIR,aIS⟩
theorem nN:Num "box" := ⟨aIT,aIU⟩
theorem rS:Rec "sum" := .inl rfl
theorem rC:Rec "cond" := .inr rfl
theorem rG{w:Str}{i:Int}(h0:0<=i)(h1:i<=(if w == "number" then 99 else (bs.length:Int)-1)):aCt bs w (.int i):=λn=>aAa (P:=pg) (wh:=0) (wi:=1) rfl rfl rfl n h0 h1
theorem vF(n:Nat)(i b:Int)(h:i<0\/b<i):call pg (n+2) 1 [.int i,.int 0,.int b]=.ok (.bl false,false,false):=by
 refine aL (F:=fWithin 0) rfl rfl (v:=.cl (.bl false)) ?_
 have hw:=pN (P:=pg) (wh:=0) rfl n i
 by_cases h0:0<=i
 . have h1:¬ i<=b:=by omega
   simp[fWithin,bH,hw,h0,h1]
 . simp[fWithin,bH,hw,h0]
theorem cW{w:Str}{i:Int}(h:i<0\/(if w == "number" then 99 else (bs.length:Int)-1)<i):aAc bs w (.int i):=λn=>by
 have c1:=vF n i _ h
 cases q:w == "number" with
 | true=>
  rw[q,if_pos rfl] at c1
  refine cC (F:=fCheck 1) rfl rfl (σ:=[.sh true (.lst bs),.sh true (.str w),.sh true (.int i),.sh false (.int 99)]) ?_
  simp[fCheck,bH,q,c1]
 | false=>
  rw[q,if_neg bN] at c1
  refine cC (F:=fCheck 1) rfl rfl (σ:=[.sh true (.lst bs),.sh true (.str w),.sh true (.int i),.sh false (.int ((bs.length:Int)-1))]) ?_
  simp[fCheck,bH,q,c1]
theorem tL:(("number" : Str) == "number")=true:=by decide +kernel
theorem tM:(("box" : Str) == "number")=false:=by decide +kernel
theorem lkS(hc:bs.length=c):∀(s:Sm) (n m:Nat),s.wf c pl->m=n+s.sz->m<=40->Lk bs pl "sum" s.d n (.ok m)
 | .num k,n,m,w,e,h=>by
  have e:m=n+1:=e
  subst e
  exact .num (by omega) (gI _) nM (rG w.1 (by rw[tL];exact w.2))
 | .box k,n,m,w,e,h=>by
  have e:m=n+1:=e
  subst e
  exact .num (by omega) (kI _) nN (rG (Int.natCast_nonneg _) (by have w:k<c:=w;rw[tM,if_neg bN];omega))
 | .aft k,n,m,w,e,h=>by
  have e:m=n+1:=e
  subst e
  obtain⟨w1,rfl⟩:k<c/\pl=false:=w
  exact .num (by omega) (aCv _) nN (rG (Int.natCast_nonneg _) (by rw[tM,if_neg bN];omega))
 | .two p a b,n,m,w,e,h=>by
  have e:m=n+(1+a.sz+b.sz):=e
  exact .two (by omega) (cS p _ _) rS (lkS hc a (n+1) (n+1+a.sz) w.1 rfl (by omega)) (lkS hc b _ m w.2 (by omega) h)
theorem lkC(hc:bs.length=c):∀(s:Cn) (n m:Nat),s.wf c pl->m=n+s.sz->m<=40->Lk bs pl "cond" s.d n (.ok m)
 | .yes,n,m,w,e,h=>by
  have e:m=n+1:=e
  subst e
  exact .nul (by omega) aHj
 | .cmp p a b,n,m,w,e,h=>by
  have e:m=n+(1+a.sz+b.sz):=e
  exact .two (by omega) (pQ p _ _) rS (lkS hc a (n+1) (n+1+a.sz) w.1 rfl (by omega)) (lkS hc b _ m w.2 (by omega) h)
 | .nt x,n,m,w,e,h=>by
  have e:m=n+(1+x.sz):=e
  exact .un (by omega) (tK _) rC (lkC hc x (n+1) m w (by omega) h)
 | .two p a b,n,m,w,e,h=>by
  have e:m=n+(1+a.sz+b.sz):=e
  exact .two (by omega) (cE p _ _) rC (lkC hc a (n+1) (n+1+a.sz) w.1 rfl (by omega)) (lkC hc b _ m w.2 (by omega) h)
theorem lX(hc:bs.length=c):∀(s:Sm) (n:Nat),s.wf c pl->n<=40->40<n+s.sz->Lk bs pl "sum" s.d n .many
 | .num k,n,w,h,h2=>by
  have h2:40<n+1:=h2
  obtain rfl:n=40:=by omega
  exact .many
 | .box k,n,w,h,h2=>by
  have h2:40<n+1:=h2
  obtain rfl:n=40:=by omega
  exact .many
 | .aft k,n,w,h,h2=>by
  have h2:40<n+1:=h2
  obtain rfl:n=40:=by omega
  exact .many
 | .two p a b,n,w,h,h2=>by
  have h2:40<n+(1+a.sz+b.sz):=h2
  by_cases q:n=40
  . subst q;exact .many
  . by_cases q2:40<n+1+a.sz
    . exact .twoX (by omega) (cS p _ _) rS (lX hc a (n+1) w.1 (by omega) q2) (λ_ z=>nomatch z)
    . exact .two (by omega) (cS p _ _) rS (lkS hc a (n+1) _ w.1 rfl (by omega)) (lX hc b _ w.2 (by omega) (by omega))
theorem pR(hc:bs.length=c):∀(s:Cn) (n:Nat),s.wf c pl->n<=40->40<n+s.sz->Lk bs pl "cond" s.d n .many
 | .yes,n,w,h,h2=>by
  have h2:40<n+1:=h2
  obtain rfl:n=40:=by omega
  exact .many
 | .cmp p a b,n,w,h,h2=>by
  have h2:40<n+(1+a.sz+b.sz):=h2
  by_cases q:n=40
  . subst q;exact .many
  . by_cases q2:40<n+1+a.sz
    . exact .twoX (by omega) (pQ p _ _) rS (lX hc a (n+1) w.1 (by omega) q2) (λ_ z=>nomatch z)
    . exact .two (by omega) (pQ p _ _) rS (lkS hc a (n+1) _ w.1 rfl (by omega)) (lX hc b _ w.2 (by omega) (by omega))
 | .nt x,n,w,h,h2=>by
  have h2:40<n+(1+x.sz):=h2
  by_cases q:n=40
  . subst q;exact .many
  . exact .un (by omega) (tK _) rC (pR hc x (n+1) w (by omega) (by omega))
 | .two p a b,n,w,h,h2=>by
  have h2:40<n+(1+a.sz+b.sz):=h2
  by_cases q:n=40
  . subst q;exact .many
  . by_cases q2:40<n+1+a.sz
    . exact .twoX (by omega) (cE p _ _) rC (pR hc a (n+1) w.1 (by omega) q2) (λ_ z=>nomatch z)
    . exact .two (by omega) (cE p _ _) rC (lkC hc a (n+1) _ w.1 rfl (by omega)) (pR hc b _ w.2 (by omega) (by omega))
def NB(bs:List D)(pl:Bool)(k:Str)(d:D)(m:Nat):Prop:=∀s,s+m<=40->Lk bs pl k d s .none
def iW(bs:List D)(pl:Bool)(k:Str)(d:D)(z:Nat):Prop:=∀s,s+z<=40->Lk bs pl k d s (.ok (s+z))
theorem NB.mono{k:Str}{d:D}{m m':Nat}(h:NB bs pl k d m)(l:m<=m'):NB bs pl k d m':=λs hs=>h s (by omega)
theorem NB.bad{k:Str}{d:D}(f:lV pl k d):NB bs pl k d 1:=λs hs=>.bad (by omega) f
theorem NB.numX{k w w1:Str}{x:D}(f:bL pl k (.tup [.str w,x]) [w1])(n:Num w1)(c:aAc bs w1 x):NB bs pl k (.tup [.str w,x]) 1:=λs hs=>.numX (by omega) f n c
theorem NB.un{k w k1:Str}{a:D}{m:Nat}(f:bL pl k (.tup [.str w,a]) [k1])(n:Rec k1)(h:NB bs pl k1 a m):NB bs pl k (.tup [.str w,a]) (m+1):=λs hs=>.un (by omega) f n (h (s+1) (by omega))
theorem NB.one{k w k1:Str}{a b:D}{m:Nat}(f:bL pl k (.tup [.str w,a,b]) [k1,k1])(n:Rec k1)(h:NB bs pl k1 a m):NB bs pl k (.tup [.str w,a,b]) (m+1):=λs hs=>.twoX (by omega) f n (h (s+1) (by omega)) (λ_ z=>nomatch z)
theorem NB.two{k w k1:Str}{a b:D}{z m:Nat}(f:bL pl k (.tup [.str w,a,b]) [k1,k1])(n:Rec k1)(g:iW bs pl k1 a z)(h:NB bs pl k1 b m):NB bs pl k (.tup [.str w,a,b]) (m+1+z):=λs hs=>.two (by omega) f n (g (s+1) (by omega)) (h (s+1+z) (by omega))
theorem okS(hc:bs.length=c){s:Sm}(w:s.wf c pl):iW bs pl "sum" s.d s.sz:=λn h=>lkS hc s n _ w rfl h
theorem okC(hc:bs.length=c){s:Cn}(w:s.wf c pl):iW bs pl "cond" s.d s.sz:=λn h=>lkC hc s n _ w rfl h
end
def sD(k:Nat):D:=.tup [.str "box",.int (k:Int)]
def cD(i:Bool)(k:Nat)(m:Int):D:=.tup [.str (gG i),sD k,.tup [.str "number",.int m]]
theorem jF{v:Vl}{ds:List D}(hv:v.d=.lst ds){j:Nat}(hj:j<ds.length):eE v (.cl (.int (j:Int)))=.ok (v.sub ds[j]):=by
 unfold eE
 rw[hv]
 have hx:ixN ds.length (j:Int)=some j:=tG hj
 simp only[dQ,hx,List.getElem?_eq_getElem hj]
theorem bB{P:Pg}{cl:Caller}{σ:Sg}{i:Nat}{L A:List D}{e:E}(h:σ[i]? = some (.own false L))(he:ev P cl σ e=.ok ⟨.lst A,true,false,[]⟩)(hl:L.length+A.length<=1000) :
 ex P cl σ (.set (.n i) (.op .Add (.v i) e))=.next (σ.set i (.own false (L++A))):=by
 have hd:decide (L.length+A.length<=lim)=true:=decide_eq_true (by unfold lim;omega)
 have e1:opD .Add ⟨.lst L,false,false,[i]⟩ ⟨.lst A,true,false,[]⟩=.ok ⟨.lst (L++A),true,false,(if noLs L then [] else [i])++(if noLs A then [] else [])⟩:=by
  show R.iff (decide (L.length+A.length<=lim)) _=_
  rw[hd]
  rfl
 have e2:∀al,al=[]\/al=[i]->(freeze σ al).set i (.own false (L++A))=σ.set i (.own false (L++A)):=by
  rintro al (rfl|rfl)
  . rfl
  . show(freeze σ [i]).set i _=_
    simp only[freeze,h,List.set_set]
 have e3:(if noLs L then [] else [i])++(if noLs A then [] else [])=([]:List Nat)\/(if noLs L then [] else [i])++(if noLs A then [] else [])=[i]:=by
  cases noLs L <;> cases noLs A <;> simp
 rw[cQ,pH,fJ,bH,h]
 show O.from σ (R.ok (⟨.lst L,false,false,[i]⟩:Vl) >>= _) _=_
 rw[aB,he,aB,e1,aP,dJ,aP]
 exact congrArg O.next (e2 _ e3)
theorem aBG{P:Pg}{cl:Caller}{σ:Sg}{i:Nat}{L:List D}{e:E}{x:Int}(h:σ[i]? = some (.own false L))(he:ev P cl σ e=.ok (.cl (.int x)))(hl:0<L.length) :
 ∃j,∃hj:j<L.length,exs P cl σ (.cons (.ret (.idx (.v i) (.op .Mod e (.bi .len (.cons (.v i) .nil))))) .nil)=.ret (Vl.sub ⟨.lst L,false,false,[i]⟩ L[j]):=by
 have h0:0<=x % (L.length:Int):=Int.emod_nonneg _ (by omega)
 have h1:x % (L.length:Int)<(L.length:Int):=Int.emod_lt_of_pos _ (by omega)
 obtain⟨j,hj⟩:∃j:Nat,x % (L.length:Int)=j:=⟨(x % (L.length:Int)).toNat,by omega⟩
 have hj':j<L.length:=by omega
 have v:ev P cl σ (.v i)=.ok ⟨.lst L,false,false,[i]⟩:=by rw[fJ,bH,h];rfl
 have m1:opD .Mod (.cl (.int x)) (.cl (.int (L.length:Int)))=.ok (.cl (.int (j:Int))):=by rw[aX (by omega),hj]
 exact⟨j,hj',dE (kF v (aW he (zY v (tD ..)) m1) (jF rfl hj'))⟩
theorem fH{P:Pg}{n f:Nat}{F:Fn}{ds:List D}{w:Vl}{d:D}(hF:P.fns[f]? = some F)(hl:ds.length=F.np)(hw:w.pa=false)
 (h:exs P (call P n) ((ds.map λd=>Sl.sh true d)++List.replicate (F.ns-F.np) Sl.dead) F.body=.ret (Vl.sub w d)):call P (n+1) f ds=.ok (d,false,false):=by
 have e:=aL hF hl h
 have:((Vl.sub w d).d,(Vl.sub w d).fr,(Vl.sub w d).pa)=(d,false,false):=by
  unfold Vl.sub
  split
  . rfl
  . show(d,false,w.pa)=_;rw[hw]
 rw[this] at e
 exact e
def cA1:List D:=[.non,.int 7,.bl true,.str "yes",.lst [],.tup [],.tup [.str "yes",.int 1],.tup [.str "no"],.lst [.str "yes"],.tup [.str "Yes"]]
def cA2(cd sd:D):List D:=[.tup [.tup [.str "yes"]],.tup [.non,cd],sd,.tup [.str "is",sd],.tup [.str "is",sd,sd,sd]]
def cA3(cd sd:D):List D:=[.tup [.str "less",sd,cd],.tup [.str "is",cd,sd],.tup [.str "not"],.tup [.str "",cd],.tup [.str "not",cd,cd]]
def cA4(cd sd:D):List D:=[.tup [.str "not",sd],.tup [.str "both",cd],.tup [.str "either",cd,sd],.tup [.str "both",sd,cd]]
def cA5(cd sd:D):List D:=[.tup [.str "either",cd,cd,cd],.tup [.str "and",cd,cd],.tup [.str "plus",sd,sd],.dic [(.str "yes",.int 1)]]
def cA6(cd sd:D):List D:=[.tup [.str "both",cd,.non],.tup [.str "both",.non,cd],.tup [.str "is",sd,.int 3],.tup [.str "less",.int 0,sd]]
def cA7(cd sd:D):List D:=[.tup [.lst [],cd],.tup [.dic [(.str "is",.int 1)],sd,sd],.tup [.lst [.str "yes"]],.tup [.dic [],cd,cd],.tup [.bl true]]
def lY(cd sd:D):List D:=cA1++cA2 cd sd++cA3 cd sd++cA4 cd sd++cA5 cd sd++cA6 cd sd++cA7 cd sd
theorem rH(n:Nat)(x:Int)(i:Bool)(k:Nat)(m:Int):∃j,∃hj:j<(lY (cD i k m) (sD k)).length,call pg (n+1) 9 [.int x,cD i k m,sD k]=.ok ((lY (cD i k m) (sD k))[j],false,false):=by
 obtain⟨j,hj,e⟩:=aBG (P:=pg) (cl:=call pg n) (σ:=[.sh true (.int x),.sh true (cD i k m),.sh true (sD k),.own false (lY (cD i k m) (sD k))]) (i:=3) (e:=.v 0) (x:=x) rfl rfl (by show 0<37;decide)
 refine⟨j,hj,fH (F:=f9) rfl rfl (w:=⟨.lst (lY (cD i k m) (sD k)),false,false,[3]⟩) rfl ?_⟩
 refine cs (σ':=[.sh true (.int x),.sh true (cD i k m),.sh true (sD k),.own false cA1]) rfl ?_
 refine cs (bB (A:=cA2 (cD i k m) (sD k)) rfl rfl (show 10+5<=1000 by decide)) ?_
 refine cs (bB (A:=cA3 (cD i k m) (sD k)) rfl rfl (show 15+5<=1000 by decide)) ?_
 refine cs (bB (A:=cA4 (cD i k m) (sD k)) rfl rfl (show 20+4<=1000 by decide)) ?_
 refine cs (bB (A:=cA5 (cD i k m) (sD k)) rfl rfl (show 24+4<=1000 by decide)) ?_
 refine cs (bB (A:=cA6 (cD i k m) (sD k)) rfl rfl (show 28+4<=1000 by decide)) ?_
 exact cs (bB (A:=cA7 (cD i k m) (sD k)) rfl rfl (show 32+5<=1000 by decide)) e
theorem al0{p:D->Prop}:∀d∈([]:List D),p d:=λ_ h=>nomatch h
theorem al1{p:D->Prop}{a:D}{l:List D}(h:p a)(r:∀d∈l,p d):∀d∈a::l,p d:=List.forall_mem_cons.mpr ⟨h,r⟩
section
variable {bs:List D} {pl:Bool} {c:Nat} (hc:bs.length=c) {i:Bool} {k:Nat} {m:Int} (hk:k<c) (hm:0<=m/\m<=99)
include hc hk hm
theorem aBH:∀d∈cA1,NB bs pl "cond" d 5:=by
 exact(al1 ((NB.bad (λn=>by cases pl <;> rfl)).mono (by decide))
  (al1 ((NB.bad (λn=>by cases pl <;> rfl)).mono (by decide))
  (al1 ((NB.bad (λn=>by cases pl <;> rfl)).mono (by decide))
  (al1 ((NB.bad (λn=>by cases pl <;> rfl)).mono (by decide))
  (al1 ((NB.bad (λn=>by cases pl <;> rfl)).mono (by decide))
  (al1 ((NB.bad (λn=>by cases pl <;> rfl)).mono (by decide))
  (al1 ((NB.bad (λn=>by cases pl <;> rfl)).mono (by decide))
  (al1 ((NB.bad (λn=>by cases pl <;> rfl)).mono (by decide))
  (al1 ((NB.bad (λn=>by cases pl <;> rfl)).mono (by decide))
  (al1 ((NB.bad (λn=>by cases pl <;> rfl)).mono (by decide))
  al0))))))))))
theorem aBI:∀d∈cA2 (cD i k m) (sD k),NB bs pl "cond" d 5:=by
 exact(al1 ((NB.bad (λn=>by cases pl <;> rfl)).mono (by decide))
  (al1 ((NB.bad (λn=>by cases pl <;> rfl)).mono (by decide))
  (al1 ((NB.bad (λn=>by cases pl <;> rfl)).mono (by decide))
  (al1 ((NB.bad (λn=>by cases pl <;> rfl)).mono (by decide))
  (al1 ((NB.bad (λn=>by cases pl <;> rfl)).mono (by decide))
  al0)))))
theorem aBJ:∀d∈cA3 (cD i k m) (sD k),NB bs pl "cond" d 5:=by
 have oS:iW bs pl "sum" (sD k) 1:=okS hc (s:=.box k) hk
 exact(al1 ((NB.two (pQ false _ _) rS oS (NB.bad (λn=>by cases pl <;> cases i <;> rfl))).mono (by decide))
  (al1 ((NB.one (pQ true _ _) rS (NB.bad (λn=>by cases pl <;> cases i <;> rfl))).mono (by decide))
  (al1 ((NB.bad (λn=>by cases pl <;> rfl)).mono (by decide))
  (al1 ((NB.bad (λn=>by cases pl <;> rfl)).mono (by decide))
  (al1 ((NB.bad (λn=>by cases pl <;> rfl)).mono (by decide))
  al0)))))
theorem aBK:∀d∈cA4 (cD i k m) (sD k),NB bs pl "cond" d 5:=by
 have oC:iW bs pl "cond" (cD i k m) 3:=okC hc (s:=.cmp i (.box k) (.num m)) ⟨hk,hm⟩
 exact(al1 ((NB.un (tK _) rC (NB.bad (λn=>by cases pl <;> rfl))).mono (by decide))
  (al1 ((NB.bad (λn=>by cases pl <;> rfl)).mono (by decide))
  (al1 ((NB.two (cE false _ _) rC oC (NB.bad (λn=>by cases pl <;> rfl))).mono (by decide))
  (al1 ((NB.one (cE true _ _) rC (NB.bad (λn=>by cases pl <;> rfl))).mono (by decide))
  al0))))
theorem aBL:∀d∈cA5 (cD i k m) (sD k),NB bs pl "cond" d 5:=by
 exact(al1 ((NB.bad (λn=>by cases pl <;> rfl)).mono (by decide))
  (al1 ((NB.bad (λn=>by cases pl <;> rfl)).mono (by decide))
  (al1 ((NB.bad (λn=>by cases pl <;> rfl)).mono (by decide))
  (al1 ((NB.bad (λn=>by cases pl <;> rfl)).mono (by decide))
  al0))))
theorem aBM:∀d∈cA6 (cD i k m) (sD k),NB bs pl "cond" d 5:=by
 have oS:iW bs pl "sum" (sD k) 1:=okS hc (s:=.box k) hk
 have oC:iW bs pl "cond" (cD i k m) 3:=okC hc (s:=.cmp i (.box k) (.num m)) ⟨hk,hm⟩
 exact(al1 ((NB.two (cE true _ _) rC oC (NB.bad (λn=>by cases pl <;> rfl))).mono (by decide))
  (al1 ((NB.one (cE true _ _) rC (NB.bad (λn=>by cases pl <;> rfl))).mono (by decide))
  (al1 ((NB.two (pQ true _ _) rS oS (NB.bad (λn=>by cases pl <;> rfl))).mono (by decide))
  (al1 ((NB.one (pQ false _ _) rS (NB.bad (λn=>by cases pl <;> rfl))).mono (by decide))
  al0))))
theorem aBN:∀d∈cA7 (cD i k m) (sD k),NB bs pl "cond" d 5:=by
 exact(al1 ((NB.bad (λn=>by cases pl <;> rfl)).mono (by decide))
  (al1 ((NB.bad (λn=>by cases pl <;> rfl)).mono (by decide))
  (al1 ((NB.bad (λn=>by cases pl <;> rfl)).mono (by decide))
  (al1 ((NB.bad (λn=>by cases pl <;> rfl)).mono (by decide))
  (al1 ((NB.bad (λn=>by cases pl <;> rfl)).mono (by decide))
  al0)))))
theorem vG{d:D}(h:d∈lY (cD i k m) (sD k)):NB bs pl "cond" d 5:=by
 unfold lY at h
 rcases List.mem_append.mp h with h|h
 . rcases List.mem_append.mp h with h|h
   . rcases List.mem_append.mp h with h|h
     . rcases List.mem_append.mp h with h|h
       . rcases List.mem_append.mp h with h|h
         . rcases List.mem_append.mp h with h|h
           . exact aBH hc hk hm d h
           . exact aBI hc hk hm d h
         . exact aBJ hc hk hm d h
       . exact aBK hc hk hm d h
     . exact aBL hc hk hm d h
   . exact aBM hc hk hm d h
 . exact aBN hc hk hm d h
end
def nA1:List D:=[.tup [.str "number"],.tup [.str "number",.int (-1)],.tup [.str "number",.int 100],.tup [.str "number",.bl true]]
def nA2(x:Int):List D:=[.tup [.str "number",.int (10 ^ 59+x)],.tup [.str "number",.str "1"],.tup [.str "number",.int 1,.int 1]]
def nA3:List D:=[.tup [.str "number",.tup [.int 1]],.tup [.str "number",.non],.tup [.str "Number",.int 1],.tup [.int 0,.int 1],.tup [.str "box"]]
def rJ(x:Int):List D:=nA1++nA2 x++nA3
theorem aCw:opD .Pow (.cl (.int 10)) (.cl (.int 59))=.ok (.cl (.int (10 ^ 59))):=by
 have:rV 10 59=true:=by decide +kernel
 show R.iff (rV 10 59) (R.ok (Vl.cl (.int (10 ^ (59:Int).toNat))))=_
 rw[this]
 rfl
theorem vH(n:Nat)(x:Int)(k:Nat):∃j,∃hj:j<(rJ x).length,call pg (n+1) 10 [.int x,sD k]=.ok ((rJ x)[j],false,false):=by
 obtain⟨j,hj,e⟩:=aBG (P:=pg) (cl:=call pg n) (σ:=[.sh true (.int x),.sh true (sD k),.own false (rJ x)]) (i:=2) (e:=.v 0) (x:=x) rfl rfl (by show 0<12;decide)
 have e2:ev pg (call pg n) [.sh true (.int x),.sh true (sD k),.own false nA1] (.lst (.cons (.tup (.cons (.c (.str "number")) (.cons (.op .Add (.op .Pow (.c (.int 10)) (.c (.int 59))) (.v 0)) .nil))) (.cons (.tup (.cons (.c (.str "number")) (.cons (.c (.str "1")) .nil))) (.cons (.tup (.cons (.c (.str "number")) (.cons (.c (.int 1)) (.cons (.c (.int 1)) .nil)))) .nil))))=.ok ⟨.lst (nA2 x),true,false,[]⟩:=by
  have z:ev pg (call pg n) [.sh true (.int x),.sh true (sD k),.own false nA1] (.op .Add (.op .Pow (.c (.int 10)) (.c (.int 59))) (.v 0))=.ok (.cl (.int (10 ^ 59+x))):=aW (aW rfl rfl aCw) rfl (add_int _ _)
  simp only[kE,aC,bV,dC,aQ,z,aB]
  rfl
 refine⟨j,hj,fH (F:=f10) rfl rfl (w:=⟨.lst (rJ x),false,false,[2]⟩) rfl ?_⟩
 refine cs (σ':=[.sh true (.int x),.sh true (sD k),.own false nA1]) rfl ?_
 refine cs (bB (A:=nA2 x) rfl e2 (show 4+3<=1000 by decide)) ?_
 exact cs (bB (A:=nA3) rfl rfl (show 7+5<=1000 by decide)) e
theorem aAd{bs:List D}{pl:Bool}{x:Int}(hx:0<=x):∀(j:Nat) (hj:j<(rJ x).length),NB bs pl "sum" (rJ x)[j] 1:=by
 have p59:(100:Int)<=10 ^ 59:=by decide
 exact λj hj=>match j,hj with
 | 0,_=>NB.bad (λn=>by cases pl <;> rfl)
 | 1,_=>NB.numX (gI _) nM (cW (.inl (by decide)))
 | 2,_=>NB.numX (gI _) nM (cW (.inr (by rw[tL,if_pos rfl];decide)))
 | 3,_=>NB.numX (gI _) nM (λn=>rfl)
 | 4,_=>NB.numX (gI _) nM (cW (.inr (by rw[tL,if_pos rfl];omega)))
 | 5,_=>NB.numX (gI _) nM (λn=>rfl)
 | 6,_=>NB.bad (λn=>by cases pl <;> rfl)
 | 7,_=>NB.numX (gI _) nM (λn=>rfl)
 | 8,_=>NB.numX (gI _) nM (λn=>rfl)
 | 9,_=>NB.bad (λn=>by cases pl <;> rfl)
 | 10,_=>NB.bad (λn=>by cases pl <;> rfl)
 | 11,_=>NB.bad (λn=>by cases pl <;> rfl)
 | j+12,hj=>absurd hj (by show ¬ j+12<12;omega)
def bA1(c:Nat):List D:=[.tup [.str "box"],.tup [.str "box",.int (-1)],.tup [.str "box",.int (c:Int)],.tup [.str "box",.bl true],.tup [.str "box",.non]]
def bA2(c:Nat):List D:=[.tup [.str "box",.int 0,.int 0],.tup [.str "box",.int (0-10 ^ 59)],.tup [.str "after",.int (c:Int)]]
def bA3:List D:=[.tup [.str "after",.int (-1)],.tup [.str "after",.bl false],.tup [.str "after"],.tup [.str "Box",.int 0],.lst [.str "box",.int 0]]
def rK(c:Nat):List D:=bA1 c++bA2 c++bA3
theorem vI(n:Nat)(x:Int)(c:Nat):∃j,∃hj:j<(rK c).length,call pg (n+1) 11 [.int x,.int (c:Int)]=.ok ((rK c)[j],false,false):=by
 obtain⟨j,hj,e⟩:=aBG (P:=pg) (cl:=call pg n) (σ:=[.sh true (.int x),.sh true (.int (c:Int)),.own false (rK c)]) (i:=2) (e:=.v 0) (x:=x) rfl rfl (by show 0<13;decide)
 have e2:ev pg (call pg n) [.sh true (.int x),.sh true (.int (c:Int)),.own false (bA1 c)] (.lst (.cons (.tup (.cons (.c (.str "box")) (.cons (.c (.int 0)) (.cons (.c (.int 0)) .nil)))) (.cons (.tup (.cons (.c (.str "box")) (.cons (.op .Sub (.c (.int 0)) (.op .Pow (.c (.int 10)) (.c (.int 59)))) .nil))) (.cons (.tup (.cons (.c (.str "after")) (.cons (.v 1) .nil))) .nil))))=.ok ⟨.lst (bA2 c),true,false,[]⟩:=by
  have z:ev pg (call pg n) [.sh true (.int x),.sh true (.int (c:Int)),.own false (bA1 c)] (.op .Sub (.c (.int 0)) (.op .Pow (.c (.int 10)) (.c (.int 59))))=.ok (.cl (.int (0-10 ^ 59))):=aW rfl (aW rfl rfl aCw) (sub_int _ _)
  simp only[kE,aC,bV,dC,aQ,z,aB]
  rfl
 refine⟨j,hj,fH (F:=f11) rfl rfl (w:=⟨.lst (rK c),false,false,[2]⟩) rfl ?_⟩
 refine cs (σ':=[.sh true (.int x),.sh true (.int (c:Int)),.own false (bA1 c)]) rfl ?_
 refine cs (bB (A:=bA2 c) rfl e2 (show 5+3<=1000 by decide)) ?_
 exact cs (bB (A:=bA3) rfl rfl (show 8+5<=1000 by decide)) e
theorem nO{bs:List D}{pl:Bool}{x:D}(h:aAc bs "box" x):NB bs pl "sum" (.tup [.str "after",x]) 1:=by
 cases pl with
 | true=>exact NB.bad (λn=>rfl)
 | false=>exact NB.numX (aCv _) nN h
theorem aAe{bs:List D}{pl:Bool}{c:Nat}(hc:bs.length=c):∀(j:Nat) (hj:j<(rK c).length),NB bs pl "sum" (rK c)[j] 1:=by
 have p59:(100:Int)<=10 ^ 59:=by decide
 have hout:aAc bs "box" (.int (c:Int)):=cW (.inr (by rw[tM,if_neg bN];omega))
 exact λj hj=>match j,hj with
 | 0,_=>NB.bad (λn=>by cases pl <;> rfl)
 | 1,_=>NB.numX (kI _) nN (cW (.inl (by decide)))
 | 2,_=>NB.numX (kI _) nN hout
 | 3,_=>NB.numX (kI _) nN (λn=>rfl)
 | 4,_=>NB.numX (kI _) nN (λn=>rfl)
 | 5,_=>NB.bad (λn=>by cases pl <;> rfl)
 | 6,_=>NB.numX (kI _) nN (cW (.inl (by omega)))
 | 7,_=>nO hout
 | 8,_=>nO (cW (.inl (by decide)))
 | 9,_=>nO (λn=>rfl)
 | 10,_=>NB.bad (λn=>by cases pl <;> rfl)
 | 11,_=>NB.bad (λn=>by cases pl <;> rfl)
 | 12,_=>NB.bad (λn=>by cases pl <;> rfl)
 | j+13,hj=>absurd hj (by show ¬ j+13<13;omega)
def drp:Nat->Ss->Ss
 | 0,ss=>ss
 | _+1,.nil=>.nil
 | n+1,.cons _ ss=>drp n ss
theorem kJ{P:Pg}{cl:Caller}{σ:Sg}{a:E}{i j:Int}{b:Bool}(h:ev P cl σ a=.ok (.cl (.int i)))(q:(i==j)=b):tst P cl σ (.cmp .Eq a (.c (.int j)))=.ok b:=by
 rw[cT,h,aB,aQ,aB,dQ,dQ,dN,jE,q]
theorem tN{P:Pg}{cl:Caller}{σ:Sg}{f:Nat}{a b:E}{x y:Vl}{d:D}(h1:ev P cl σ a=.ok x)(h2:ev P cl σ b=.ok y)(hc:cl f [x.d,y.d]=.ok (d,false,false)):ev P cl σ (.call f (.cons a (.cons b .nil)))=.ok (.cl d):=by
 have e:evs P cl σ (.cons a (.cons b .nil))=.ok [x,y]:=by rw[aC,h1,aB,aC,h2,aB,bV];rfl
 rw[bK,e,aB,show [x,y].map (·.d)=[x.d,y.d] from rfl,hc];rfl
def sA1(cd sd:D):List D:=[.non,.int 7,.bl false,.str "a",.lst [],.tup [],cd,.tup [.str "plus",sd],.tup [.str "minus",sd,sd,sd]]
def sA2(cd sd:D):List D:=[.tup [.str "times",sd,sd],.tup [.str "plus",sd,cd],.tup [.str "minus",.int 1,sd],.tup [.str "less",sd,sd]]
def sA3(cd sd:D):List D:=[.tup [.str "yes"],.tup [.str "plus",.tup [.str "yes"],sd],.tup [.str "plus",sd,.non],.tup [.str "",sd,sd]]
def sA4(cd sd:D):List D:=[.tup [.lst [],sd,sd],.tup [.dic [(.str "box",.int 1)],.int 0],.tup [.lst [.str "number"],.int 1],.tup [.dic [],sd,sd]]
def sA5(sd:D)(c:Int):List D:=[.tup [.str "after",.int (c-1)],.tup [.str "plus",sd,.tup [.str "after",.int (c-1)]],.tup [.str "minus",.tup [.str "after",.int (c-1)],sd],.tup [.str "after",.int 0]]
def rL(cd sd:D):List D:=sA1 cd sd++sA2 cd sd++sA3 cd sd++sA4 cd sd
section
variable {bs:List D} {pl:Bool} {c:Nat} (hc:bs.length=c) {i:Bool} {k:Nat} {m:Int} (hk:k<c)
include hc hk
theorem aBO:∀d∈sA1 (cD i k m) (sD k),NB bs pl "sum" d 3:=by
 have b:∀{d:D},lV pl "sum" d->NB bs pl "sum" d 3:=λf=>(NB.bad f).mono (by decide)
 exact al1 (b (λn=>by cases pl <;> rfl)) (al1 (b (λn=>by cases pl <;> rfl)) (al1 (b (λn=>by cases pl <;> rfl)) (al1 (b (λn=>by cases pl <;> rfl)) (al1 (b (λn=>by cases pl <;> rfl)) (al1 (b (λn=>by cases pl <;> rfl)) (al1 (b (λn=>by cases pl <;> cases i <;> rfl)) (al1 (b (λn=>by cases pl <;> rfl)) (al1 (b (λn=>by cases pl <;> rfl)) al0))))))))
theorem aBP:∀d∈sA2 (cD i k m) (sD k),NB bs pl "sum" d 3:=by
 have b:∀{d:D},lV pl "sum" d->NB bs pl "sum" d 3:=λf=>(NB.bad f).mono (by decide)
 have oS:iW bs pl "sum" (sD k) 1:=okS hc (s:=.box k) hk
 exact al1 (b (λn=>by cases pl <;> rfl)) (al1 (NB.two (cS true _ _) rS oS (NB.bad (λn=>by cases pl <;> cases i <;> rfl))) (al1 ((NB.one (cS false _ _) rS (NB.bad (λn=>by cases pl <;> rfl))).mono (by decide)) (al1 (b (λn=>by cases pl <;> rfl)) al0)))
theorem aBQ:∀d∈sA3 (cD i k m) (sD k),NB bs pl "sum" d 3:=by
 have b:∀{d:D},lV pl "sum" d->NB bs pl "sum" d 3:=λf=>(NB.bad f).mono (by decide)
 have oS:iW bs pl "sum" (sD k) 1:=okS hc (s:=.box k) hk
 exact al1 (b (λn=>by cases pl <;> rfl)) (al1 ((NB.one (cS true _ _) rS (NB.bad (λn=>by cases pl <;> rfl))).mono (by decide)) (al1 (NB.two (cS true _ _) rS oS (NB.bad (λn=>by cases pl <;> rfl))) (al1 (b (λn=>by cases pl <;> rfl)) al0)))
theorem aBR:∀d∈sA4 (cD i k m) (sD k),NB bs pl "sum" d 3:=by
 have b:∀{d:D},lV pl "sum" d->NB bs pl "sum" d 3:=λf=>(NB.bad f).mono (by decide)
 exact al1 (b (λn=>by cases pl <;> rfl)) (al1 (b (λn=>by cases pl <;> rfl)) (al1 (b (λn=>by cases pl <;> rfl)) (al1 (b (λn=>by cases pl <;> rfl)) al0)))
theorem aBS(z:Int):∀d∈sA5 (sD k) z,NB bs true "sum" d 3:=by
 have oS:iW bs true "sum" (sD k) 1:=okS hc (s:=.box k) hk
 exact al1 ((NB.bad (λn=>rfl)).mono (by decide)) (al1 (NB.two (cS true _ _) rS oS (NB.bad (λn=>rfl))) (al1 ((NB.one (cS false _ _) rS (NB.bad (λn=>rfl))).mono (by decide)) (al1 ((NB.bad (λn=>rfl)).mono (by decide)) al0)))
theorem pS{d:D}(h:d∈rL (cD i k m) (sD k)):NB bs pl "sum" d 3:=by
 unfold rL at h
 rcases List.mem_append.mp h with h|h
 . rcases List.mem_append.mp h with h|h
   . rcases List.mem_append.mp h with h|h
     . exact aBO hc hk d h
     . exact aBP hc hk d h
   . exact aBQ hc hk d h
 . exact aBR hc hk d h
theorem vJ(n:Nat){x:Int}(hx:0<=x):∃d,call pg (n+2) 12 [.int x,cD i k m,sD k,.int (c:Int),.bl pl]=.ok (d,false,false)/\NB bs pl "sum" d 3:=by
 have m3:opD .Mod (.cl (.int x)) (.cl (.int 3))=.ok (.cl (.int (x % 3))):=aX (by decide)
 have d3:opD .FloorDiv (.cl (.int x)) (.cl (.int 3))=.ok (.cl (.int (x / 3))):=eB (by decide)
 have hx3:0<=x / 3:=by omega
 obtain⟨L,s6,hp,hb,e1⟩:∃L s6,0<L.length/\(∀d∈L,NB bs pl "sum" d 3)/\exs pg (call pg (n+1)) [.sh true (.int x),.sh true (cD i k m),.sh true (sD k),.sh true (.int (c:Int)),.sh true (.bl pl),.dead,.dead] f12.body =
  exs pg (call pg (n+1)) [.sh true (.int x),.sh true (cD i k m),.sh true (sD k),.sh true (.int (c:Int)),.sh true (.bl pl),.own false L,s6] (.cons (.iff (.cmp .Eq (.op .Mod (.v 0) (.c (.int 3))) (.c (.int 0)))
  (.cons (.ret (.call 10 (.cons (.op .FloorDiv (.v 0) (.c (.int 3))) (.cons (.v 2) .nil))))
  .nil)
  .nil)
 (.cons (.iff (.cmp .Eq (.op .Mod (.v 0) (.c (.int 3))) (.c (.int 1)))
  (.cons (.ret (.call 11 (.cons (.op .FloorDiv (.v 0) (.c (.int 3))) (.cons (.v 3) .nil))))
  .nil)
  .nil)
 (.cons (.ret (.idx (.v 5) (.op .Mod (.op .FloorDiv (.v 0) (.c (.int 3))) (.bi .len (.cons (.v 5) .nil)))))
 .nil))):=by
  have e0:∀o,exs pg (call pg (n+1)) [.sh true (.int x),.sh true (cD i k m),.sh true (sD k),.sh true (.int (c:Int)),.sh true (.bl pl),.own false (rL (cD i k m) (sD k)),.sh false (.tup [.str "after",.int ((c:Int)-1)])] (drp 5 f12.body)=o->exs pg (call pg (n+1)) [.sh true (.int x),.sh true (cD i k m),.sh true (sD k),.sh true (.int (c:Int)),.sh true (.bl pl),.dead,.dead] f12.body=o:=by
   intro o h
   refine cs (σ':=[.sh true (.int x),.sh true (cD i k m),.sh true (sD k),.sh true (.int (c:Int)),.sh true (.bl pl),.own false (sA1 (cD i k m) (sD k)),.dead]) rfl ?_
   refine cs (bB (A:=sA2 (cD i k m) (sD k)) rfl rfl (show 9+4<=1000 by decide)) ?_
   refine cs (bB (A:=sA3 (cD i k m) (sD k)) rfl rfl (show 13+4<=1000 by decide)) ?_
   refine cs (bB (A:=sA4 (cD i k m) (sD k)) rfl rfl (show 17+4<=1000 by decide)) ?_
   exact cs rfl h
  cases pl with
  | true=>
   refine⟨rL (cD i k m) (sD k)++sA5 (sD k) c,.sh false (.tup [.str "after",.int ((c:Int)-1)]),by show 0<25;decide,λd hd=>?_,e0 _ ?_⟩
   . rcases List.mem_append.mp hd with h|h
     . exact pS hc hk h
     . exact aBS hc hk _ d h
   . refine cs ?_ rfl
     have:ex pg (call pg (n+1)) [.sh true (.int x),.sh true (cD i k m),.sh true (sD k),.sh true (.int (c:Int)),.sh true (.bl true),.own false (rL (cD i k m) (sD k)),.sh false (.tup [.str "after",.int ((c:Int)-1)])] _=_:=bB (i:=5) (L:=rL (cD i k m) (sD k)) (A:=sA5 (sD k) c) (e:=(.lst (.cons (.v 6) (.cons (.tup (.cons (.c (.str "plus")) (.cons (.v 2) (.cons (.v 6) .nil)))) (.cons (.tup (.cons (.c (.str "minus")) (.cons (.v 6) (.cons (.v 2) .nil)))) (.cons (.tup (.cons (.c (.str "after")) (.cons (.c (.int 0)) .nil))) .nil)))))) rfl rfl (show 21+4<=1000 by decide)
     rw[cB]
     show(exs pg _ _ _)=_
     exact cs this (bC ..)
  | false=>
   exact⟨rL (cD i k m) (sD k),.sh false (.tup [.str "after",.int ((c:Int)-1)]),by show 0<21;decide,λd hd=>pS hc hk hd,e0 _ (cs rfl rfl)⟩
 by_cases q0:x % 3=0
 . obtain⟨j,hj,e⟩:=vH n (x / 3) k
   refine⟨_,aL (F:=f12) rfl rfl (v:=.cl (rJ (x / 3))[j]) (e1.trans (iP (kJ (aW rfl rfl m3) (by rw[q0];rfl)) (dE (tN (aW rfl rfl d3) rfl e)))),(aAd hx3 j hj).mono (by decide)⟩
 . have t0:=kJ (P:=pg) (cl:=call pg (n+1)) (σ:=[.sh true (.int x),.sh true (cD i k m),.sh true (sD k),.sh true (.int (c:Int)),.sh true (.bl pl),.own false L,s6]) (a:=.op .Mod (.v 0) (.c (.int 3))) (j:=0) (aW rfl rfl m3) (beq_eq_false_iff_ne.mpr q0)
   by_cases q1:x % 3=1
   . obtain⟨j,hj,e⟩:=vI n (x / 3) c
     refine⟨_,aL (F:=f12) rfl rfl (v:=.cl (rK c)[j]) (e1.trans (cs (eT t0) (iP (kJ (aW rfl rfl m3) (by rw[q1];rfl)) (dE (tN (aW rfl rfl d3) rfl e))))),(aAe hc j hj).mono (by decide)⟩
   . obtain⟨j,hj,e⟩:=aBG (P:=pg) (cl:=call pg (n+1)) (σ:=[.sh true (.int x),.sh true (cD i k m),.sh true (sD k),.sh true (.int (c:Int)),.sh true (.bl pl),.own false L,s6]) (i:=5) (L:=L) (e:=.op .FloorDiv (.v 0) (.c (.int 3))) (x:=x / 3) rfl (aW rfl rfl d3) hp
     exact⟨L[j],fH (F:=f12) rfl rfl (w:=⟨.lst L,false,false,[5]⟩) rfl (e1.trans (cs (eT t0) (cs (eT (kJ (aW rfl rfl m3) (beq_eq_false_iff_ne.mpr q1))) e))),hb _ (List.getElem_mem hj)⟩
end
theorem sub_al(v:Vl)(d:D):(Vl.sub v d).al=[]\/(Vl.sub v d).al=v.al:=by
 unfold Vl.sub
 split
 . exact .inl rfl
 . exact .inr rfl
theorem mB{P:Pg}{cl:Caller}{s0 s1 s2 s3:Sl}{A A':Bool}{L M:List D}{e:E}{x:Int}{k:Nat}(hk:0<k)(hx:ev P cl [s0,s1,s2,s3,.own A L] (.v 3)=.ok (.cl (.int x)))(he:ev P cl [s0,s1,s2,s3,.own A L] e=.ok ⟨.lst M,true,A',[]⟩)(hl:(L++M).length=k)(hk2:k<=1000) :
 ∃j,∃hj:j<(L++M).length,∃p s4,ex P cl [s0,s1,s2,s3,.own A L] (.set (.n 1) (.idx (.op .Add (.v 4) e) (.op .Mod (.v 3) (.c (.int (k:Int))))))=.next [s0,.sh p (L++M)[j],s2,s3,s4]:=by
 have hd:decide (L.length+M.length<=lim)=true:=decide_eq_true (by rw[lA] at hl;unfold lim;omega)
 obtain⟨w,hw,ha,e1⟩:∃w:Vl,w.d=.lst (L++M)/\(w.al=[]\/w.al=[4])/\opD .Add ⟨.lst L,false,A,[4]⟩ ⟨.lst M,true,A',[]⟩=.ok w:=by
  refine⟨⟨.lst (L++M),true,(A&&!noLs L)||(A'&&!noLs M),(if noLs L then [] else [4])++(if noLs M then [] else [])⟩,rfl,?_,?_⟩
  . show(if noLs L then [] else [4])++(if noLs M then [] else [])=([]:List Nat)\/(if noLs L then [] else [4])++(if noLs M then [] else [])=[4]
    cases noLs L <;> cases noLs M <;> simp
  . show R.iff (decide (L.length+M.length<=lim)) _=_
    rw[hd]
    rfl
 have h0:0<=x % (k:Int):=Int.emod_nonneg _ (by omega)
 have h1:x % (k:Int)<(k:Int):=Int.emod_lt_of_pos _ (by omega)
 obtain⟨j,hj⟩:∃j:Nat,x % (k:Int)=j:=⟨(x % (k:Int)).toNat,by omega⟩
 have hj':j<(L++M).length:=by omega
 have m1:opD .Mod (.cl (.int x)) (.cl (.int (k:Int)))=.ok (.cl (.int (j:Int))):=by rw[aX (by omega),hj]
 have e2:=kF (aW (rfl:ev P cl [s0,s1,s2,s3,.own A L] (.v 4)=.ok ⟨.lst L,false,A,[4]⟩) he e1) (aW hx (aQ ..) m1) (jF hw hj')
 obtain⟨p,hp⟩:=kH w (L++M)[j]
 have hal:(Vl.sub w (L++M)[j]).al=[]\/(Vl.sub w (L++M)[j]).al=[4]:=by
  rcases sub_al w (L++M)[j] with h|h
  . exact .inl h
  . rw[h];exact ha
 rcases hal with h|h
 . exact⟨j,hj',p,.own A L,by rw[cQ,e2,aP,h,dJ,aP,hp];rfl⟩
 . exact⟨j,hj',p,.sh A (.lst L),by rw[cQ,e2,aP,h,dJ,aP,hp];rfl⟩
def acB:Ss:=(.cons (.set (.n 4) (.lst (.cons (.v 1) (.cons (.tup (.cons (.c (.str "not")) (.cons (.v 1) .nil))) (.cons (.tup (.cons (.c (.str "both")) (.cons (.v 2) (.cons (.v 1) .nil)))) (.cons (.tup (.cons (.c (.str "either")) (.cons (.v 1) (.cons (.v 2) .nil)))) .nil))))))
 (.cons (.set (.n 1) (.idx (.op .Add (.v 4) (.lst (.cons (.tup (.cons (.c (.str "both")) (.cons (.v 1) (.cons (.v 1) .nil)))) .nil))) (.op .Mod (.v 3) (.c (.int 5)))))
 .nil))
def asB:Ss:=(.cons (.set (.n 4) (.lst (.cons (.v 1) (.cons (.tup (.cons (.c (.str "plus")) (.cons (.v 2) (.cons (.v 1) .nil)))) (.cons (.tup (.cons (.c (.str "minus")) (.cons (.v 1) (.cons (.v 2) .nil)))) .nil)))))
 (.cons (.set (.n 1) (.idx (.op .Add (.v 4) (.lst (.cons (.tup (.cons (.c (.str "plus")) (.cons (.v 1) (.cons (.v 1) .nil)))) .nil))) (.op .Mod (.v 3) (.c (.int 4)))))
 .nil))
theorem mD{P:Pg}{cl:Caller}{r:Sg}(xs:List Int):walk P cl (.sh true (.lst (xs.map D.int))::r) (.seq (.v 0))=.ok (xs.map λi=>Vl.cl (.int i),[]):=by
 have hi:∀v:Vl,items v (xs.map D.int)=xs.map λi=>Vl.cl (.int i):=λv=>lQ (g:=D.int) (λ_=>rfl) xs
 simp only[pI,fJ,bH,gZ,gE,aB,hi]
section
variable {bs:List D} {pl:Bool} {c:Nat} (hc:bs.length=c) {i:Bool} {k:Nat} {m:Int} (hk:k<c)
include hc hk
theorem aBT(hm:0<=m/\m<=99)(n:Nat){d:D}{z:Nat}(hd:NB bs pl "cond" d z){p:Bool}{s0 s4:Sl}{x:Int}:∃d' p' s4',NB bs pl "cond" d' (z+4) /\
 exs pg (call pg n) [s0,.sh p d,.sh true (cD i k m),.sh false (.int x),s4] acB=.next [s0,.sh p' d',.sh true (cD i k m),.sh false (.int x),s4']:=by
 have oC:iW bs pl "cond" (cD i k m) 3:=okC hc (s:=.cmp i (.box k) (.num m)) ⟨hk,hm⟩
 obtain⟨A,e1⟩:∃A,ex pg (call pg n) [s0,.sh p d,.sh true (cD i k m),.sh false (.int x),s4] (.set (.n 4) (.lst (.cons (.v 1) (.cons (.tup (.cons (.c (.str "not")) (.cons (.v 1) .nil))) (.cons (.tup (.cons (.c (.str "both")) (.cons (.v 2) (.cons (.v 1) .nil)))) (.cons (.tup (.cons (.c (.str "either")) (.cons (.v 1) (.cons (.v 2) .nil)))) .nil)))))) =
  .next [s0,.sh p d,.sh true (cD i k m),.sh false (.int x),.own A [d,.tup [.str "not",d],.tup [.str "both",cD i k m,d],.tup [.str "either",d,cD i k m]]]:=⟨_,rfl⟩
 obtain⟨j,hj,p',s4',e2⟩:=mB (P:=pg) (cl:=call pg n) (s0:=s0) (s1:=.sh p d) (s2:=.sh true (cD i k m)) (s3:=.sh false (.int x)) (A:=A) (L:=[d,.tup [.str "not",d],.tup [.str "both",cD i k m,d],.tup [.str "either",d,cD i k m]]) (M:=[.tup [.str "both",d,d]]) (e:=.lst (.cons (.tup (.cons (.c (.str "both")) (.cons (.v 1) (.cons (.v 1) .nil)))) .nil)) (x:=x) (k:=5) (by decide) rfl rfl rfl (by decide)
 have hall:∀d'∈([d,.tup [.str "not",d],.tup [.str "both",cD i k m,d],.tup [.str "either",d,cD i k m]]++[.tup [.str "both",d,d]]:List D),NB bs pl "cond" d' (z+4):=
  al1 (hd.mono (by omega)) (al1 ((NB.un (tK _) rC hd).mono (by omega)) (al1 ((NB.two (cE true _ _) rC oC hd).mono (by omega)) (al1 ((NB.one (cE false _ _) rC hd).mono (by omega)) (al1 ((NB.one (cE true _ _) rC hd).mono (by omega)) al0))))
 exact⟨_,p',s4',hall _ (List.getElem_mem hj),cs e1 (cs e2 (bC ..))⟩
theorem aBU(n:Nat){d:D}{z:Nat}(hd:NB bs pl "sum" d z){p:Bool}{s0 s4:Sl}{x:Int}:∃d' p' s4',NB bs pl "sum" d' (z+2) /\
 exs pg (call pg n) [s0,.sh p d,.sh true (sD k),.sh false (.int x),s4] asB=.next [s0,.sh p' d',.sh true (sD k),.sh false (.int x),s4']:=by
 have oS:iW bs pl "sum" (sD k) 1:=okS hc (s:=.box k) hk
 obtain⟨A,e1⟩:∃A,ex pg (call pg n) [s0,.sh p d,.sh true (sD k),.sh false (.int x),s4] (.set (.n 4) (.lst (.cons (.v 1) (.cons (.tup (.cons (.c (.str "plus")) (.cons (.v 2) (.cons (.v 1) .nil)))) (.cons (.tup (.cons (.c (.str "minus")) (.cons (.v 1) (.cons (.v 2) .nil)))) .nil))))) =
  .next [s0,.sh p d,.sh true (sD k),.sh false (.int x),.own A [d,.tup [.str "plus",sD k,d],.tup [.str "minus",d,sD k]]]:=⟨_,rfl⟩
 obtain⟨j,hj,p',s4',e2⟩:=mB (P:=pg) (cl:=call pg n) (s0:=s0) (s1:=.sh p d) (s2:=.sh true (sD k)) (s3:=.sh false (.int x)) (A:=A) (L:=[d,.tup [.str "plus",sD k,d],.tup [.str "minus",d,sD k]]) (M:=[.tup [.str "plus",d,d]]) (e:=.lst (.cons (.tup (.cons (.c (.str "plus")) (.cons (.v 1) (.cons (.v 1) .nil)))) .nil)) (x:=x) (k:=4) (by decide) rfl rfl rfl (by decide)
 have hall:∀d'∈([d,.tup [.str "plus",sD k,d],.tup [.str "minus",d,sD k]]++[.tup [.str "plus",d,d]]:List D),NB bs pl "sum" d' (z+2):=
  al1 (hd.mono (by omega)) (al1 ((NB.two (cS true _ _) rS oS hd).mono (by omega)) (al1 ((NB.one (cS false _ _) rS hd).mono (by omega)) (al1 ((NB.one (cS true _ _) rS hd).mono (by omega)) al0)))
 exact⟨_,p',s4',hall _ (List.getElem_mem hj),cs e1 (cs e2 (bC ..))⟩
theorem aAf(hm:0<=m/\m<=99)(n:Nat){d:D}{z:Nat}(hd:NB bs pl "cond" d z)(xs:List Int):∃d' pa,NB bs pl "cond" d' (z+4*xs.length)/\call pg (n+1) 13 [.lst (xs.map D.int),d,cD i k m]=.ok (d',false,pa):=by
 obtain⟨σ',e,hI⟩:=fR (P:=pg) (cl:=call pg n) (t:=.n 3) (b:=acB) (it:=.seq (.v 0)) (σ:=[.sh true (.lst (xs.map D.int)),.sh true d,.sh true (cD i k m),.dead,.dead])
  (λq σ=>∃d' p s3 s4,NB bs pl "cond" d' (z+4*q)/\σ=[.sh true (.lst (xs.map D.int)),.sh p d',.sh true (cD i k m),s3,s4]) (mD xs) ⟨d,true,_,_,hd,rfl⟩ (λq hq σ hσ=>by
   obtain⟨d',p,s3,s4,hd',rfl⟩:=hσ
   have hq':q<xs.length:=by simpa using hq
   obtain⟨d2,p2,s42,h2,e⟩:=aBT hc hk hm n hd' (p:=p) (s0:=.sh true (.lst (xs.map D.int))) (s4:=s4) (x:=xs[q]) (i:=i)
   exact⟨_,_,by rw[List.getElem_map,dJ];rfl,e,d2,p2,_,_,h2.mono (by omega),rfl⟩)
 obtain⟨d',p,s3,s4,hd',rfl⟩:=hI
 rw[lM] at hd'
 exact⟨d',p&&!noL d',hd',aL (F:=f13) rfl rfl (v:=⟨d',false,p&&!noL d',[]⟩) (cs e rfl)⟩
theorem aEC(n:Nat){d:D}{z:Nat}(hd:NB bs pl "sum" d z)(xs:List Int):∃d' pa,NB bs pl "sum" d' (z+2*xs.length)/\call pg (n+1) 14 [.lst (xs.map D.int),d,sD k]=.ok (d',false,pa):=by
 obtain⟨σ',e,hI⟩:=fR (P:=pg) (cl:=call pg n) (t:=.n 3) (b:=asB) (it:=.seq (.v 0)) (σ:=[.sh true (.lst (xs.map D.int)),.sh true d,.sh true (sD k),.dead,.dead])
  (λq σ=>∃d' p s3 s4,NB bs pl "sum" d' (z+2*q)/\σ=[.sh true (.lst (xs.map D.int)),.sh p d',.sh true (sD k),s3,s4]) (mD xs) ⟨d,true,_,_,hd,rfl⟩ (λq hq σ hσ=>by
   obtain⟨d',p,s3,s4,hd',rfl⟩:=hσ
   have hq':q<xs.length:=by simpa using hq
   obtain⟨d2,p2,s42,h2,e⟩:=aBU hc hk n hd' (p:=p) (s0:=.sh true (.lst (xs.map D.int))) (s4:=s4) (x:=xs[q])
   exact⟨_,_,by rw[List.getElem_map,dJ];rfl,e,d2,p2,_,_,h2.mono (by omega),rfl⟩)
 obtain⟨d',p,s3,s4,hd',rfl⟩:=hI
 rw[lM] at hd'
 exact⟨d',p&&!noL d',hd',aL (F:=f14) rfl rfl (v:=⟨d',false,p&&!noL d',[]⟩) (cs e rfl)⟩
end
theorem gJ{P:Pg}{cl:Caller}{σ:Sg}{f:Nat}{a b c:E}{x y z:Vl}{d:D}{pa:Bool}(h1:ev P cl σ a=.ok x)(h2:ev P cl σ b=.ok y)(h3:ev P cl σ c=.ok z)(a1:x.al=[])(a2:y.al=[])(a3:z.al=[])(hc:cl f [x.d,y.d,z.d]=.ok (d,false,pa)):∃p,ev P cl σ (.call f (.cons a (.cons b (.cons c .nil))))=.ok ⟨d,false,p,[]⟩:=by
 have e:evs P cl σ (.cons a (.cons b (.cons c .nil)))=.ok [x,y,z]:=by rw[aC,h1,aB,aC,h2,aB,aC,h3,aB,bV];rfl
 rw[bK,e,aB,show [x,y,z].map (·.d)=[x.d,y.d,z.d] from rfl,hc,aB]
 cases pa with
 | false=>exact⟨false,rfl⟩
 | true=>
  refine⟨dO [x,y,z],?_⟩
  have:bI [x,y,z]=[]:=by simp[bI,a1,a2,a3]
  show R.ok (⟨d,false,dO [x,y,z],bI [x,y,z]⟩:Vl)=_
  rw[this]
theorem iG{P:Pg}{cl:Caller}{σ:Sg}{i:Nat}{e:E}{d:D}{p:Bool}(h:ev P cl σ e=.ok ⟨d,false,p,[]⟩):ex P cl σ (.set (.n i) e)=.next (σ.set i (.sh p d)):=by rw[cQ,h];rfl
theorem aIX{α β:Type}(f:α->β)(xs:List α)(lo hi:Option Int):cut (xs.map f) lo hi=(cut xs lo hi).map f:=by
 unfold cut
 simp[List.map_take,List.map_drop]
theorem gK{P:Pg}{cl:Caller}{σ:Sg}{i:Nat}{xs:List Int}{a b:Int}(h:σ[i]? = some (.sh true (.lst (xs.map D.int))))(ha:aF a=true)(hb:aF b=true):ev P cl σ (.sli (.v i) (.cons (.c (.int a)) .nil) (.cons (.c (.int b)) .nil))=.ok ⟨.lst ((cut xs (some a) (some b)).map D.int),true,false,[]⟩:=by
 have hs:cH ⟨.lst (xs.map D.int),false,true,[]⟩ (some a) (some b)=.ok ⟨.lst ((cut xs (some a) (some b)).map D.int),true,false,[]⟩:=by
  unfold cH
  simp[dR,aIX]
 simp only[tF,fJ,aQ,bH,h,gE,aB,dQ,ha,hb,Bool.and_self,sY,hs]
theorem rM(xs:List Int)(a b:Nat)(h:a<=b):(cut xs (some (a:Int)) (some (b:Int))).length<=b-a:=by
 unfold cut
 rw[List.length_take,List.length_drop]
 simp only[sIx]
 rw[if_neg (by omega),if_neg (by omega)]
 omega
def kd(isc:Bool):Str:=if isc then "cond" else "sum"
theorem aCx{P:Pg}{cl:Caller}{σ:Sg}{a e:E}{w:Vl}{L:List D}{x:Int}{k:Nat}(ha:ev P cl σ a=.ok w)(hw:w.d=.lst L)(he:ev P cl σ e=.ok (.cl (.int x)))(hk:L.length=k)(h0:0<k) :
 ∃j,∃hj:j<L.length,x % (k:Int)=j/\ev P cl σ (.idx a (.op .Mod e (.c (.int (k:Int)))))=.ok (Vl.sub w L[j]):=by
 have g0:0<=x % (k:Int):=Int.emod_nonneg _ (by omega)
 have g1:x % (k:Int)<(k:Int):=Int.emod_lt_of_pos _ (by omega)
 obtain⟨j,hj⟩:∃j:Nat,x % (k:Int)=j:=⟨(x % (k:Int)).toNat,by omega⟩
 have hj':j<L.length:=by omega
 have m1:opD .Mod (.cl (.int x)) (.cl (.int (k:Int)))=.ok (.cl (.int (j:Int))):=by rw[aX (by omega),hj]
 exact⟨j,hj',hj,kF ha (aW he (aQ ..) m1) (jF hw hj')⟩
theorem cF{P:Pg}{cl:Caller}{σ:Sg}{i k:Nat}{xs:List Int}(h:σ[i]? = some (.sh true (.lst (xs.map D.int))))(hk:k<xs.length):ev P cl σ (.idx (.v i) (.c (.int (k:Int))))=.ok (.cl (.int (xs.getD k 0))):=by
 refine kF (x:=⟨.lst (xs.map D.int),false,true,[]⟩) ?_ (aQ ..) (nK rfl hk)
 rw[fJ,bH,h]
 exact gE ..
section
variable {bs:List D} {pl:Bool} {c:Nat} (hc:bs.length=c)
include hc
theorem aAg(n:Nat)(x:Int)(isc:Bool):∃d,NB bs pl (kd isc) d 1/\call pg (n+1) 16 [.int x,.bl isc,.int (c:Int)]=.ok (d,false,false):=by
 cases isc with
 | true=>
  obtain⟨j,hj,_,e⟩:=aCx (P:=pg) (cl:=call pg n) (σ:=[.sh true (.int x),.sh true (.bl true),.sh true (.int (c:Int))]) (a:=.lst (.cons (.c .non) (.cons (.tup (.cons (.c (.str "no")) .nil)) (.cons (.tup (.cons (.c (.str "box")) (.cons (.c (.int 0)) .nil))) (.cons (.tup (.cons (.c (.str "not")) .nil)) .nil))))) (e:=.v 0) (w:=⟨.lst [.non,.tup [.str "no"],.tup [.str "box",.int 0],.tup [.str "not"]],true,false,[]⟩) (x:=x) (k:=4) rfl rfl rfl rfl (by decide)
  have hall:∀d∈([.non,.tup [.str "no"],.tup [.str "box",.int 0],.tup [.str "not"]]:List D),NB bs pl "cond" d 1:=al1 (NB.bad (λn=>by cases pl <;> rfl)) (al1 (NB.bad (λn=>by cases pl <;> rfl)) (al1 (NB.bad (λn=>by cases pl <;> rfl)) (al1 (NB.bad (λn=>by cases pl <;> rfl)) al0)))
  exact⟨_,hall _ (List.getElem_mem hj),fH (F:=f16) rfl rfl (w:=⟨_,true,false,[]⟩) rfl (iP rfl (dE e))⟩
 | false=>
  obtain⟨j,hj,_,e⟩:=aCx (P:=pg) (cl:=call pg n) (σ:=[.sh true (.int x),.sh true (.bl false),.sh true (.int (c:Int))]) (a:=.lst (.cons (.c .non) (.cons (.tup (.cons (.c (.str "number")) (.cons (.c (.int 100)) .nil))) (.cons (.tup (.cons (.c (.str "box")) (.cons (.v 2) .nil))) (.cons (.tup (.cons (.c (.str "yes")) .nil)) .nil))))) (e:=.v 0) (w:=⟨.lst [.non,.tup [.str "number",.int 100],.tup [.str "box",.int (c:Int)],.tup [.str "yes"]],true,false,[]⟩) (x:=x) (k:=4) rfl rfl rfl rfl (by decide)
  have hall:∀d∈([.non,.tup [.str "number",.int 100],.tup [.str "box",.int (c:Int)],.tup [.str "yes"]]:List D),NB bs pl "sum" d 1:=al1 (NB.bad (λn=>by cases pl <;> rfl)) (al1 (NB.numX (gI _) nM (cW (.inr (by rw[tL,if_pos rfl];decide)))) (al1 (NB.numX (kI _) nN (cW (.inr (by rw[tM,if_neg bN];omega)))) (al1 (NB.bad (λn=>by cases pl <;> rfl)) al0)))
  exact⟨_,hall _ (List.getElem_mem hj),fH (F:=f16) rfl rfl (w:=⟨_,true,false,[]⟩) rfl (cs (eT rfl) (dE e))⟩
theorem tP(x:Int):∃i,eE ⟨.lst [.str "is",.str "less"],true,false,[]⟩ (.cl (.int (x % 2)))=.ok (.cl (.str (gG i))):=by
 have h0:0<=x % 2:=Int.emod_nonneg _ (by decide)
 have h1:x % 2<2:=Int.emod_lt_of_pos _ (by decide)
 rcases(show x % 2=0\/x % 2=1 by omega) with h|h
 . exact⟨true,by rw[h];rfl⟩
 . exact⟨false,by rw[h];rfl⟩
theorem rN(n:Nat){i:Bool}{k:Nat}{m:Int}(hk:k<c)(hm:0<=m/\m<=99)(isc:Bool){xs:List Int}(hx:xs.length=11)(hn:∀x∈xs,0<=x) :
 ∃d pa,NB bs pl (kd isc) d 24/\call pg (n+4) 15 [.lst (xs.map D.int),.bl isc,cD i k m,sD k,.int (c:Int),.bl pl]=.ok (d,false,pa):=by
 have nc:Hp.noL (cD i k m)=true:=rfl
 have m2:∀i:Int,opD .Mod (.cl (.int i)) (.cl (.int 2))=.ok (.cl (.int (i % 2))):=λi=>aX (by decide)
 have s26:=λ{s6:Sl}=>gK (P:=pg) (cl:=call pg (n+3)) (σ:=[.sh true (.lst (xs.map D.int)),.sh true (.bl isc),.sh true (cD i k m),.sh true (sD k),.sh true (.int (c:Int)),.sh true (.bl pl),s6]) (i:=0) (xs:=xs) (a:=2) (b:=6) rfl (by decide) (by decide)
 have s68:=λ{s6:Sl}=>gK (P:=pg) (cl:=call pg (n+3)) (σ:=[.sh true (.lst (xs.map D.int)),.sh true (.bl isc),.sh true (cD i k m),.sh true (sD k),.sh true (.int (c:Int)),.sh true (.bl pl),s6]) (i:=0) (xs:=xs) (a:=6) (b:=8) rfl (by decide) (by decide)
 have s25:=λ{s6:Sl}=>gK (P:=pg) (cl:=call pg (n+3)) (σ:=[.sh true (.lst (xs.map D.int)),.sh true (.bl isc),.sh true (cD i k m),.sh true (sD k),.sh true (.int (c:Int)),.sh true (.bl pl),s6]) (i:=0) (xs:=xs) (a:=2) (b:=5) rfl (by decide) (by decide)
 have ix:=λ{s6:Sl} {j:Nat} (h:j<xs.length)=>cF (P:=pg) (cl:=call pg (n+3)) (σ:=[.sh true (.lst (xs.map D.int)),.sh true (.bl isc),.sh true (cD i k m),.sh true (sD k),.sh true (.int (c:Int)),.sh true (.bl pl),s6]) (i:=0) (xs:=xs) (k:=j) rfl h
 have l26:(cut xs (some 2) (some 6)).length<=4:=rM xs 2 6 (by decide)
 have l68:(cut xs (some 6) (some 8)).length<=2:=rM xs 6 8 (by decide)
 have l25:(cut xs (some 2) (some 5)).length<=3:=rM xs 2 5 (by decide)
 have t:tst pg (call pg (n+3)) [.sh true (.lst (xs.map D.int)),.sh true (.bl isc),.sh true (cD i k m),.sh true (sD k),.sh true (.int (c:Int)),.sh true (.bl pl),.dead] (.an (.v 1) (.cmp .Eq (.op .Mod (.idx (.v 0) (.c (.int 0))) (.c (.int 2))) (.c (.int 0))))=.ok (isc&&(xs.getD 0 0 % 2==0)):=by
  have t0:tst pg (call pg (n+3)) [.sh true (.lst (xs.map D.int)),.sh true (.bl isc),.sh true (cD i k m),.sh true (sD k),.sh true (.int (c:Int)),.sh true (.bl pl),.dead] (.cmp .Eq (.op .Mod (.idx (.v 0) (.c (.int 0))) (.c (.int 2))) (.c (.int 0)))=.ok (xs.getD 0 0 % 2==0):=kJ (aW (ix (j:=0) (by omega)) (aQ ..) (m2 _)) rfl
  rw[zP,t0]
  cases isc <;> rfl
 cases hb:(isc&&(xs.getD 0 0 % 2==0)) with
 | true=>
  have hi:isc=true:=by cases isc with|true=>rfl|false=>exact hb
  subst hi
  rw[hb] at t
  obtain⟨j,hj,e9⟩:=rH (n+2) (xs.getD 1 0) i k m
  have b9:=vG (pl:=pl) hc hk hm (List.getElem_mem hj)
  obtain⟨d,pa,hd,e13⟩:=aAf hc hk hm (n+2) b9 (cut xs (some 2) (some 6)) (i:=i)
  obtain⟨p,e⟩:=gJ (s26 (s6:=.dead)) (tE (ix (j:=1) (by omega)) (v2_ nc) (rfl:ev pg (call pg (n+3)) _ (.v 3)=.ok (.cl (sD k))) e9) (v2_ nc) rfl rfl rfl e13
  exact⟨d,p,hd.mono (by omega),aL (F:=f15) rfl rfl (v:=⟨d,false,p,[]⟩) (iP t (dE e))⟩
 | false=>
  rw[hb] at t
  have hx1:0<=xs.getD 1 0:=by
   rw[List.getD_eq_getElem?_getD,List.getElem?_eq_getElem (by omega)]
   exact hn _ (List.getElem_mem (by omega))
  obtain⟨d0,e12,b0⟩:=vJ (pl:=pl) hc (i:=i) (m:=m) hk (n+1) hx1
  obtain⟨d1,pa1,b1,e14⟩:=aEC hc hk (n+2) b0 (cut xs (some 6) (some 8))
  have ev12:ev pg (call pg (n+3)) [.sh true (.lst (xs.map D.int)),.sh true (.bl isc),.sh true (cD i k m),.sh true (sD k),.sh true (.int (c:Int)),.sh true (.bl pl),.dead] (.call 12 (.cons (.idx (.v 0) (.c (.int 1))) (.cons (.v 2) (.cons (.v 3) (.cons (.v 4) (.cons (.v 5) .nil))))))=.ok (.cl d0):=by
   have e:evs pg (call pg (n+3)) [.sh true (.lst (xs.map D.int)),.sh true (.bl isc),.sh true (cD i k m),.sh true (sD k),.sh true (.int (c:Int)),.sh true (.bl pl),.dead] (.cons (.idx (.v 0) (.c (.int 1))) (.cons (.v 2) (.cons (.v 3) (.cons (.v 4) (.cons (.v 5) .nil)))))=.ok [.cl (.int (xs.getD 1 0)),.cl (cD i k m),.cl (sD k),.cl (.int (c:Int)),.cl (.bl pl)]:=by
    have i1:ev pg (call pg (n+3)) [.sh true (.lst (xs.map D.int)),.sh true (.bl isc),.sh true (cD i k m),.sh true (sD k),.sh true (.int (c:Int)),.sh true (.bl pl),.dead] (.idx (.v 0) (.c (.int 1)))=.ok (.cl (.int (xs.getD 1 0))):=ix (j:=1) (by omega)
    rw[aC,i1]
    rfl
   rw[bK,e,aB]
   show(call pg (n+3) 12 [.int (xs.getD 1 0),cD i k m,sD k,.int (c:Int),.bl pl] >>= _)=_
   rw[e12]
   rfl
  obtain⟨p1,ev14⟩:=gJ (s68 (s6:=.sh false d0)) (rfl:ev pg (call pg (n+3)) _ (.v 6)=.ok ⟨d0,false,false&&!noL d0,[]⟩) (rfl:ev pg (call pg (n+3)) _ (.v 3)=.ok (.cl (sD k))) rfl rfl rfl e14
  have z1:=iG (i:=6) ev14
  cases isc with
  | false=>
   exact⟨d1,p1&&!noL d1,b1.mono (by omega),aL (F:=f15) rfl rfl (v:=⟨d1,false,p1&&!noL d1,[]⟩) (cs (eT t) (cs (dL ev12) (cs z1 (iP rfl rfl))))⟩
  | true=>
   obtain⟨i',ew⟩:=tP hc (xs.getD 8 0)
   have b2:NB bs pl "cond" (.tup [.str (gG i'),d1,sD k]) (3+2*(cut xs (some 6) (some 8)).length+1):=NB.one (pQ i' _ _) rS b1
   obtain⟨d2,pa2,hd2,e13⟩:=aAf hc hk hm (n+2) b2 (cut xs (some 2) (some 5)) (i:=i)
   obtain⟨p2,ev2⟩:∃p2,ev pg (call pg (n+3)) [.sh true (.lst (xs.map D.int)),.sh true (.bl true),.sh true (cD i k m),.sh true (sD k),.sh true (.int (c:Int)),.sh true (.bl pl),.sh p1 d1] (.tup (.cons (.idx (.lst (.cons (.c (.str "is")) (.cons (.c (.str "less")) .nil))) (.op .Mod (.idx (.v 0) (.c (.int 8))) (.c (.int 2)))) (.cons (.v 6) (.cons (.v 3) .nil))))=.ok ⟨.tup [.str (gG i'),d1,sD k],false,p2,[]⟩:=by
    refine⟨false||((p1&&!noL d1)||(false||false)),?_⟩
    have z8:ev pg (call pg (n+3)) [.sh true (.lst (xs.map D.int)),.sh true (.bl true),.sh true (cD i k m),.sh true (sD k),.sh true (.int (c:Int)),.sh true (.bl pl),.sh p1 d1] (.idx (.lst (.cons (.c (.str "is")) (.cons (.c (.str "less")) .nil))) (.op .Mod (.idx (.v 0) (.c (.int 8))) (.c (.int 2))))=.ok (.cl (.str (gG i'))):=kF rfl (aW (ix (j:=8) (by omega)) (aQ ..) (m2 _)) ew
    rw[dC,aC,z8]
    rfl
   obtain⟨p3,e⟩:=gJ (s25 (s6:=.sh p2 (.tup [.str (gG i'),d1,sD k]))) (rfl:ev pg (call pg (n+3)) _ (.v 6)=.ok ⟨.tup [.str (gG i'),d1,sD k],false,p2&&!noL (.tup [.str (gG i'),d1,sD k]),[]⟩) (v2_ nc) rfl rfl rfl e13
   exact⟨d2,p3,hd2.mono (by omega),aL (F:=f15) rfl rfl (v:=⟨d2,false,p3,[]⟩) (cs (eT t) (cs (dL ev12) (cs z1 (cs (eT rfl) (cs (iG ev2) (dE e))))))⟩
end
inductive Vd (bs:List D) (pl isc:Bool) (d:D):Str->Prop
 | none (h:Lk bs pl (kd isc) d 0 .none):Vd bs pl isc d "none"
 | many (h:Lk bs pl (kd isc) d 0 .many):Vd bs pl isc d "many"
 | told (m:Nat) (h:Lk bs pl (kd isc) d 0 (.ok m)) (t:isI [.tTuple] pg d=some true) (q:eqD d d=some true):Vd bs pl isc d "told"
theorem aED{bs:List D}{pl isc:Bool}{d:D}{m:Nat}(h:Lk bs pl (kd isc) d 0 (.ok m))(n:Nat):∃pa,call pg (n+45) (bif isc then 3 else 2) [.lst bs,d,.bl pl]=.ok (d,false,pa):=by
 have c1:=pP h (n+44) (by omega)
 have e:evs pg (call pg (n+44)) [.sh true (.lst bs),.sh true d,.sh true (.bl pl)] (.cons (.v 0) (.cons (.c (.str (kd isc))) (.cons (.v 1) (.cons (.v 2) (.cons (.c (.int 0)) .nil)))))=.ok [⟨.lst bs,false,true,[]⟩,.cl (.str (kd isc)),⟨d,false,true&&!noL d,[]⟩,.cl (.bl pl),.cl (.int 0)]:=rfl
 have e2:ex pg (call pg (n+44)) [.sh true (.lst bs),.sh true d,.sh true (.bl pl)] (.ex (.call 4 (.cons (.v 0) (.cons (.c (.str (kd isc))) (.cons (.v 1) (.cons (.v 2) (.cons (.c (.int 0)) .nil)))))))=.next [.sh true (.lst bs),.sh true d,.sh true (.bl pl)]:=by
  rw[aAb,bK,e,aB]
  show O.from _ (call pg (n+44) 4 [.lst bs,.str (kd isc),d,.bl pl,.int 0] >>= _) _=_
  rw[show call pg (n+44) 4 [.lst bs,.str (kd isc),d,.bl pl,.int 0]=_ from c1]
  rfl
 cases isc with
 | true=>exact⟨_,aL (F:=f3) rfl rfl (v:=⟨d,false,true&&!noL d,[]⟩) (cs e2 rfl)⟩
 | false=>exact⟨_,aL (F:=f2) rfl rfl (v:=⟨d,false,true&&!noL d,[]⟩) (cs e2 rfl)⟩
theorem aHk{bs:List D}{pl isc:Bool}{d:D}{r:Rs}{x:D}(h:Lk bs pl (kd isc) d 0 r)(hr:r.r=.exc x)(n:Nat):call pg (n+45) (bif isc then 3 else 2) [.lst bs,d,.bl pl]=.exc x:=by
 have c1:=pP h (n+44) (by omega)
 rw[hr] at c1
 have e:evs pg (call pg (n+44)) [.sh true (.lst bs),.sh true d,.sh true (.bl pl)] (.cons (.v 0) (.cons (.c (.str (kd isc))) (.cons (.v 1) (.cons (.v 2) (.cons (.c (.int 0)) .nil)))))=.ok [⟨.lst bs,false,true,[]⟩,.cl (.str (kd isc)),⟨d,false,true&&!noL d,[]⟩,.cl (.bl pl),.cl (.int 0)]:=rfl
 have e2:∀ss,exs pg (call pg (n+44)) [.sh true (.lst bs),.sh true d,.sh true (.bl pl)] (.cons (.ex (.call 4 (.cons (.v 0) (.cons (.c (.str (kd isc))) (.cons (.v 1) (.cons (.v 2) (.cons (.c (.int 0)) .nil))))))) ss)=.exc x [.sh true (.lst bs),.sh true d,.sh true (.bl pl)]:=by
  intro ss
  rw[aT,aAb,bK,e,aB]
  show O.on (O.from _ (call pg (n+44) 4 [.lst bs,.str (kd isc),d,.bl pl,.int 0] >>= _) _) _=_
  rw[show call pg (n+44) 4 [.lst bs,.str (kd isc),d,.bl pl,.int 0]=_ from c1]
  rfl
 cases isc with
 | true=>exact cC (F:=f3) rfl rfl (e2 _)
 | false=>exact cC (F:=f2) rfl rfl (e2 _)
def vK:Ss:=(.cons (.iff (.v 3)
 (.cons (.set (.n 5) (.call 3 (.cons (.v 0) (.cons (.v 1) (.cons (.v 2) .nil)))))
 .nil)
 (.cons (.set (.n 5) (.call 2 (.cons (.v 0) (.cons (.v 1) (.cons (.v 2) .nil)))))
 .nil))
 .nil)
theorem aEE{bs:List D}{pl isc:Bool}{d:D}{m n:Nat}(h:Lk bs pl (kd isc) d 0 (.ok m)):∃p,ex pg (call pg (n+45)) [.sh true (.lst bs),.sh true d,.sh true (.bl pl),.sh true (.bl isc),.sh false .non,.sh false .non,.dead,.dead] (.tryAs vK "PromiseError" 4 6) =
 .next [.sh true (.lst bs),.sh true d,.sh true (.bl pl),.sh true (.bl isc),.sh false .non,.sh p d,.dead,.dead]:=by
 obtain⟨pa,c1⟩:=aED h n
 obtain⟨p,e⟩:=gJ (P:=pg) (cl:=call pg (n+45)) (σ:=[.sh true (.lst bs),.sh true d,.sh true (.bl pl),.sh true (.bl isc),.sh false .non,.sh false .non,.dead,.dead]) (f:=bif isc then 3 else 2) (a:=.v 0) (b:=.v 1) (c:=.v 2) (x:=⟨.lst bs,false,true,[]⟩) (y:=⟨d,false,true&&!noL d,[]⟩) (z:=.cl (.bl pl)) rfl rfl rfl rfl rfl rfl c1
 have z:=iG (i:=5) e
 refine⟨p,?_⟩
 rw[zZ]
 have:exs pg (call pg (n+45)) [.sh true (.lst bs),.sh true d,.sh true (.bl pl),.sh true (.bl isc),.sh false .non,.sh false .non,.dead,.dead] vK=.next [.sh true (.lst bs),.sh true d,.sh true (.bl pl),.sh true (.bl isc),.sh false .non,.sh p d,.dead,.dead]:=by
  unfold vK
  cases isc with
  | true=>
   rw[aT,cB]
   show O.on (exs pg _ _ _) _=_
   exact(congrArg (λo=>O.on o λσ'=>exs pg (call pg (n+45)) σ' .nil) (cs z (bC ..))).trans rfl
  | false=>
   rw[aT,cB]
   show O.on (exs pg _ _ _) _=_
   exact(congrArg (λo=>O.on o λσ'=>exs pg (call pg (n+45)) σ' .nil) (cs z (bC ..))).trans rfl
 rw[this]
theorem aCy{bs:List D}{pl isc:Bool}{d:D}{r:Rs}{c:Str}{n:Nat}(h:Lk bs pl (kd isc) d 0 r)(hr:r.r=.exc (.err c []))(hx:isX [.own "PromiseError"] pg (.err c [])=some true):ex pg (call pg (n+45)) [.sh true (.lst bs),.sh true d,.sh true (.bl pl),.sh true (.bl isc),.sh false .non,.sh false .non,.dead,.dead] (.tryAs vK "PromiseError" 4 6) =
 .next [.sh true (.lst bs),.sh true d,.sh true (.bl pl),.sh true (.bl isc),.sh true (.err c []),.sh false .non,.dead,.dead]:=by
 have c1:=aHk h hr n
 have e:∀f,call pg (n+45) f [.lst bs,d,.bl pl]=.exc (.err c [])->ex pg (call pg (n+45)) [.sh true (.lst bs),.sh true d,.sh true (.bl pl),.sh true (.bl isc),.sh false .non,.sh false .non,.dead,.dead] (.set (.n 5) (.call f (.cons (.v 0) (.cons (.v 1) (.cons (.v 2) .nil)))))=.exc (.err c []) [.sh true (.lst bs),.sh true d,.sh true (.bl pl),.sh true (.bl isc),.sh false .non,.sh false .non,.dead,.dead]:=by
  intro f hf
  have e:evs pg (call pg (n+45)) [.sh true (.lst bs),.sh true d,.sh true (.bl pl),.sh true (.bl isc),.sh false .non,.sh false .non,.dead,.dead] (.cons (.v 0) (.cons (.v 1) (.cons (.v 2) .nil)))=.ok [⟨.lst bs,false,true,[]⟩,⟨d,false,true&&!noL d,[]⟩,.cl (.bl pl)]:=rfl
  rw[cQ,bK,e,aB]
  show O.from _ (call pg (n+45) f [.lst bs,d,.bl pl] >>= _) _=_
  rw[hf]
  rfl
 have:exs pg (call pg (n+45)) [.sh true (.lst bs),.sh true d,.sh true (.bl pl),.sh true (.bl isc),.sh false .non,.sh false .non,.dead,.dead] vK=.exc (.err c []) [.sh true (.lst bs),.sh true d,.sh true (.bl pl),.sh true (.bl isc),.sh false .non,.sh false .non,.dead,.dead]:=by
  unfold vK
  cases isc with
  | true=>
   rw[aT,cB]
   show O.on (exs pg _ _ _) _=_
   rw[aT,e 3 c1]
   rfl
  | false=>
   rw[aT,cB]
   show O.on (exs pg _ _ _) _=_
   rw[aT,e 2 c1]
   rfl
 rw[zZ,this]
 show(match isX [.own "PromiseError"] pg (.err c []) with|some true=>_|_=>_)=_
 rw[hx]
 rfl
theorem iH{bs:List D}{pl isc:Bool}{d:D}{w:Str}(h:Vd bs pl isc d w)(n:Nat):call pg (n+46) 19 [.lst bs,d,.bl pl,.bl isc]=.ok (.str w,false,false):=by
 cases h with
 | none h=>
  refine aL (F:=f19) rfl rfl (v:=.cl (.str "none")) ?_
  exact cs rfl (cs rfl (cs (aCy h rfl rfl) rfl))
 | many h=>
  refine aL (F:=f19) rfl rfl (v:=.cl (.str "many")) ?_
  exact cs rfl (cs rfl (cs (aCy h rfl rfl) rfl))
 | told m h t q=>
  obtain⟨p,e⟩:=aEE (n:=n) h
  refine aL (F:=f19) rfl rfl (v:=.cl (.str "told")) ?_
  refine cs rfl (cs rfl (cs e (iP rfl (dE ?_))))
  have e1:ev pg (call pg (n+45)) [.sh true (.lst bs),.sh true d,.sh true (.bl pl),.sh true (.bl isc),.sh false .non,.sh p d,.dead,.dead] (.an (.isi (.v 5) [.tTuple]) (.cmp .Eq (.v 5) (.v 1)))=.ok (.cl (.bl true)):=by
   refine aHf (x:=true) (y:=true) ?_ ?_
   . rw[aEu]
     show(R.ok (⟨d,false,p&&!noL d,[]⟩:Vl) >>= _)=_
     rw[aB,t]
   . refine zX (x:=⟨d,false,p&&!noL d,[]⟩) (y:=⟨d,false,true&&!noL d,[]⟩) rfl rfl ?_
     rw[dN];exact q
  exact kF rfl (zY e1 rfl) rfl
theorem kK:∀(s:Sm) (n:Nat),eqF (n+s.sz+1) s.d s.d=some true
 | .num k,n=>by
  show eqF (n+2) (.tup [.str "number",.int k]) (.tup [.str "number",.int k])=_
  rw[cV]
  simp[bY,jD,cU]
 | .box k,n=>by
  show eqF (n+2) (.tup [.str "box",.int k]) (.tup [.str "box",.int k])=_
  rw[cV]
  simp[bY,jD,cU]
 | .aft k,n=>by
  show eqF (n+2) (.tup [.str "after",.int k]) (.tup [.str "after",.int k])=_
  rw[cV]
  simp[bY,jD,cU]
 | .two p a b,n=>by
  have e1:=kK a (n+b.sz)
  have e2:=kK b (n+a.sz)
  rw[show n+b.sz+a.sz+1=n+a.sz+b.sz+1 by omega] at e1
  show eqF (n+(1+a.sz+b.sz)+1) (.tup [.str (vD p),a.d,b.d]) (.tup [.str (vD p),a.d,b.d])=_
  rw[show n+(1+a.sz+b.sz)+1=n+a.sz+b.sz+1+1 by omega,cV]
  simp[bY,cU,e1,e2]
theorem nP:∀(s:Cn) (n:Nat),eqF (n+s.sz+1) s.d s.d=some true
 | .yes,n=>by
  show eqF (n+2) (.tup [.str "yes"]) (.tup [.str "yes"])=_
  rw[cV]
  simp[bY,cU]
 | .cmp i a b,n=>by
  have e1:=kK a (n+b.sz)
  have e2:=kK b (n+a.sz)
  rw[show n+b.sz+a.sz+1=n+a.sz+b.sz+1 by omega] at e1
  show eqF (n+(1+a.sz+b.sz)+1) (.tup [.str (gG i),a.d,b.d]) (.tup [.str (gG i),a.d,b.d])=_
  rw[show n+(1+a.sz+b.sz)+1=n+a.sz+b.sz+1+1 by omega,cV]
  simp[bY,cU,e1,e2]
 | .nt x,n=>by
  have e1:=nP x n
  show eqF (n+(1+x.sz)+1) (.tup [.str "not",x.d]) (.tup [.str "not",x.d])=_
  rw[show n+(1+x.sz)+1=n+x.sz+1+1 by omega,cV]
  simp[bY,cU,e1]
 | .two p a b,n=>by
  have e1:=nP a (n+b.sz)
  have e2:=nP b (n+a.sz)
  rw[show n+b.sz+a.sz+1=n+a.sz+b.sz+1 by omega] at e1
  show eqF (n+(1+a.sz+b.sz)+1) (.tup [.str (lU p),a.d,b.d]) (.tup [.str (lU p),a.d,b.d])=_
  rw[show n+(1+a.sz+b.sz)+1=n+a.sz+b.sz+1+1 by omega,cV]
  simp[bY,cU,e1,e2]
theorem aAh{s:Cn}(h:s.sz<=100):eqD s.d s.d=some true:=by
 have:=nP s (119-s.sz)
 rwa [show 119-s.sz+s.sz+1=120 by omega] at this
theorem aAi{s:Sm}(h:s.sz<=100):eqD s.d s.d=some true:=by
 have:=kK s (119-s.sz)
 rwa [show 119-s.sz+s.sz+1=120 by omega] at this
def ch:Nat->Cn
 | 0=>.yes
 | t+1=>.nt (ch t)
def sc(m:Int):Nat->Sm
 | 0=>.num m
 | t+1=>.two true (.box 0) (sc m t)
theorem aCz:∀t,(ch t).sz=t+1
 | 0=>rfl
 | t+1=>by show 1+(ch t).sz=_;rw[aCz t];omega
theorem aCA(m:Int):∀t,(sc m t).sz=2*t+1
 | 0=>rfl
 | t+1=>by show 1+1+(sc m t).sz=_;rw[aCA m t];omega
theorem pT{c:Nat}{pl:Bool}:∀t,(ch t).wf c pl
 | 0=>trivial
 | t+1=>pT t
theorem aCB{c:Nat}{pl:Bool}{m:Int}(h:1<=c)(hm:0<=m/\m<=99):∀t,(sc m t).wf c pl
 | 0=>hm
 | t+1=>⟨h,aCB h hm t⟩
abbrev aHl:Ss:=(.cons (.iff (.cmp .Gt (.op .Add (.v 3) (.c (.int 2))) (.c (.int 40)))
 (.cons (.ret (.tup (.cons (.v 6) (.cons (.c (.str "many")) .nil))))
 .nil)
 .nil)
 (.cons (.ret (.tup (.cons (.v 6) (.cons (.idx (.lst (.cons (.c (.str "told")) (.cons (.c (.str "none")) .nil))) (.op .Mod (.idx (.v 0) (.c (.int 0))) (.c (.int 2)))) .nil))))
 .nil))
theorem pU{cl:Caller}{xs:List Int}(hx:xs.length=11){s1 s2 s4 s5:Sl}{S:Nat}{p:Bool}{t6:D}{j:Nat}(hj:xs.getD 0 0 % 2=(j:Int))(hj2:j<2):∃p',exs pg cl [.sh true (.lst (xs.map D.int)),s1,s2,.sh false (.int (S:Int)),s4,s5,.sh p t6] aHl=.ret ⟨.tup [t6,.str (if 40<S+2 then "many" else if j=0 then "told" else "none")],false,p',[]⟩:=by
 have m2:∀i:Int,opD .Mod (.cl (.int i)) (.cl (.int 2))=.ok (.cl (.int (i % 2))):=λi=>aX (by decide)
 have t:tst pg cl [.sh true (.lst (xs.map D.int)),s1,s2,.sh false (.int (S:Int)),s4,s5,.sh p t6] (.cmp .Gt (.op .Add (.v 3) (.c (.int 2))) (.c (.int 40)))=.ok (decide ((40:Int)<(S:Int)+2)):=by
  rw[cT,aW (rfl:ev pg cl [.sh true (.lst (xs.map D.int)),s1,s2,.sh false (.int (S:Int)),s4,s5,.sh p t6] (.v 3)=.ok (.cl (.int (S:Int)))) (aQ ..) (add_int _ _)]
  rfl
 by_cases h:40<S+2
 . rw[if_pos h]
   refine⟨(p&&!noL t6)||(false||false),?_⟩
   refine iP (t.trans (by rw[decide_eq_true (by omega)])) (dE ?_)
   rfl
 . rw[if_neg h]
   refine⟨(p&&!noL t6)||(false||false),?_⟩
   refine cs (eT (t.trans (by rw[decide_eq_false (by omega)]))) (dE ?_)
   have i0:ev pg cl [.sh true (.lst (xs.map D.int)),s1,s2,.sh false (.int (S:Int)),s4,s5,.sh p t6] (.idx (.v 0) (.c (.int 0)))=.ok (.cl (.int (xs.getD 0 0))):=cF (i:=0) (k:=0) rfl (by omega)
   have z:ev pg cl [.sh true (.lst (xs.map D.int)),s1,s2,.sh false (.int (S:Int)),s4,s5,.sh p t6] (.idx (.lst (.cons (.c (.str "told")) (.cons (.c (.str "none")) .nil))) (.op .Mod (.idx (.v 0) (.c (.int 0))) (.c (.int 2))))=.ok (.cl (.str (if j=0 then "told" else "none"))):=by
    refine kF rfl (aW i0 (aQ ..) (m2 _)) ?_
    rw[hj]
    match j,hj2 with
    | 0,_=>rfl
    | 1,_=>rfl
   rw[dC,aC]
   show(R.ok (⟨t6,false,p&&!noL t6,[]⟩:Vl) >>= _) >>= _=_
   rw[aB,aC,z]
   rfl
theorem pV{cl:Caller}{xs:List Int}(hx:xs.length=11){w:Str}{s1 s3 s5 s6:Sl}{d0 dc g:D}{eg:E}(hg:ev pg cl [.sh true (.lst (xs.map D.int)),s1,.sh true d0,s3,.sh false dc,s5,s6] eg=.ok (.cl g)){j:Nat}(hj:xs.getD 0 0 % 2=(j:Int))(hj2:j<2) :
 ∃p,ex pg cl [.sh true (.lst (xs.map D.int)),s1,.sh true d0,s3,.sh false dc,s5,s6] (.set (.n 6) (.tup (.cons (.c (.str w)) (.cons (.v 4) (.cons (.idx (.lst (.cons eg (.cons (.v 2) .nil))) (.op .Mod (.idx (.v 0) (.c (.int 0))) (.c (.int 2)))) .nil))))) =
  .next [.sh true (.lst (xs.map D.int)),s1,.sh true d0,s3,.sh false dc,s5,.sh p (.tup [.str w,dc,if j=0 then g else d0])]:=by
 have m2:∀i:Int,opD .Mod (.cl (.int i)) (.cl (.int 2))=.ok (.cl (.int (i % 2))):=λi=>aX (by decide)
 have i0:ev pg cl [.sh true (.lst (xs.map D.int)),s1,.sh true d0,s3,.sh false dc,s5,s6] (.idx (.v 0) (.c (.int 0)))=.ok (.cl (.int (xs.getD 0 0))):=cF (i:=0) (k:=0) rfl (by omega)
 obtain⟨w1,hw1,ha1,el⟩:∃w1:Vl,w1.d=.lst [g,d0]/\w1.al=[]/\ev pg cl [.sh true (.lst (xs.map D.int)),s1,.sh true d0,s3,.sh false dc,s5,s6] (.lst (.cons eg (.cons (.v 2) .nil)))=.ok w1:=by
  refine⟨lB [.cl g,⟨d0,false,true&&!noL d0,[]⟩],rfl,rfl,?_⟩
  rw[kE,aC,hg]
  rfl
 have e1:=kF el (aW i0 (aQ ..) ((m2 _).trans (by rw[hj]))) (jF hw1 (j:=j) (by show j<2;exact hj2))
 have ha:(Vl.sub w1 ([g,d0][j]'(by show j<2;exact hj2))).al=[]:=by
  rcases sub_al w1 ([g,d0][j]'(by show j<2;exact hj2)) with h|h
  . exact h
  . rw[h,ha1]
 have hgj:([g,d0][j]'(by show j<2;exact hj2))=if j=0 then g else d0:=by
  match j,hj2 with
  | 0,_=>rfl
  | 1,_=>rfl
 have hsd:=aCu w1 ([g,d0][j]'(by show j<2;exact hj2))
 generalize Vl.sub w1 ([g,d0][j]'(by show j<2;exact hj2))=v at e1 ha hsd
 rw[hgj] at hsd
 generalize (if j=0 then g else d0)=dj at hsd
 obtain⟨vd,vf,vp,va⟩:=v
 have ha:va=[]:=ha
 have hsd:vd=dj:=hsd
 subst ha hsd
 have e2:ev pg cl [.sh true (.lst (xs.map D.int)),s1,.sh true d0,s3,.sh false dc,s5,s6] (.tup (.cons (.c (.str w)) (.cons (.v 4) (.cons (.idx (.lst (.cons eg (.cons (.v 2) .nil))) (.op .Mod (.idx (.v 0) (.c (.int 0))) (.c (.int 2)))) .nil))))=.ok ⟨.tup [.str w,dc,vd],false,false||(false||(vp||false)),[]⟩:=by
  rw[dC,aC,aQ,aB,aC]
  show((R.ok (⟨dc,false,false,[]⟩:Vl) >>= _) >>= _) >>= _=_
  rw[aB,aC,e1]
  rfl
 exact⟨_,iG e2⟩
theorem kL{P:Pg}{cl:Caller}{σ σ':Sg}{c:E}{a b:Ss}(h:tst P cl σ c=.ok true)(r:exs P cl σ a=.next σ'):ex P cl σ (.iff c a b)=.next σ':=by rw[cB,h,aP,if_pos rfl,r]
theorem aEF{P:Pg}{cl:Caller}{σ σ':Sg}{c:E}{a b:Ss}(h:tst P cl σ c=.ok false)(r:exs P cl σ b=.next σ'):ex P cl σ (.iff c a b)=.next σ':=by rw[cB,h,aP,if_neg bN,r]
theorem iI{x:Int}:∃j:Nat,x % 2=(j:Int)/\j<2:=by
 have h0:0<=x % 2:=Int.emod_nonneg _ (by decide)
 have h1:x % 2<2:=Int.emod_lt_of_pos _ (by decide)
 exact⟨(x % 2).toNat,by omega,by omega⟩
section
variable {bs:List D} {pl:Bool} {c:Nat} (hc:bs.length=c) (h1:1<=c) {d0:D}
include hc h1
theorem vC(hd:NB bs pl "cond" d0 1){t j:Nat}(hj:j<2):Vd bs pl true (.tup [.str "either",(ch t).d,if j=0 then .tup [.str "yes"] else d0]) (if 40<t+1+2 then "many" else if j=0 then "told" else "none"):=by
 have hz:=aCz t
 by_cases h:40<t+1+2
 . rw[if_pos h]
   refine .many ?_
   by_cases h2:t+1=39
   . exact .two (m:=40) (by decide) (cE false _ _) rC (lkC hc (ch t) 1 40 (pT t) (by omega) (by decide)) .many
   . exact .twoX (by decide) (cE false _ _) rC (pR hc (ch t) 1 (pT t) (by decide) (by omega)) (λ_ z=>nomatch z)
 . rw[if_neg h]
   match j,hj with
   | 0,_=>
    have e:Cn.sz (.two false (ch t) .yes)=1+(ch t).sz+1:=rfl
    exact .told (t+3) (lkC hc (.two false (ch t) .yes) 0 (t+3) ⟨pT t,trivial⟩ (by rw[e,hz];omega) (by omega)) rfl (aAh (s:=.two false (ch t) .yes) (by rw[e,hz];omega))
   | 1,_=>exact .none (.two (m:=t+2) (by decide) (cE false _ _) rC (lkC hc (ch t) 1 (t+2) (pT t) (by omega) (by omega)) (hd (t+2) (by omega)))
theorem vS(hd:NB bs pl "sum" d0 1){m:Int}(hm:0<=m/\m<=99){t j:Nat}(hj:j<2):Vd bs pl false (.tup [.str "minus",(sc m t).d,if j=0 then .tup [.str "number",.int 99] else d0]) (if 40<2*t+1+2 then "many" else if j=0 then "told" else "none"):=by
 have hz:=aCA m t
 have wf:(sc m t).wf c pl:=aCB h1 hm t
 by_cases h:40<2*t+1+2
 . rw[if_pos h]
   refine .many ?_
   by_cases h2:2*t+1=39
   . exact .two (m:=40) (by decide) (cS false _ _) rS (lkS hc (sc m t) 1 40 wf (by omega) (by decide)) .many
   . exact .twoX (by decide) (cS false _ _) rS (lX hc (sc m t) 1 wf (by decide) (by omega)) (λ_ z=>nomatch z)
 . rw[if_neg h]
   match j,hj with
   | 0,_=>
    have e:Sm.sz (.two false (sc m t) (.num 99))=1+(sc m t).sz+1:=rfl
    exact .told (2*t+3) (lkS hc (.two false (sc m t) (.num 99)) 0 (2*t+3) ⟨wf,(show(0:Int)<=99/\(99:Int)<=99 by decide)⟩ (by rw[e,hz];omega) (by omega)) rfl (aAi (s:=.two false (sc m t) (.num 99)) (by rw[e,hz];omega))
   | 1,_=>exact .none (.two (m:=2*t+2) (by decide) (cS false _ _) rS (lkS hc (sc m t) 1 (2*t+2) wf (by omega) (by omega)) (hd (2*t+2) (by omega)))
theorem aAj(n:Nat)(isc:Bool)(hd:NB bs pl (kd isc) d0 1){xs:List Int}(hx:xs.length=11):∃d w pa,Vd bs pl isc d w/\call pg (n+1) 17 [.lst (xs.map D.int),.bl isc,d0]=.ok (.tup [d,.str w],false,pa):=by
 obtain⟨j,hj,hj2⟩:=iI (x:=xs.getD 0 0)
 have q0:0<=xs.getD 2 0 % 20:=Int.emod_nonneg _ (by decide)
 have q1:xs.getD 2 0 % 20<20:=Int.emod_lt_of_pos _ (by decide)
 obtain⟨S,hS,hS1,hS2⟩:∃S:Nat,(24:Int)+xs.getD 2 0 % 20=(S:Int)/\24<=S/\S<=43:=⟨(24+xs.getD 2 0 % 20).toNat,by omega,by omega,by omega⟩
 have m20:opD .Mod (.cl (.int (xs.getD 2 0))) (.cl (.int 20))=.ok (.cl (.int (xs.getD 2 0 % 20))):=aX (by decide)
 have e1:ex pg (call pg n) [.sh true (.lst (xs.map D.int)),.sh true (.bl isc),.sh true d0,.dead,.dead,.dead,.dead] (.set (.n 3) (.op .Add (.c (.int 24)) (.op .Mod (.idx (.v 0) (.c (.int 2))) (.c (.int 20)))))=.next [.sh true (.lst (xs.map D.int)),.sh true (.bl isc),.sh true d0,.sh false (.int (S:Int)),.dead,.dead,.dead]:=by
  refine dL (d:=.int (S:Int)) (aW (aQ ..) (aW (cF (i:=0) (k:=2) rfl (by omega)) (aQ ..) m20) ?_)
  rw[add_int,hS]
 cases isc with
 | true=>
  have hw:walk pg (call pg n) [.sh true (.lst (xs.map D.int)),.sh true (.bl true),.sh true d0,.sh false (.int (S:Int)),.sh false (ch 0).d,.dead,.dead] (.rng (.c (.int 0)) (.op .Sub (.v 3) (.c (.int 1))))=.ok ((List.range (S-1)).map λ(k:Nat)=>Vl.cl (.int (k:Int)),[]):=dD (v:=.cl (.int ((S:Int)-1))) (aW rfl (aQ ..) (sub_int _ _)) (by show D.int ((S:Int)-1)=.int ((S-1:Nat):Int);congr 1;omega) (by omega)
  obtain⟨σ',e,hI⟩:=fR (t:=.n 5) (b:=(.cons (.set (.n 4) (.tup (.cons (.c (.str "not")) (.cons (.v 4) .nil)))) .nil)) (λt σ=>∃s5,σ=[.sh true (.lst (xs.map D.int)),.sh true (.bl true),.sh true d0,.sh false (.int (S:Int)),.sh false (ch t).d,s5,.dead]) hw ⟨_,rfl⟩ (λt ht σ hσ=>by
   obtain⟨s5,rfl⟩:=hσ
   refine⟨[.sh true (.lst (xs.map D.int)),.sh true (.bl true),.sh true d0,.sh false (.int (S:Int)),.sh false (ch t).d,.sh false (.int (t:Int)),.dead],[.sh true (.lst (xs.map D.int)),.sh true (.bl true),.sh true d0,.sh false (.int (S:Int)),.sh false (ch (t+1)).d,.sh false (.int (t:Int)),.dead],by rw[List.getElem_map,List.getElem_range,dJ];rfl,rfl,_,rfl⟩)
  obtain⟨s5,rfl⟩:=hI
  rw[lM,List.length_range] at e
  obtain⟨p,e6⟩:=pV (cl:=call pg n) hx (w:= "either") (s1:=.sh true (.bl true)) (s3:=.sh false (.int (S:Int))) (s5:=s5) (s6:=.dead) (d0:=d0) (dc:=(ch (S-1)).d) (g:=.tup [.str "yes"]) (eg:=.tup (.cons (.c (.str "yes")) .nil)) rfl hj hj2
  obtain⟨p',et⟩:=pU (cl:=call pg n) hx (s1:=.sh true (.bl true)) (s2:=.sh true d0) (s4:=.sh false (ch (S-1)).d) (s5:=s5) (S:=S) (p:=p) (t6:=.tup [.str "either",(ch (S-1)).d,if j=0 then .tup [.str "yes"] else d0]) hj hj2
  have v:=vC hc h1 hd (t:=S-1) hj2
  rw[show S-1+1+2=S+2 by omega] at v
  exact⟨_,_,p',v,aL (F:=f17) rfl rfl (v:=⟨_,false,p',[]⟩) (cs e1 (cs (kL rfl (cs (σ':=[.sh true (.lst (xs.map D.int)),.sh true (.bl true),.sh true d0,.sh false (.int (S:Int)),.sh false (ch 0).d,.dead,.dead]) rfl (cs e (cs e6 (bC ..))))) et))⟩
 | false=>
  have n0:0<=xs.getD 3 0 % 100:=Int.emod_nonneg _ (by decide)
  have n1:xs.getD 3 0 % 100<100:=Int.emod_lt_of_pos _ (by decide)
  have m100:opD .Mod (.cl (.int (xs.getD 3 0))) (.cl (.int 100))=.ok (.cl (.int (xs.getD 3 0 % 100))):=aX (by decide)
  have i3:ev pg (call pg n) [.sh true (.lst (xs.map D.int)),.sh true (.bl false),.sh true d0,.sh false (.int (S:Int)),.dead,.dead,.dead] (.idx (.v 0) (.c (.int 3)))=.ok (.cl (.int (xs.getD 3 0))):=cF (i:=0) (k:=3) rfl (by omega)
  generalize hm:xs.getD 3 0 % 100=m at n0 n1 m100
  have e4:ex pg (call pg n) [.sh true (.lst (xs.map D.int)),.sh true (.bl false),.sh true d0,.sh false (.int (S:Int)),.dead,.dead,.dead] (.set (.n 4) (.tup (.cons (.c (.str "number")) (.cons (.op .Mod (.idx (.v 0) (.c (.int 3))) (.c (.int 100))) .nil))))=.next [.sh true (.lst (xs.map D.int)),.sh true (.bl false),.sh true d0,.sh false (.int (S:Int)),.sh false (sc m 0).d,.dead,.dead]:=by
   refine dL (d:=(sc m 0).d) ?_
   rw[dC,aC,aQ,aB,aC,aW i3 (aQ ..) m100]
   rfl
  have d2:opD .FloorDiv (.cl (.int (S:Int))) (.cl (.int 2))=.ok (.cl (.int ((S / 2:Nat):Int))):=by
   rw[eB (by decide)];exact congrArg (λz=>R.ok (Vl.cl (.int z))) (by omega)
  have hw:walk pg (call pg n) [.sh true (.lst (xs.map D.int)),.sh true (.bl false),.sh true d0,.sh false (.int (S:Int)),.sh false (sc m 0).d,.dead,.dead] (.rng (.c (.int 0)) (.op .FloorDiv (.v 3) (.c (.int 2))))=.ok ((List.range (S / 2)).map λ(k:Nat)=>Vl.cl (.int (k:Int)),[]):=dD (v:=.cl (.int ((S / 2:Nat):Int))) (aW rfl (aQ ..) d2) rfl (by omega)
  obtain⟨σ',e,hI⟩:=fR (t:=.n 5) (b:=(.cons (.set (.n 4) (.tup (.cons (.c (.str "plus")) (.cons (.tup (.cons (.c (.str "box")) (.cons (.c (.int 0)) .nil))) (.cons (.v 4) .nil))))) .nil)) (λt σ=>∃s5,σ=[.sh true (.lst (xs.map D.int)),.sh true (.bl false),.sh true d0,.sh false (.int (S:Int)),.sh false (sc m t).d,s5,.dead]) hw ⟨_,rfl⟩ (λt ht σ hσ=>by
   obtain⟨s5,rfl⟩:=hσ
   refine⟨[.sh true (.lst (xs.map D.int)),.sh true (.bl false),.sh true d0,.sh false (.int (S:Int)),.sh false (sc m t).d,.sh false (.int (t:Int)),.dead],[.sh true (.lst (xs.map D.int)),.sh true (.bl false),.sh true d0,.sh false (.int (S:Int)),.sh false (sc m (t+1)).d,.sh false (.int (t:Int)),.dead],by rw[List.getElem_map,List.getElem_range,dJ];rfl,rfl,_,rfl⟩)
  obtain⟨s5,rfl⟩:=hI
  rw[lM,List.length_range] at e
  have e3:ex pg (call pg n) [.sh true (.lst (xs.map D.int)),.sh true (.bl false),.sh true d0,.sh false (.int (S:Int)),.sh false (sc m (S / 2)).d,s5,.dead] (.set (.n 3) (.op .Add (.op .Mult (.op .FloorDiv (.v 3) (.c (.int 2))) (.c (.int 2))) (.c (.int 1))))=.next [.sh true (.lst (xs.map D.int)),.sh true (.bl false),.sh true d0,.sh false (.int ((2*(S / 2)+1:Nat):Int)),.sh false (sc m (S / 2)).d,s5,.dead]:=by
   refine dL (d:=.int ((2*(S / 2)+1:Nat):Int)) (aW (aW (aW rfl (aQ ..) d2) (aQ ..) (mul_int (by simp[jM]))) (aQ ..) ?_)
   rw[add_int];exact congrArg (λz=>R.ok (Vl.cl (.int z))) (by omega)
  obtain⟨p,e6⟩:=pV (cl:=call pg n) hx (w:= "minus") (s1:=.sh true (.bl false)) (s3:=.sh false (.int ((2*(S / 2)+1:Nat):Int))) (s5:=s5) (s6:=.dead) (d0:=d0) (dc:=(sc m (S / 2)).d) (g:=.tup [.str "number",.int 99]) (eg:=.tup (.cons (.c (.str "number")) (.cons (.c (.int 99)) .nil))) rfl hj hj2
  obtain⟨p',et⟩:=pU (cl:=call pg n) hx (s1:=.sh true (.bl false)) (s2:=.sh true d0) (s4:=.sh false (sc m (S / 2)).d) (s5:=s5) (S:=2*(S / 2)+1) (p:=p) (t6:=.tup [.str "minus",(sc m (S / 2)).d,if j=0 then .tup [.str "number",.int 99] else d0]) hj hj2
  have v:=vS hc h1 hd (m:=m) ⟨n0,by omega⟩ (t:=S / 2) hj2
  exact⟨_,_,p',v,aL (F:=f17) rfl rfl (v:=⟨_,false,p',[]⟩) (cs e1 (cs (aEF rfl (cs e4 (cs e (cs e3 (cs e6 (bC ..)))))) et))⟩
end
def ShB(bs:List D)(pl:Bool)(k:Str)(t:Nat)(d:D):Prop:=NB bs pl k d (t+1)/\∀s,s<=40->40<=s+t->Lk bs pl k d s .many
def ShG(c:Nat)(pl isc:Bool)(t:Nat)(d:D):Prop:=if isc then ∃q:Cn,d=q.d/\q.wf c pl/\2 ^ t<=q.sz else ∃q:Sm,d=q.d/\q.wf c pl/\2 ^ t<=q.sz
def wd(isc p:Bool):Str:=if isc then lU p else vD p
theorem aHm{pl:Bool}(isc p:Bool)(a b:D):bL pl (kd isc) (.tup [.str (wd isc p),a,b]) [kd isc,kd isc]:=by
 cases isc with
 | true=>exact cE p a b
 | false=>exact cS p a b
theorem aHn(isc:Bool):Rec (kd isc):=by
 cases isc with
 | true=>exact rC
 | false=>exact rS
theorem ShB.step{bs:List D}{pl isc p:Bool}{t:Nat}{d:D}(h:ShB bs pl (kd isc) t d):ShB bs pl (kd isc) (t+1) (.tup [.str (wd isc p),d,d]):=by
 refine⟨NB.one (aHm isc p _ _) (aHn isc) h.1,λs h1 h2=>?_⟩
 by_cases q:s=40
 . subst q;exact .many
 . exact .twoX (by omega) (aHm isc p _ _) (aHn isc) (h.2 (s+1) (by omega) (by omega)) (λ_ z=>nomatch z)
theorem ShG.step{c:Nat}{pl isc p:Bool}{t:Nat}{d:D}(h:ShG c pl isc t d):ShG c pl isc (t+1) (.tup [.str (wd isc p),d,d]):=by
 cases isc with
 | true=>
  obtain⟨q,rfl,w,z⟩:∃q:Cn,d=q.d/\q.wf c pl/\2 ^ t<=q.sz:=h
  refine(⟨.two p q q,rfl,⟨w,w⟩,?_⟩:∃q':Cn,.tup [.str (wd true p),q.d,q.d]=q'.d/\q'.wf c pl/\2 ^ (t+1)<=q'.sz)
  show 2 ^ (t+1)<=1+q.sz+q.sz
  rw[Nat.pow_succ];omega
 | false=>
  obtain⟨q,rfl,w,z⟩:∃q:Sm,d=q.d/\q.wf c pl/\2 ^ t<=q.sz:=h
  refine(⟨.two p q q,rfl,⟨w,w⟩,?_⟩:∃q':Sm,.tup [.str (wd false p),q.d,q.d]=q'.d/\q'.wf c pl/\2 ^ (t+1)<=q'.sz)
  show 2 ^ (t+1)<=1+q.sz+q.sz
  rw[Nat.pow_succ];omega
def dF(isc:Bool):D:=.lst [.str (wd isc true),.str (wd isc false)]
abbrev shB:Ss:=(.cons (.set (.n 4) (.tup (.cons (.idx (.v 5) (.op .Mod (.op .FloorDiv (.idx (.v 0) (.c (.int 3))) (.op .Add (.v 6) (.c (.int 1)))) (.c (.int 2)))) (.cons (.v 4) (.cons (.v 4) .nil)))))
 .nil)
theorem aBV{cl:Caller}{xs:List Int}(hx:xs.length=11){isc p:Bool}{s1 s2 s3:Sl}{d:D}{t:Nat}(ht:t<=100):∃q p',exs pg cl [.sh true (.lst (xs.map D.int)),s1,s2,s3,.sh p d,.sh false (dF isc),.sh false (.int (t:Int))] shB =
 .next [.sh true (.lst (xs.map D.int)),s1,s2,s3,.sh p' (.tup [.str (wd isc q),d,d]),.sh false (dF isc),.sh false (.int (t:Int))]:=by
 have i3:ev pg cl [.sh true (.lst (xs.map D.int)),s1,s2,s3,.sh p d,.sh false (dF isc),.sh false (.int (t:Int))] (.idx (.v 0) (.c (.int 3)))=.ok (.cl (.int (xs.getD 3 0))):=cF (i:=0) (k:=3) rfl (by omega)
 have dv:opD .FloorDiv (.cl (.int (xs.getD 3 0))) (.cl (.int ((t:Int)+1)))=.ok (.cl (.int (xs.getD 3 0 / ((t:Int)+1)))):=eB (by simp only[nY,bA,decide_eq_true_eq];omega)
 obtain⟨j,hj,hj2⟩:=iI (x:=xs.getD 3 0 / ((t:Int)+1))
 have m2:opD .Mod (.cl (.int (xs.getD 3 0 / ((t:Int)+1)))) (.cl (.int 2))=.ok (.cl (.int (j:Int))):=by rw[aX (by decide),hj]
 have e5:ev pg cl [.sh true (.lst (xs.map D.int)),s1,s2,s3,.sh p d,.sh false (dF isc),.sh false (.int (t:Int))] (.idx (.v 5) (.op .Mod (.op .FloorDiv (.idx (.v 0) (.c (.int 3))) (.op .Add (.v 6) (.c (.int 1)))) (.c (.int 2))))=.ok (.cl (.str (wd isc (j==0)))):=by
  refine kF (x:=.cl (dF isc)) rfl (aW (aW i3 (aW rfl (aQ ..) (add_int _ _)) dv) (aQ ..) m2) ?_
  match j,hj2 with
  | 0,_=>rfl
  | 1,_=>rfl
 refine⟨j==0,false||((p&&!noL d)||((p&&!noL d)||false)),cs (iG ?_) (bC ..)⟩
 rw[dC,aC,e5]
 rfl
theorem rO{bs:List D}{pl:Bool}{c:Nat}(hc:bs.length=c)(h1:1<=c){d0:D}(n:Nat)(isc:Bool)(hd:NB bs pl (kd isc) d0 1){xs:List Int}(hx:xs.length=11):∃d w pa,Vd bs pl isc d w/\call pg (n+1) 18 [.lst (xs.map D.int),.bl isc,d0]=.ok (.tup [d,.str w],false,pa):=by
 obtain⟨j,hj,hj2⟩:=iI (x:=xs.getD 0 0)
 have q0:0<=xs.getD 2 0 % 55:=Int.emod_nonneg _ (by decide)
 have q1:xs.getD 2 0 % 55<55:=Int.emod_lt_of_pos _ (by decide)
 obtain⟨S,hS,hS1,hS2⟩:∃S:Nat,(6:Int)+xs.getD 2 0 % 55=(S:Int)/\6<=S/\S<=60:=⟨(6+xs.getD 2 0 % 55).toNat,by omega,by omega,by omega⟩
 have m55:opD .Mod (.cl (.int (xs.getD 2 0))) (.cl (.int 55))=.ok (.cl (.int (xs.getD 2 0 % 55))):=aX (by decide)
 have m2:opD .Mod (.cl (.int (xs.getD 0 0))) (.cl (.int 2))=.ok (.cl (.int (j:Int))):=by rw[aX (by decide),hj]
 have e1:ex pg (call pg n) [.sh true (.lst (xs.map D.int)),.sh true (.bl isc),.sh true d0,.dead,.dead,.dead,.dead] (.set (.n 3) (.op .Add (.c (.int 6)) (.op .Mod (.idx (.v 0) (.c (.int 2))) (.c (.int 55)))))=.next [.sh true (.lst (xs.map D.int)),.sh true (.bl isc),.sh true d0,.sh false (.int (S:Int)),.dead,.dead,.dead]:=by
  refine dL (d:=.int (S:Int)) (aW (aQ ..) (aW (cF (i:=0) (k:=2) rfl (by omega)) (aQ ..) m55) ?_)
  rw[add_int,hS]
 have t1:∀s4 s5 s6:Sl,tst pg (call pg n) [.sh true (.lst (xs.map D.int)),.sh true (.bl isc),.sh true d0,.sh false (.int (S:Int)),s4,s5,s6] (.cmp .Eq (.op .Mod (.idx (.v 0) (.c (.int 0))) (.c (.int 2))) (.c (.int 1)))=.ok (j==1):=λs4 s5 s6=>by
  refine kJ (i:=(j:Int)) (aW (cF (i:=0) (k:=0) rfl (by omega)) (aQ ..) m2) ?_
  match j,hj2 with
  | 0,_=>rfl
  | 1,_=>rfl
 obtain⟨p,d,e2,hgood⟩:∃p d,exs pg (call pg n) [.sh true (.lst (xs.map D.int)),.sh true (.bl isc),.sh true d0,.sh false (.int (S:Int)),.dead,.dead,.dead] (drp 1 f18.body) =
  exs pg (call pg n) [.sh true (.lst (xs.map D.int)),.sh true (.bl isc),.sh true d0,.sh false (.int (S:Int)),.sh p d,.sh false (dF isc),.dead] (drp 4 f18.body)/\(if j=1 then ShB bs pl (kd isc) 0 d else ShG c pl isc 0 d):=by
  match j,hj2,t1 with
  | 0,_,t1=>
   cases isc with
   | true=>exact⟨false,.tup [.str "yes"],cs rfl (cs (eT (t1 _ _ _)) (cs rfl rfl)),(⟨.yes,rfl,trivial,Nat.le_refl _⟩:∃q:Cn,.tup [.str "yes"]=q.d/\q.wf c pl/\2 ^ 0<=q.sz)⟩
   | false=>exact⟨false,.tup [.str "box",.int 0],cs rfl (cs (eT (t1 _ _ _)) (cs rfl rfl)),(⟨.box 0,rfl,h1,Nat.le_refl _⟩:∃q:Sm,.tup [.str "box",.int 0]=q.d/\q.wf c pl/\2 ^ 0<=q.sz)⟩
  | 1,_,t1=>
   have hb:ShB bs pl (kd isc) 0 d0:=by
    refine⟨hd,λs h1 h2=>?_⟩
    obtain rfl:s=40:=by omega
    exact .many
   refine⟨true&&!noL d0,d0,?_,hb⟩
   cases isc with
   | true=>exact cs rfl (cs (kL (t1 _ _ _) (cs rfl (bC ..))) (cs rfl rfl))
   | false=>exact cs rfl (cs (kL (t1 _ _ _) (cs rfl (bC ..))) (cs rfl rfl))
 have hw:walk pg (call pg n) [.sh true (.lst (xs.map D.int)),.sh true (.bl isc),.sh true d0,.sh false (.int (S:Int)),.sh p d,.sh false (dF isc),.dead] (.rng (.c (.int 0)) (.v 3))=.ok ((List.range S).map λ(k:Nat)=>Vl.cl (.int (k:Int)),[]):=dD (v:=.cl (.int (S:Int))) rfl rfl (by omega)
 obtain⟨σ',e,hI⟩:=fR (t:=.n 6) (b:=shB) (λt σ=>∃p d s6,(if j=1 then ShB bs pl (kd isc) t d else ShG c pl isc t d)/\σ=[.sh true (.lst (xs.map D.int)),.sh true (.bl isc),.sh true d0,.sh false (.int (S:Int)),.sh p d,.sh false (dF isc),s6]) hw ⟨p,d,_,hgood,rfl⟩ (λt ht σ hσ=>by
  obtain⟨p,d,s6,hd',rfl⟩:=hσ
  have ht':t<S:=by simpa using ht
  obtain⟨q,p',e⟩:=aBV (cl:=call pg n) hx (isc:=isc) (p:=p) (s1:=.sh true (.bl isc)) (s2:=.sh true d0) (s3:=.sh false (.int (S:Int))) (d:=d) (t:=t) (by omega)
  refine⟨_,_,by rw[List.getElem_map,List.getElem_range,dJ];rfl,e,p',_,_,?_,rfl⟩
  by_cases hj1:j=1
  . rw[if_pos hj1] at hd' ⊢;exact hd'.step
  . rw[if_neg hj1] at hd' ⊢;exact hd'.step)
 obtain⟨p,d,s6,hd',rfl⟩:=hI
 rw[lM,List.length_range] at hd'
 have t40:tst pg (call pg n) [.sh true (.lst (xs.map D.int)),.sh true (.bl isc),.sh true d0,.sh false (.int (S:Int)),.sh p d,.sh false (dF isc),s6] (.an (.cmp .Eq (.op .Mod (.idx (.v 0) (.c (.int 0))) (.c (.int 2))) (.c (.int 1))) (.cmp .Lt (.v 3) (.c (.int 40))))=.ok ((j==1)&&decide (S<40)):=by
  rw[zP,t1,aB]
  have:tst pg (call pg n) [.sh true (.lst (xs.map D.int)),.sh true (.bl isc),.sh true d0,.sh false (.int (S:Int)),.sh p d,.sh false (dF isc),s6] (.cmp .Lt (.v 3) (.c (.int 40)))=.ok (decide (S<40)):=by
   rw[cT]
   show R.ok (decide ((S:Int)<40))=_
   exact congrArg R.ok (decide_eq_decide.mpr (by omega))
  rw[this]
  cases j==1 <;> rfl
 have hp1:∀w:Str,∃p',ev pg (call pg n) [.sh true (.lst (xs.map D.int)),.sh true (.bl isc),.sh true d0,.sh false (.int (S:Int)),.sh p d,.sh false (dF isc),s6] (.tup (.cons (.v 4) (.cons (.c (.str w)) .nil)))=.ok ⟨.tup [d,.str w],false,p',[]⟩:=λw=>⟨(p&&!noL d)||(false||false),rfl⟩
 by_cases hj1:j=1
 . rw[if_pos hj1] at hd'
   subst hj1
   by_cases h40:S<40
   . obtain⟨p',ep⟩:=hp1 "none"
     exact⟨d, "none",p',.none (hd'.1 0 (by omega)),aL (F:=f18) rfl rfl (v:=⟨_,false,p',[]⟩) (cs e1 (e2.trans (cs e (iP (t40.trans (by rw[decide_eq_true h40];rfl)) (dE ep)))))⟩
   . obtain⟨p',ep⟩:=hp1 "many"
     exact⟨d, "many",p',.many (hd'.2 0 (by omega) (by omega)),aL (F:=f18) rfl rfl (v:=⟨_,false,p',[]⟩) (cs e1 (e2.trans (cs e (cs (eT (t40.trans (by rw[decide_eq_false h40];rfl))) (dE ep)))))⟩
 . rw[if_neg hj1] at hd'
   have hjf:(j==1)=false:=beq_eq_false_iff_ne.mpr hj1
   obtain⟨p',ep⟩:=hp1 "many"
   have h64:2 ^ 6<=2 ^ S:=Nat.pow_le_pow_right (by decide) hS1
   refine⟨d, "many",p',.many ?_,aL (F:=f18) rfl rfl (v:=⟨_,false,p',[]⟩) (cs e1 (e2.trans (cs e (cs (eT (t40.trans (by rw[hjf];rfl))) (dE ep)))))⟩
   cases isc with
   | true=>
    obtain⟨q,rfl,w,z⟩:∃q:Cn,d=q.d/\q.wf c pl/\2 ^ S<=q.sz:=hd'
    exact pR hc q 0 w (by decide) (by omega)
   | false=>
    obtain⟨q,rfl,w,z⟩:∃q:Sm,d=q.d/\q.wf c pl/\2 ^ S<=q.sz:=hd'
    exact lX hc q 0 w (by decide) (by omega)
theorem tQ(m:Nat):∀bs:List (Str×Int),bY (m+2) (aM bs) (aM bs)=some true
 | []=>by simp[aM,bY]
 | b::bs=>by
  have ih:=tQ m bs
  have e:eqF (m+2) (kP b) (kP b)=some true:=by
   unfold kP
   rw[cV]
   simp[bY,jD,cU]
  unfold aM at ih ⊢
  rw[mC,bY,e,ih]
  rfl
theorem aEG(bs:List (Str×Int)):eqD (.lst (aM bs)) (.lst (aM bs))=some true:=by
 show(if (aM bs).length=(aM bs).length then eqL (eqF 119) (aM bs) (aM bs) else some false)=some true
 rw[if_pos rfl,qH]
 exact tQ 117 bs
theorem aEH{α:Type}(xs:List α)(lo hi:Option Int):(cut xs lo hi).length<=xs.length:=by
 unfold cut
 rw[List.length_take,List.length_drop]
 omega
theorem vL(n:Nat){xs:List Int}(hx:xs.length=3):∃ps:List (Str×Int),1<=ps.length/\ps.length<=3/\call pg (n+1) 8 [.lst (xs.map D.int)]=.ok (.lst (aM ps),true,false):=by
 have a0:0<=xs.getD 0 0 % 3:=Int.emod_nonneg _ (by decide)
 have a1:xs.getD 0 0 % 3<3:=Int.emod_lt_of_pos _ (by decide)
 have b0:0<=xs.getD 1 0 % 5:=Int.emod_nonneg _ (by decide)
 have b1:xs.getD 1 0 % 5<5:=Int.emod_lt_of_pos _ (by decide)
 have m5:∀i:Int,opD .Mod (.cl (.int i)) (.cl (.int 5))=.ok (.cl (.int (i % 5))):=λi=>aX (by decide)
 have m3:∀i:Int,opD .Mod (.cl (.int i)) (.cl (.int 3))=.ok (.cl (.int (i % 3))):=λi=>aX (by decide)
 obtain⟨N,hN,hN1,hN2⟩:∃N:Nat,(1:Int)+xs.getD 0 0 % 3=(N:Int)/\1<=N/\N<=3:=⟨(1+xs.getD 0 0 % 3).toNat,by omega,by omega,by omega⟩
 generalize hT:(1:Int)+xs.getD 2 0 % 5=T
 generalize hZ:(1:Int)+xs.getD 1 0 % 5=Z
 have e1:ex pg (call pg n) [.sh true (.lst (xs.map D.int)),.dead,.dead] (.set (.n 1) (.lst (.cons (.op .Add (.c (.int 1)) (.op .Mod (.idx (.v 0) (.c (.int 2))) (.c (.int 5)))) (.cons (.c (.int 1)) (.cons (.c (.int 1)) .nil)))))=.next [.sh true (.lst (xs.map D.int)),.own false ([T,1,1].map D.int),.dead]:=by
  have z:ev pg (call pg n) [.sh true (.lst (xs.map D.int)),.dead,.dead] (.op .Add (.c (.int 1)) (.op .Mod (.idx (.v 0) (.c (.int 2))) (.c (.int 5))))=.ok (.cl (.int T)):=aW (aQ ..) (aW (cF (i:=0) (k:=2) rfl (by omega)) (aQ ..) (m5 _)) (by rw[add_int,hT])
  rw[cQ,kE,aC,z]
  rfl
 have e2:ex pg (call pg n) [.sh true (.lst (xs.map D.int)),.own false ([T,1,1].map D.int),.dead] (.set (.n 2) (.op .Add (.c (.int 1)) (.op .Mod (.idx (.v 0) (.c (.int 1))) (.c (.int 5)))))=.next [.sh true (.lst (xs.map D.int)),.own false ([T,1,1].map D.int),.sh false (.int Z)]:=dL (aW (aQ ..) (aW (cF (i:=0) (k:=1) rfl (by omega)) (aQ ..) (m5 _)) (by rw[add_int,hZ]))
 have hw:walk pg (call pg n) [.sh true (.lst (xs.map D.int)),.own false ([T,1,1].map D.int),.sh false (.int Z)] (.rng (.c (.int 0)) (.op .Add (.c (.int 1)) (.op .Mod (.idx (.v 0) (.c (.int 0))) (.c (.int 3)))))=.ok ((List.range N).map λ(k:Nat)=>Vl.cl (.int (k:Int)),[]):=dD (v:=.cl (.int (N:Int))) (aW (aQ ..) (aW (cF (i:=0) (k:=0) rfl (by omega)) (aQ ..) (m3 _)) (by rw[add_int,hN])) rfl (by omega)
 have hcm:ev pg (call pg n) [.sh true (.lst (xs.map D.int)),.own false ([T,1,1].map D.int),.sh false (.int Z)] (.comp 1 [1,2] (.n 0) (.rng (.c (.int 0)) (.op .Add (.c (.int 1)) (.op .Mod (.idx (.v 0) (.c (.int 0))) (.c (.int 3))))) .nil (.tup (.cons (.sli (.c (.str "abcdefgh")) (.cons (.v 0) .nil) (.cons (.op .Add (.v 0) (.v 2)) .nil)) (.cons (.idx (.v 1) (.v 0)) .nil))))=.ok ⟨.lst ((List.range N).map λ(k:Nat)=>kP (gQ "abcdefgh" (some (k:Int)) (some ((k:Int)+Z)),[T,1,1].getD k 0)),true,false,[]⟩:=by
  refine aEA (ts:=List.range N) (al:=[]) (λ(k:Nat)=>Vl.cl (.int (k:Int))) (λk=>kP (gQ "abcdefgh" (some (k:Int)) (some ((k:Int)+Z)),[T,1,1].getD k 0)) (λ_=>rfl) hw (by rw[List.length_range];unfold lim;omega) λk hk=>?_
  have hk:k<N:=List.mem_range.mp hk
  refine⟨[.sh false (.int (k:Int)),.own false ([T,1,1].map D.int),.sh false (.int Z)],by simp[dJ],?_⟩
  have sk1:aF (k:Int)=true:=by simp only[aF,bA,decide_eq_true_eq];omega
  have sk2:aF ((k:Int)+Z)=true:=by simp only[aF,bA,decide_eq_true_eq];omega
  have hsl:cH (.cl (.str "abcdefgh")) (some (k:Int)) (some ((k:Int)+Z))=.ok (.cl (.str (gQ "abcdefgh" (some (k:Int)) (some ((k:Int)+Z))))):=by
   have:decide (("abcdefgh" : Str).length<=lim)=true:=by decide +kernel
   show R.iff (decide (("abcdefgh" : Str).length<=lim)) _=_
   rw[this]
   rfl
  have i1:eE ⟨.lst ([T,1,1].map D.int),false,false,[1]⟩ (.cl (.int (k:Int)))=.ok (.cl (.int ([T,1,1].getD k 0))):=nK rfl (by show k<3;omega)
  have hmk:∀(a:Str) (b:Int),nZ [.cl (.str a),.cl (.int b)]=.cl (kP (a,b)):=λ_ _=>rfl
  simp only[dC,aC,bV,tF,pH,zO,fJ,aQ,bH,gS,gZ,dI,nJ,aB,add_int,dQ,sk1,sk2,Bool.and_self,sY,hsl,i1,hmk]
 refine⟨(List.range N).map λ(k:Nat)=>(gQ "abcdefgh" (some (k:Int)) (some ((k:Int)+Z)),[T,1,1].getD k 0),by simpa using hN1,by simpa using hN2,?_⟩
 have eb:aM ((List.range N).map λ(k:Nat)=>(gQ "abcdefgh" (some (k:Int)) (some ((k:Int)+Z)),[T,1,1].getD k 0))=(List.range N).map λ(k:Nat)=>kP (gQ "abcdefgh" (some (k:Int)) (some ((k:Int)+Z)),[T,1,1].getD k 0):=by
  unfold aM;rw[List.map_map];rfl
 rw[eb]
 exact aL (F:=f8) rfl rfl (v:=⟨_,true,false,[]⟩) (cs e1 (cs e2 (dE hcm)))
theorem nQ{P:Pg}{cl:Caller}{σ:Sg}{f:Nat}{a b c e:E}{x y z u:Vl}{d:D}(h1:ev P cl σ a=.ok x)(h2:ev P cl σ b=.ok y)(h3:ev P cl σ c=.ok z)(h4:ev P cl σ e=.ok u)(hc:cl f [x.d,y.d,z.d,u.d]=.ok (d,false,false)):ev P cl σ (.call f (.cons a (.cons b (.cons c (.cons e .nil)))))=.ok (.cl d):=by
 have e:evs P cl σ (.cons a (.cons b (.cons c (.cons e .nil))))=.ok [x,y,z,u]:=by rw[aC,h1,aB,aC,h2,aB,aC,h3,aB,aC,h4,aB,bV];rfl
 rw[bK,e,aB,show [x,y,z,u].map (·.d)=[x.d,y.d,z.d,u.d] from rfl,hc];rfl
abbrev sg(bs:List D)(xs:List Int)(c:Nat)(pl isc i:Bool)(k:Nat)(m:Int)(s7 s8 s9 s10:Sl):Sg:=[.sh true (.lst bs),.sh true (.lst (xs.map D.int)),.sh false (.int (c:Int)),.sh false (.bl pl),.sh false (.bl isc),.sh false (sD k),.sh false (cD i k m),s7,s8,s9,s10]
theorem aHo{s0 s1 s2 s3 s4 s5 s6 s7 s8 s9 s10:Sl}{d:D}{w:Str}{p:Bool}:∃p',bM [s0,s1,s2,s3,s4,s5,s6,s7,s8,s9,s10] ⟨.tup [d,.str w],false,p,[]⟩ (.t [7,8])=.ok [s0,s1,s2,s3,s4,s5,s6,.sh p' d,.sh false (.str w),s9,s10]:=by
 obtain⟨p',hp⟩:=kH ⟨.tup [d,.str w],false,p,[]⟩ d
 refine⟨p',?_⟩
 unfold bM
 simp only[lC,lN,if_true,List.zip_cons_cons,List.zip_nil_left,List.foldl_cons,List.foldl_nil,tJ (show Hp.noL (.str w)=true from rfl),fF,hp,lS,lZ]
theorem aEI{bs:List D}{c:Nat}(hc:bs.length=c){pl i:Bool}{k:Nat}{m:Int}(hk:k<c)(hm:0<=m/\m<=99):Vd bs pl true (cD i k m) "told" := .told 3 (lkC hc (.cmp i (.box k) (.num m)) 0 3 ⟨hk,hm⟩ rfl (by decide)) rfl (aAh (s:=.cmp i (.box k) (.num m)) (by show 3<=100;decide))
theorem aEJ{bs:List D}{c:Nat}(hc:bs.length=c){pl:Bool}{k:Nat}(hk:k<c):Vd bs pl false (sD k) "told" := .told 1 (lkS hc (.box k) 0 1 hk rfl (by decide)) rfl (aAi (s:=.box k) (by show 1<=100;decide))
theorem vM{bs:List D}{c:Nat}(hc:bs.length=c)(h1:1<=c){xs:List Int}(hx:xs.length=11)(hn:∀x∈xs,0<=x)(n:Nat):call pg (n+47) 20 [.lst bs,.lst (xs.map D.int)]=.ok (.bl true,false,false):=by
 have hm2:∀i:Int,opD .Mod (.cl (.int i)) (.cl (.int 2))=.ok (.cl (.int (i % 2))):=λi=>aX (by decide)
 have hm3:∀i:Int,opD .Mod (.cl (.int i)) (.cl (.int 3))=.ok (.cl (.int (i % 3))):=λi=>aX (by decide)
 have hm4:∀i:Int,opD .Mod (.cl (.int i)) (.cl (.int 4))=.ok (.cl (.int (i % 4))):=λi=>aX (by decide)
 have hm100:∀i:Int,opD .Mod (.cl (.int i)) (.cl (.int 100))=.ok (.cl (.int (i % 100))):=λi=>aX (by decide)
 have hmc:∀i:Int,opD .Mod (.cl (.int i)) (.cl (.int (c:Int)))=.ok (.cl (.int (i % c))):=λi=>aX (by omega)
 have hd2:∀i:Int,opD .FloorDiv (.cl (.int i)) (.cl (.int 2))=.ok (.cl (.int (i / 2))):=λi=>eB (by decide)
 have hd4:∀i:Int,opD .FloorDiv (.cl (.int i)) (.cl (.int 4))=.ok (.cl (.int (i / 4))):=λi=>eB (by decide)
 have hd6:∀i:Int,opD .FloorDiv (.cl (.int i)) (.cl (.int 6))=.ok (.cl (.int (i / 6))):=λi=>eB (by decide)
 have hd8:∀i:Int,opD .FloorDiv (.cl (.int i)) (.cl (.int 8))=.ok (.cl (.int (i / 8))):=λi=>eB (by decide)
 have i9:∀r:Sg,ev pg (call pg (n+46)) (.sh true (.lst bs)::.sh true (.lst (xs.map D.int))::r) (.idx (.v 1) (.c (.int 9)))=.ok (.cl (.int (xs.getD 9 0))):=λr=>cF (i:=1) (k:=9) rfl (by omega)
 have i10:∀r:Sg,ev pg (call pg (n+46)) (.sh true (.lst bs)::.sh true (.lst (xs.map D.int))::r) (.idx (.v 1) (.c (.int 10)))=.ok (.cl (.int (xs.getD 10 0))):=λr=>cF (i:=1) (k:=10) rfl (by omega)
 have i4:∀r:Sg,ev pg (call pg (n+46)) (.sh true (.lst bs)::.sh true (.lst (xs.map D.int))::r) (.idx (.v 1) (.c (.int 4)))=.ok (.cl (.int (xs.getD 4 0))):=λr=>cF (i:=1) (k:=4) rfl (by omega)
 obtain⟨pl,hpl⟩:∃pl:Bool,(xs.getD 9 0 % 2==0)=pl:=⟨_,rfl⟩
 obtain⟨isc,hisc⟩:∃isc:Bool,decide (0<xs.getD 9 0 / 2 % 3)=isc:=⟨_,rfl⟩
 have k0:0<=xs.getD 10 0 % (c:Int):=Int.emod_nonneg _ (by omega)
 have k1:xs.getD 10 0 % (c:Int)<(c:Int):=Int.emod_lt_of_pos _ (by omega)
 obtain⟨k,hk⟩:∃k:Nat,xs.getD 10 0 % (c:Int)=k:=⟨(xs.getD 10 0 % (c:Int)).toNat,by omega⟩
 have hkc:k<c:=by omega
 have n0:0<=xs.getD 10 0 / 8 % 100:=Int.emod_nonneg _ (by decide)
 have n1:xs.getD 10 0 / 8 % 100<100:=Int.emod_lt_of_pos _ (by decide)
 obtain⟨m,hm⟩:∃m:Int,xs.getD 10 0 / 8 % 100=m:=⟨_,rfl⟩
 have hm':0<=m/\m<=99:=by omega
 obtain⟨i,hi⟩:=tP hc (xs.getD 10 0 / 4)
 obtain⟨d1,pa1,b1,c15⟩:=rN (pl:=pl) hc (n+42) (i:=i) hkc hm' isc hx hn
 obtain⟨d0,b0,c16⟩:=aAg (pl:=pl) hc (n+45) (xs.getD 4 0) isc
 obtain⟨dl,wl,pal,vl,c17⟩:=aAj hc h1 (n+45) isc b0 hx
 obtain⟨ds,ws,pas,vs,c18⟩:=rO hc h1 (n+45) isc b0 hx
 refine aL (F:=f20) rfl rfl (v:=.cl (.bl true)) ?_
 show exs pg (call pg (n+46)) [.sh true (.lst bs),.sh true (.lst (xs.map D.int)),.dead,.dead,.dead,.dead,.dead,.dead,.dead,.dead,.dead] f20.body=_
 refine cs (dL (d:=.int (c:Int)) ?_) (cs (dL (d:=.bl pl) ?_) (cs (dL (d:=.bl isc) ?_) (cs (dL (d:=sD k) ?_) (cs (dL (d:=cD i k m) ?_) ?_))))
 . rw[<-hc];rfl
 . rw[<-hpl]
   exact zX (x:=.cl (.int (xs.getD 9 0 % 2))) (aW (i9 _) (aQ ..) (hm2 _)) (aQ ..) (by rw[dQ,dQ,dN,jE])
 . rw[<-hisc]
   exact zX (x:=.cl (.int (xs.getD 9 0 / 2 % 3))) (aW (aW (i9 _) (aQ ..) (hd2 _)) (aQ ..) (hm3 _)) (aQ ..) (by rw[dQ,dQ,aEz])
 . have z:ev pg (call pg (n+46)) [.sh true (.lst bs),.sh true (.lst (xs.map D.int)),.sh false (.int (c:Int)),.sh false (.bl pl),.sh false (.bl isc),.dead,.dead,.dead,.dead,.dead,.dead] (.op .Mod (.idx (.v 1) (.c (.int 10))) (.v 2))=.ok (.cl (.int (k:Int))):=aW (y:=.cl (.int (c:Int))) (i10 _) rfl (by rw[hmc,hk])
   show ev pg (call pg (n+46)) [.sh true (.lst bs),.sh true (.lst (xs.map D.int)),.sh false (.int (c:Int)),.sh false (.bl pl),.sh false (.bl isc),.dead,.dead,.dead,.dead,.dead,.dead] _=_
   rw[dC,aC,aQ,aB,aC,z]
   rfl
 . have z1:ev pg (call pg (n+46)) [.sh true (.lst bs),.sh true (.lst (xs.map D.int)),.sh false (.int (c:Int)),.sh false (.bl pl),.sh false (.bl isc),.sh false (sD k),.dead,.dead,.dead,.dead,.dead] (.idx (.lst (.cons (.c (.str "is")) (.cons (.c (.str "less")) .nil))) (.op .Mod (.op .FloorDiv (.idx (.v 1) (.c (.int 10))) (.c (.int 4))) (.c (.int 2))))=.ok (.cl (.str (gG i))):=kF rfl (aW (aW (i10 _) (aQ ..) (hd4 _)) (aQ ..) (hm2 _)) hi
   have z2:ev pg (call pg (n+46)) [.sh true (.lst bs),.sh true (.lst (xs.map D.int)),.sh false (.int (c:Int)),.sh false (.bl pl),.sh false (.bl isc),.sh false (sD k),.dead,.dead,.dead,.dead,.dead] (.tup (.cons (.c (.str "number")) (.cons (.op .Mod (.op .FloorDiv (.idx (.v 1) (.c (.int 10))) (.c (.int 8))) (.c (.int 100))) .nil)))=.ok (.cl (.tup [.str "number",.int m])):=by
    rw[dC,aC,aQ,aB,aC,aW (aW (i10 _) (aQ ..) (hd8 _)) (aQ ..) (hm100 _),hm]
    rfl
   show ev pg (call pg (n+46)) [.sh true (.lst bs),.sh true (.lst (xs.map D.int)),.sh false (.int (c:Int)),.sh false (.bl pl),.sh false (.bl isc),.sh false (sD k),.dead,.dead,.dead,.dead,.dead] _=_
   rw[dC,aC,z1,aB,aC]
   show((R.ok (Vl.cl (sD k)) >>= _) >>= _) >>= _=_
   rw[aB,aC,z2]
   rfl
 . show exs pg (call pg (n+46)) (sg bs xs c pl isc i k m .dead .dead .dead .dead) _=_
   obtain⟨p7,e7⟩:∃p7,ex pg (call pg (n+46)) (sg bs xs c pl isc i k m .dead .dead .dead .dead) (.set (.n 7) (.call 15 (.cons (.v 1) (.cons (.v 4) (.cons (.v 6) (.cons (.v 5) (.cons (.v 2) (.cons (.v 3) .nil))))))))=.next (sg bs xs c pl isc i k m (.sh p7 d1) .dead .dead .dead):=by
    have e:evs pg (call pg (n+46)) (sg bs xs c pl isc i k m .dead .dead .dead .dead) (.cons (.v 1) (.cons (.v 4) (.cons (.v 6) (.cons (.v 5) (.cons (.v 2) (.cons (.v 3) .nil))))))=.ok [⟨.lst (xs.map D.int),false,true,[]⟩,.cl (.bl isc),.cl (cD i k m),.cl (sD k),.cl (.int (c:Int)),.cl (.bl pl)]:=rfl
    have e':∃p7,ev pg (call pg (n+46)) (sg bs xs c pl isc i k m .dead .dead .dead .dead) (.call 15 (.cons (.v 1) (.cons (.v 4) (.cons (.v 6) (.cons (.v 5) (.cons (.v 2) (.cons (.v 3) .nil)))))))=.ok ⟨d1,false,p7,[]⟩:=by
     rw[bK,e,aB]
     show ∃p7,(call pg (n+46) 15 [.lst (xs.map D.int),.bl isc,cD i k m,sD k,.int (c:Int),.bl pl] >>= _)=_
     rw[show call pg (n+46) 15 [.lst (xs.map D.int),.bl isc,cD i k m,sD k,.int (c:Int),.bl pl]=_ from c15,aB]
     cases pa1 with
     | true=>exact⟨true,rfl⟩
     | false=>exact⟨false,rfl⟩
    obtain⟨p7,e'⟩:=e'
    exact⟨p7,iG e'⟩
   refine cs e7 (cs (σ':=sg bs xs c pl isc i k m (.sh p7 d1) (.sh false (.str "none")) .dead .dead) rfl (cs (dL (d:=d0) (tE (i4 _) rfl rfl c16)) ?_))
   show exs pg (call pg (n+46)) (sg bs xs c pl isc i k m (.sh p7 d1) (.sh false (.str "none")) (.sh false d0) .dead) _=_
   have tq:∀(s7 s8 s9:Sl) (j:Int),tst pg (call pg (n+46)) (sg bs xs c pl isc i k m s7 s8 s9 .dead) (.cmp .Eq (.op .Mod (.op .FloorDiv (.idx (.v 1) (.c (.int 9))) (.c (.int 6))) (.c (.int 4))) (.c (.int j)))=.ok (xs.getD 9 0 / 6 % 4==j):=λs7 s8 s9 j=>kJ (aW (aW (i9 _) (aQ ..) (hd6 _)) (aQ ..) (hm4 _)) rfl
   have es:∀(f:Nat) (d:D) (w:Str) (pa p:Bool) (dd:D),call pg (n+46) f [.lst (xs.map D.int),.bl isc,d0]=.ok (.tup [d,.str w],false,pa)->∃p',ex pg (call pg (n+46)) (sg bs xs c pl isc i k m (.sh p dd) (.sh false (.str "none")) (.sh false d0) .dead) (.set (.t [7,8]) (.call f (.cons (.v 1) (.cons (.v 4) (.cons (.v 9) .nil)))))=.next (sg bs xs c pl isc i k m (.sh p' d) (.sh false (.str w)) (.sh false d0) .dead):=by
    intro f d w pa p dd hf
    obtain⟨p1,e1⟩:=gJ (P:=pg) (cl:=call pg (n+46)) (σ:=sg bs xs c pl isc i k m (.sh p dd) (.sh false (.str "none")) (.sh false d0) .dead) (f:=f) (a:=.v 1) (b:=.v 4) (c:=.v 9) (x:=⟨.lst (xs.map D.int),false,true,[]⟩) (y:=.cl (.bl isc)) (z:=⟨d0,false,false&&!noL d0,[]⟩) rfl rfl rfl rfl rfl rfl hf
    obtain⟨p',e2⟩:=aHo (s0:=.sh true (.lst bs)) (s1:=.sh true (.lst (xs.map D.int))) (s2:=.sh false (.int (c:Int))) (s3:=.sh false (.bl pl)) (s4:=.sh false (.bl isc)) (s5:=.sh false (sD k)) (s6:=.sh false (cD i k m)) (s7:=.sh p dd) (s8:=.sh false (.str "none")) (s9:=.sh false d0) (s10:=.dead) (d:=d) (w:=w) (p:=p1)
    refine⟨p',?_⟩
    rw[cQ,e1,aP,cL]
    exact(congrArg (λz=>O.from _ z _) e2).trans rfl
   obtain⟨p,d,w,hv,eg⟩:∃p d w,Vd bs pl isc d w/\∀o,exs pg (call pg (n+46)) (sg bs xs c pl isc i k m (.sh p d) (.sh false (.str w)) (.sh false d0) .dead) (drp 10 f20.body)=o->exs pg (call pg (n+46)) (sg bs xs c pl isc i k m (.sh p7 d1) (.sh false (.str "none")) (.sh false d0) .dead) (drp 8 f20.body)=o:=by
    by_cases q1:xs.getD 9 0 / 6 % 4=1
    . obtain⟨p,e1⟩:=es 17 dl wl pal p7 d1 c17
      refine⟨p,dl,wl,vl,λo h=>cs (kL ((tq _ _ _ 1).trans (by rw[q1];rfl)) (cs e1 (bC ..))) (cs (eT ((tq _ _ _ 2).trans (by rw[q1];rfl))) h)⟩
    . have t1:=(tq (.sh p7 d1) (.sh false (.str "none")) (.sh false d0) 1).trans (by rw[beq_eq_false_iff_ne.mpr q1])
      by_cases q2:xs.getD 9 0 / 6 % 4=2
      . obtain⟨p,e1⟩:=es 18 ds ws pas p7 d1 c18
        exact⟨p,ds,ws,vs,λo h=>cs (eT t1) (cs (kL ((tq _ _ _ 2).trans (by rw[q2];rfl)) (cs e1 (bC ..))) h)⟩
      . exact⟨p7,d1, "none",.none (b1 0 (by decide)),λo h=>cs (eT t1) (cs (eT ((tq _ _ _ 2).trans (by rw[beq_eq_false_iff_ne.mpr q2]))) h)⟩
   refine eg _ ?_
   have a1:=iH hv n
   have a2:=iH (aEI hc hkc hm' (pl:=pl) (i:=i)) n
   have a3:=iH (aEJ hc hkc (pl:=pl)) n
   have hww:(w==w)=true:=beq_self_eq_true w
   have qt:(("told" : Str) == "told")=true:=by decide +kernel
   refine cs (eT ?_) (cs (dL (d:=.bl true) (aCs (nQ (x:=⟨.lst bs,false,true,[]⟩) rfl (rfl:ev pg (call pg (n+46)) (sg bs xs c pl isc i k m (.sh p d) (.sh false (.str w)) (.sh false d0) .dead) (.v 6)=.ok (.cl (cD i k m))) rfl (aQ ..) a2) qt)) (dE (aHf (x:=true) (y:=true) rfl (aCs (nQ (x:=⟨.lst bs,false,true,[]⟩) rfl rfl rfl (aQ ..) a3) qt))))
   rw[cT,nQ (x:=⟨.lst bs,false,true,[]⟩) (y:=⟨d,false,p&&!noL d,[]⟩) rfl rfl rfl rfl a1,aB]
   show(match bP .NotEq (.str w) (.str w) with|some k=>R.ok k|none=>.bad)=_
   rw[aEy,gF,hww]
   rfl
def aBW:Ss:=(.cons (.iff (.nt (.call 20 (.cons (.v 2) (.cons (.call 7 (.cons (.v 3) (.cons (.c (.int 11)) .nil))) .nil))))
 (.cons (.ret (.c (.bl false)))
 .nil)
 .nil)
 .nil)
theorem aAk{bs:List D}(h1:1<=bs.length){s0 s1:Sl}{i:Int}:exs pg (call pg 59) [s0,s1,.own false bs,.sh false (.int i)] aBW=.next [s0,s1,.own false bs,.sh false (.int i)]:=by
 have c7:=lR (P:=pg) (f:=7) rfl 58 i (m:=11) (by decide)
 have c7:call pg 59 7 [.int i,.int 11]=.ok (.lst ((strm i 11).map D.int),true,false):=c7
 have c20:=vM rfl h1 (pM i 11) (aBF i 11) 12
 have c20:call pg 59 20 [.lst bs,.lst ((strm i 11).map D.int)]=.ok (.bl true,false,false):=c20
 simp only[aBW,aT,bC,cB,aEv,zQ,bK,aC,bV,fJ,aQ,bH,gS,gZ,dI,nJ,aB,mC,mN,dQ,c7,zW,c20,zV,aEx,Bool.not_true,aP,bF,if_false,zN]
theorem pure(ns:List Int)(hn:ns.length<=63):∃fr pa,call pg 60 21 [.lst (ns.map D.int)]=.ok (.bl true,fr,pa):=by
 have cs':=lR (P:=pg) (f:=7) rfl 58 ((ns++[0]).getD 0 0) (m:=3) (by omega)
 have hx:=pM ((ns++[0]).getD 0 0) 3
 generalize hcell:(ns++[0]).getD 0 0=cell at cs' hx
 generalize strm cell 3=xs at cs' hx
 obtain⟨ps,hp1,hp3,cb⟩:=vL 58 hx
 have cs':call pg 59 7 [.int cell,.int 3]=.ok (.lst (xs.map D.int),true,false):=cs'
 have cb:call pg 59 8 [.lst (xs.map D.int)]=.ok (.lst (aM ps),true,false):=cb
 have hpl:1<=(aM ps).length:=by unfold aM;rw[lM];exact hp1
 have a0:ev pg (call pg 59) [.sh true (.lst (ns.map D.int)),.dead,.dead,.dead] (.idx (.op .Add (.v 0) (.lst (.cons (.c (.int 0)) .nil))) (.c (.int 0)))=.ok (.cl (.int cell)):=by
  have hl:ns.length+1<=lim:=by unfold lim;omega
  have e:opD .Add ⟨.lst (ns.map D.int),false,true,[]⟩ ⟨.lst [.int 0],true,false,[]⟩=.ok ⟨.lst ((ns++[0]).map D.int),true,false,[]⟩:=by
   have hd:decide ((ns.map D.int).length+[D.int 0].length<=lim)=true:=decide_eq_true (by simpa using hl)
   show R.iff (decide ((ns.map D.int).length+[D.int 0].length<=lim)) (R.ok (⟨.lst (ns.map D.int++[D.int 0]),true,(true&&!noLs (ns.map D.int))||(false&&!noLs [D.int 0]),(if noLs (ns.map D.int)=true then [] else [])++(if noLs [D.int 0]=true then [] else [])⟩:Vl))=_
   rw[hd,dR]
   simp[noLs,Hp.noL]
  have i0:=nK (v:=⟨.lst ((ns++[0]).map D.int),true,false,[]⟩) (is:=ns++[0]) (k:=0) rfl (by simp)
  rw[hcell] at i0
  exact kF (aW rfl rfl e) rfl i0
 have hw:walk pg (call pg 59) [.sh true (.lst (ns.map D.int)),.own false (aM ps),.own false (aM ps),.dead] (.seq (.op .Add (.sli (.v 0) (.cons (.c (.int 1)) .nil) (.cons (.c (.int 17)) .nil)) (.lst (.cons (.bi .len (.cons (.v 0) .nil)) .nil)))) =
  .ok ((cut ns (some 1) (some 17)++[(ns.length:Int)]).map λi=>Vl.cl (.int i),[]):=by
  have e1:=gK (P:=pg) (cl:=call pg 59) (σ:=[.sh true (.lst (ns.map D.int)),.own false (aM ps),.own false (aM ps),.dead]) (i:=0) (xs:=ns) (a:=1) (b:=17) rfl (by decide) (by decide)
  have hcl:=aEH ns (some 1) (some 17)
  generalize cut ns (some 1) (some 17)=cc at e1 hcl
  have e2:ev pg (call pg 59) [.sh true (.lst (ns.map D.int)),.own false (aM ps),.own false (aM ps),.dead] (.lst (.cons (.bi .len (.cons (.v 0) .nil)) .nil))=.ok ⟨.lst [.int (ns.length:Int)],true,false,[]⟩:=by
   have:ev pg (call pg 59) [.sh true (.lst (ns.map D.int)),.own false (aM ps),.own false (aM ps),.dead] (.bi .len (.cons (.v 0) .nil))=.ok (.cl (.int (ns.length:Int))):=by
    rw[zY (x:=⟨.lst (ns.map D.int),false,true,[]⟩) rfl (tD ..),lM]
   rw[kE,aC,this]
   rfl
  have e:opD .Add ⟨.lst (cc.map D.int),true,false,[]⟩ ⟨.lst [.int (ns.length:Int)],true,false,[]⟩=.ok ⟨.lst ((cc++[(ns.length:Int)]).map D.int),true,false,[]⟩:=by
   have hd:decide ((cc.map D.int).length+[D.int (ns.length:Int)].length<=lim)=true:=decide_eq_true (by simp;unfold lim;omega)
   show R.iff (decide ((cc.map D.int).length+[D.int (ns.length:Int)].length<=lim)) (R.ok (⟨.lst (cc.map D.int++[D.int (ns.length:Int)]),true,(false&&!noLs (cc.map D.int))||(false&&!noLs [D.int (ns.length:Int)]),(if noLs (cc.map D.int)=true then [] else [])++(if noLs [D.int (ns.length:Int)]=true then [] else [])⟩:Vl))=_
   rw[hd,dR]
   simp[noLs,Hp.noL]
  have hit:∀(v:Vl) (is:List Int),items v (is.map D.int)=is.map λi=>Vl.cl (.int i):=λv is=>lQ (g:=D.int) (λ_=>rfl) is
  rw[pI,aW e1 e2 e,aB]
  show R.ok (items _ ((cc++[(ns.length:Int)]).map D.int),[])=_
  rw[hit]
 obtain⟨σ',e,hI⟩:=fR (t:=.n 3) (b:=aBW) (λk σ=>∃s3,σ=[.sh true (.lst (ns.map D.int)),.own false (aM ps),.own false (aM ps),s3]) hw ⟨_,rfl⟩ (λk hk σ hσ=>by
  obtain⟨s3,rfl⟩:=hσ
  exact⟨_,_,by rw[List.getElem_map,dJ];rfl,aAk hpl,_,rfl⟩)
 obtain⟨s3,rfl⟩:=hI
 have hlist:biD .list [⟨.lst (aM ps),false,false,[1]⟩]=.ok ⟨.lst (aM ps),true,false,[]⟩:=by
  show R.ok (⟨.lst (aM ps),true,false&&!noLs (aM ps),if noLs (aM ps)=true then [] else [1]⟩:Vl)=_
  rw[iQ]
  rfl
 have hq:=aEG ps
 refine⟨false,false,aL (F:=f21) rfl rfl (v:=.cl (.bl true)) ?_⟩
 show exs pg (call pg 59) [.sh true (.lst (ns.map D.int)),.dead,.dead,.dead] (.cons (.set (.n 1) (.call 8 (.cons (.call 7 (.cons (.idx (.op .Add (.v 0) (.lst (.cons (.c (.int 0)) .nil))) (.c (.int 0))) (.cons (.c (.int 3)) .nil))) .nil)))
  (.cons (.set (.n 2) (.bi .list (.cons (.v 1) .nil)))
  (.cons (.for (.n 3) (.seq (.op .Add (.sli (.v 0) (.cons (.c (.int 1)) .nil) (.cons (.c (.int 17)) .nil)) (.lst (.cons (.bi .len (.cons (.v 0) .nil)) .nil)))) aBW)
  (.cons (.ret (.cmp .Eq (.v 2) (.v 1))) .nil))))=_
 simp only[aT,bC,cQ,bK,aC,bV,a0,aQ,aB,mC,mN,dQ,cs',zW,cb,aP,cL,dJ,aBz,lS,lZ,zN,aCr,fJ,bH,gS,gZ,nJ,hlist,e,zT,rE,dN,hq,aGW]
end K08
end
noncomputable section
set_option maxRecDepth 100000
set_option maxHeartbeats 0
namespace K08
open PySem PySem.W L2 Hp Hh
def ix:List (Nat×List Str):=(15,["thing"]) ::
 (16,["thing", "least", "most"]) ::
 (22,["boxes", "thing", "plain"]) ::
 (23,["boxes", "thing", "plain"]) ::
 (24,["boxes", "kind", "thing", "plain", "seen", "form", "due", "inner"]) ::
 (25,["kind", "thing", "plain", "word", "form"]) ::
 (26,["boxes", "due", "thing", "most"]) ::
 (28,["_law_cell", "_law_many", "_law_found", "_law_number", "_law_k"]) ::
 (29,["_law_xs", "_law_tops", "_law_size"]) ::
 (30,["_law_x", "_law_c", "_law_s", "_law_some"]) ::
 (31,["_law_x", "_law_s", "_law_some"]) ::
 (32,["_law_x", "_law_count", "_law_some"]) ::
 (33,["_law_x", "_law_c", "_law_s", "_law_count", "_law_plain", "_law_some", "_law_last"]) ::
 (34,["_law_xs", "_law_thing", "_law_c", "_law_x", "_law_some"]) ::
 (35,["_law_xs", "_law_thing", "_law_s", "_law_x", "_law_some"]) ::
 (36,["_law_xs", "_law_is_cond", "_law_c", "_law_s", "_law_count", "_law_plain", "_law_bad"]) ::
 (37,["_law_x", "_law_is_cond", "_law_count"]) ::
 (38,["_law_xs", "_law_is_cond", "_law_bad", "_law_size", "_law_chain", "_law_k", "_law_thing"]) ::
 (39,["_law_xs", "_law_is_cond", "_law_bad", "_law_deep", "_law_thing", "_law_words", "_law_k"]) ::
 (40,["_law_boxes_here", "_law_thing", "_law_plain", "_law_is_cond", "_law_found", "_law_told", "error", "_law_at"]) ::
 (41,["_law_boxes_here", "_law_xs", "_law_count", "_law_plain", "_law_is_cond", "_law_s", "_law_c", "_law_thing", "_law_due", "_law_bad", "_law_good"]) ::
 (42,["_law_script", "_law_boxes_here", "_law_handed", "_law_cell"])::[]
def sn:Sn:=⟨[("MOST_PARTS",(.int 40)),("MOST_NUMBER",(.int 99))],[("SUM_FORMS",[("number",["number"]),("box",["box"]),("after",["box"]),("plus",["sum", "sum"]),("minus",["sum", "sum"])]),("COND_FORMS",[("yes",[]),("is",["sum", "sum"]),("less",["sum", "sum"]),("not",["cond"]),("both",["cond", "cond"]),("either",["cond", "cond"])])],[("TooMany",[.own "TooMany",.own "PromiseError",.tValueError]),("NoCond",[.own "NoCond",.own "PromiseError",.tValueError]),("PromiseError",[.own "PromiseError",.tValueError])],["PromiseError", "NoBoxes", "NoCond", "NoHand", "NoHouse", "NoStart", "NoStep", "NoPaper", "NoProgram", "NoText", "NoName", "NoRow", "TooMany"]⟩
def rsd:List Str:=["TooMany", "NoCond", "PromiseError"]
abbrev pw:=PySem.Challenge.pw_handpromise_k08_what_is_no_condition
theorem chk:eQ ⟨[],[],(ix.map (iV pw)).map (·.x),sn.cns,sn.cls,true,sn.tbs.map (·.1),rsd⟩ pg.fns (ix.map (iV pw))=true:=by decide +kernel
theorem tw0:(pw.main.body.length != 0)=true:=by k_qdec
theorem lft:LeftO pw (lP pw) (nH pw) (λ_=>true) (λs=>fE pw sn s.heap) (λw=>iE pw sn w) 100000:=aEo (by kernel_rfl) rfl (λ_=>by kernel_rfl) λw os=>byRow2 "special-get-raises" (P:=λw=>aGV pw (lP pw) (nH pw) (λs=>fE pw sn s.heap) 100000 w os=some (true,openGood (lP pw) (nH pw),iE pw sn w)) (λw=>by
 have _:=tw0;unfold pw;rw[PySem.W.Fast.te7702358515582205573];kernel_rfl) (λw=>by
 have _:=tw0;unfold pw;rw[PySem.W.Fast.te7702358515582205573];kernel_rfl) w
end K08
end
noncomputable section
open PySem PySem.W PyProof.Rows Hh
set_option maxRecDepth 100000 in
set_option maxHeartbeats 0 in
theorem PySem.Challenge.cw_handpromise_k08_what_is_no_condition_holds : PySem.Challenge.rw_handpromise_k08_what_is_no_condition.Holds := by
 w_on; o_law; rename_i said
 refine aEt (l := PySem.Challenge.rw_handpromise_k08_what_is_no_condition) (k := 59) (f := 21) (x := "_law_script") (sl := ["_law_boxes_here", "_law_handed", "_law_cell"]) said K08.lft (by kernel_rfl) (by kernel_rfl) rfl rfl (by decide +kernel) ⟨rfl, rfl, rfl, rfl, rfl, by decide +kernel⟩ ?hw rfl rfl (by decide +kernel) (by decide +kernel) K08.chk rfl (by decide +kernel) rfl (by decide +kernel) ⟨rfl, rfl, by decide, by decide⟩ (by kernel_rfl) rfl K08.pure
 w_witness2
end
